import Derived.Test.YtonmihojfcjmjaaGreatBPr
import Derived.Test.YtonmihojfcjmjaaGreatBSa
/- Two ways to keep a game are one: slots. No memory in sight. -/
namespace Go.Proofs.YtonmihojfcjmjaaGreat.M
set_option linter.unusedVariables false

/-- One slot, kept in two ways, at the tick t. -/
structure RelS (t : Int) (p : PSeat) (s : Seat) : Prop where
  here : p.taken = s.here
  live : s.live = decide (0 < s.health)
  hp : p.health = s.health
  pos : p.place = s.pos
  home : p.home = s.home
  ammo : p.ammo = s.ammo
  gen : p.gen = s.gen % 256
  g0 : 0 ≤ s.gen
  last : p.last = s.last
  wait : s.wait = (List.range p.waiting.toNat).map p.q
  ready : s.here = true → (s.shot = -1 ∧ p.ready = 0) ∨ (0 ≤ s.shot ∧ p.ready = s.shot + 3)
  back : s.here = true → s.live = false → p.back = s.died + 8 ∧ t < p.back
  gone : s.here = false → s = Seat.none s.gen

theorem RelS.empty {t g h : Int} (h0 : 0 ≤ h) (hg : g = h % 256) : RelS t (PSeat.empty g) (Seat.none h) :=
  ⟨rfl, rfl, rfl, rfl, rfl, rfl, hg, h0, rfl, rfl, fun h => (by cases h), fun h => (by cases h), fun _ => rfl⟩
theorem RelS.isLive {t : Int} {p : PSeat} {s : Seat} (h : RelS t p s) : s.live = decide (0 < p.health) := by rw [h.hp]; exact h.live
theorem RelS.live_here {t : Int} {p : PSeat} {s : Seat} (h : RelS t p s) (hl : s.live = true) : s.here = true := by
  cases e : s.here
  · rw [h.gone e] at hl; cases hl
  · rfl
theorem RelS.len {t : Int} {p : PSeat} {s : Seat} (h : RelS t p s) : s.wait.length = p.waiting.toNat := by rw [h.wait]; simp
theorem RelS.give {t : Int} {p : PSeat} {s : Seat} (h : RelS t p s) (hn : s.here = false) (q : V3) : RelS t (p.give q) (Seat.arrive { Seat.none s.gen with here := true, home := q }) where
  here := rfl
  live := rfl
  hp := rfl
  pos := rfl
  home := rfl
  ammo := rfl
  gen := by show (p.gen + 1) % 256 = (s.gen + 1) % 256; rw [h.gen]; omega
  g0 := by show 0 ≤ s.gen + 1; have := h.g0; omega
  last := by show p.last = 0; rw [h.last, h.gone hn]; rfl
  wait := by
    have w := h.wait
    rw [h.gone hn] at w
    exact w
  ready := fun _ => .inl ⟨rfl, rfl⟩
  back := fun _ h => by cases h
  gone := fun h => by cases h
theorem range_map_snoc {α : Type} (f g : Nat → α) (n : Nat) (x : α) (h : ∀ i, i < n → g i = f i) (hx : g n = x) : (List.range (n + 1)).map g = (List.range n).map f ++ [x] := by
  rw [range_snoc, hx, range_congr h]
theorem RelS.put {t : Int} {p : PSeat} {s : Seat} (h : RelS t p s) (hs : s.here = true) (w0 : 0 ≤ p.waiting) (c : Cmd) : RelS t (p.put c) (s.queue c) where
  here := h.here
  live := h.live
  hp := h.hp
  pos := h.pos
  home := h.home
  ammo := h.ammo
  gen := h.gen
  g0 := h.g0
  last := rfl
  wait := by
    show s.wait ++ [c] = (List.range (p.waiting + 1).toNat).map (fun j : Nat => if (j : Int) = p.waiting then c else p.q j)
    rw [show (p.waiting + 1).toNat = p.waiting.toNat + 1 by omega, h.wait]
    exact (range_map_snoc _ _ _ _ (fun i hi => by rw [if_neg (by omega)]) (by rw [if_pos (by omega)])).symm
  ready := h.ready
  back := h.back
  gone := fun e => by have : s.here = false := e
                      rw [hs] at this; cases this
theorem RelS.revive {t : Int} {p : PSeat} {s : Seat} (h : RelS t p s) : RelS (t + 1) (p.revived (t + 1)) (s.back (t + 1)) := by
  have il := h.isLive
  by_cases e : s.here = true ∧ s.live = false ∧ s.died + 8 = t + 1
  · have e2 : p.taken = true ∧ ¬ 0 < p.health ∧ p.back ≤ t + 1 := by
      obtain ⟨e1, e2, e3⟩ := e
      refine ⟨by rw [h.here]; exact e1, ?_, ?_⟩
      · rw [e2] at il; exact of_decide_eq_false il.symm
      · have := h.back e1 e2; omega
    unfold PSeat.revived Seat.back
    rw [if_pos e, if_pos e2]
    exact ⟨h.here, rfl, rfl, h.home, h.home, rfl, by show (p.gen + 1) % 256 = (s.gen + 1) % 256; rw [h.gen]; omega, by show 0 ≤ s.gen + 1; have := h.g0; omega, h.last, h.wait, fun _ => .inl ⟨rfl, rfl⟩, fun _ h => (by cases h), fun h2 => by
      have : s.here = false := h2
      rw [e.1] at this; cases this⟩
  · have e2 : ¬ (p.taken = true ∧ ¬ 0 < p.health ∧ p.back ≤ t + 1) := fun ⟨k1, k2, k3⟩ => by
      rw [h.here] at k1
      rw [decide_eq_false k2] at il
      have := h.back k1 il
      exact e ⟨k1, il, by omega⟩
    unfold PSeat.revived Seat.back
    rw [if_neg e, if_neg e2]
    refine ⟨h.here, h.live, h.hp, h.pos, h.home, h.ammo, h.gen, h.g0, h.last, h.wait, h.ready, fun k1 k2 => ?_, h.gone⟩
    have b := h.back k1 k2
    refine ⟨b.1, ?_⟩
    by_cases k : s.died + 8 = t + 1
    · exact absurd ⟨k1, k2, k⟩ e
    · omega

theorem goal_one (p m : V3) : goalP p m = goal p m := rfl
theorem InB.near {p : V3} (h : InB cubeLo cubeHi p) : p.Near := by
  obtain ⟨a1, a2, a3, a4, a5, a6⟩ := h
  simp only [cubeLo, cubeHi] at a1 a2 a3 a4 a5 a6
  constructor <;> omega
theorem wayTo_near {p q : V3} (hp : InB cubeLo cubeHi p) (hq : InB cubeLo cubeHi q) : (wayTo p q).Near := by
  obtain ⟨a1, a2, a3, a4, a5, a6⟩ := hp
  obtain ⟨b1, b2, b3, b4, b5, b6⟩ := hq
  simp only [cubeLo, cubeHi] at a1 a2 a3 a4 a5 a6 b1 b2 b3 b4 b5 b6
  constructor <;> (simp only [wayTo]; omega)
theorem goal_cube (p m : V3) : InB cubeLo cubeHi (goal p m) := goal_in p m
theorem cub_near {ls : List Lf} (hc : ∀ l ∈ ls, l.lo.Cub ∧ l.hi.Cub) : ∀ l ∈ ls, l.lo.Near ∧ l.hi.Near := fun l hl => by
  have h := hc l hl
  have a := h.1
  have b := h.2
  obtain ⟨a1, a2, a3, a4, a5, a6⟩ := a
  obtain ⟨b1, b2, b3, b4, b5, b6⟩ := b
  constructor <;> (constructor <;> omega)
/-- Both ways ask the same of the map. -/
theorem moved_one {p m : V3} {ls : List Lf} (hp : InB cubeLo cubeHi p) (hc : ∀ l ∈ ls, l.lo.Cub ∧ l.hi.Cub) : hitB p (subV (goalP p m) p) ls = wallB p (wayTo p (goal p m)) ls := by
  obtain ⟨f, n, k, h⟩ := US_exists hp.near (wayTo_near hp (goal_cube p m)) ls (cub_near hc)
  rw [wallB_is h]
  exact hitB_is h
theorem walkR_in {p m : V3} {ls : List Lf} (hp : InB cubeLo cubeHi p) : InB cubeLo cubeHi (walkR ls p m) := by
  unfold walkR
  split
  · exact hp
  · exact goal_cube p m
theorem walkR_zone {b : ByteArray} {p m : V3} {ls : List Lf} (hg : Good b ls) (hp : InB cubeLo cubeHi p) (hz : 0 ≤ zP p ls (-1)) : 0 ≤ zP (walkR ls p m) ls (-1) := by
  unfold walkR
  split
  · exact hz
  · rename_i h
    exact hg.open (goal_cube p m) (no_wall hp.near (wayTo_near hp (goal_cube p m)) (cub_near hg.cub) h)

theorem RelS.obey {t : Int} {p : PSeat} {s : Seat} (h : RelS t p s) (w0 : 0 ≤ p.waiting) (w1 : p.waiting ≤ 4) (hp : InB cubeLo cubeHi p.place) {ls : List Lf} (hc : ∀ l ∈ ls, l.lo.Cub ∧ l.hi.Cub) : RelS t (p.obeyed ls) (s.obey ls) := by
  have il := h.isLive
  by_cases e0 : p.waiting = 0
  · have ew : s.wait = [] := by rw [h.wait, e0]; rfl
    unfold PSeat.obeyed Seat.obey
    rw [if_pos e0, ew]
    split
    · exact h
    · exact h
  · obtain ⟨n, hn⟩ : ∃ n : Nat, p.waiting.toNat = n + 1 := ⟨p.waiting.toNat - 1, by omega⟩
    have ew : s.wait = p.q 0 :: (List.range n).map (fun i => p.q (i + 1)) := by rw [h.wait, hn, range_head]
    have eh : s.here = true := by
      cases e : s.here
      · have := h.gone e
        rw [this] at ew
        cases ew
      · rfl
    have er : (List.range n).map (fun i => p.q (i + 1)) = (List.range (p.up).waiting.toNat).map p.up.q := by
      show _ = (List.range (p.waiting - 1).toNat).map (fun j => if j < 3 then p.q (j + 1) else p.q j)
      rw [show (p.waiting - 1).toNat = n by omega]
      exact range_congr (fun i hi => by rw [if_pos (by omega)])
    have base : RelS t p.up { s with wait := (List.range n).map (fun i => p.q (i + 1)) } :=
      ⟨h.here, h.live, h.hp, h.pos, h.home, h.ammo, h.gen, h.g0, h.last, er, h.ready, h.back, fun e => by
        have : s.here = false := e
        rw [eh] at this; cases this⟩
    unfold PSeat.obeyed Seat.obey
    rw [if_neg e0, ew, if_neg (show ¬ s.here = false from by rw [eh]; exact fun e => by cases e)]
    simp only
    by_cases el : 0 < p.health
    · rw [if_pos el, if_pos (by rw [il, decide_eq_true el])]
      unfold PSeat.moved walkR
      have pp : p.up.place = s.pos := h.pos
      have q := moved_one (m := (p.q 0).mv) (ls := ls) hp hc
      rw [show p.up.place = p.place from rfl, q, ← h.pos]
      by_cases ew2 : wallB p.place (wayTo p.place (goal p.place (p.q 0).mv)) ls = true
      · rw [if_pos ew2, if_pos ew2]
        exact ⟨base.here, base.live, base.hp, rfl, base.home, base.ammo, base.gen, base.g0, base.last, base.wait, base.ready, base.back, fun e => by
          have : s.here = false := e
          rw [eh] at this; cases this⟩
      · rw [if_neg ew2, if_neg ew2]
        exact ⟨base.here, base.live, base.hp, goal_one _ _, base.home, base.ammo, base.gen, base.g0, base.last, base.wait, base.ready, base.back, fun e => by
          have : s.here = false := e
          rw [eh] at this; cases this⟩
    · rw [if_neg el, if_neg (by rw [il, decide_eq_false el]; exact fun e => by cases e)]
      exact base
theorem order_one {t : Int} {p : PSeat} {s : Seat} (h : RelS t p s) (w0 : 0 ≤ p.waiting) (i : Nat) : s.fires i = if p.order.fire = true then [(i, p.order)] else [] := by
  have il := h.isLive
  unfold Seat.fires Seat.cmd PSeat.order
  by_cases e0 : p.waiting = 0
  · have ew : s.wait = [] := by rw [h.wait, e0]; rfl
    rw [if_pos e0, ew]
    split
    · rename_i c hc
      split at hc <;> cases hc
    · rfl
  · obtain ⟨n, hn⟩ : ∃ n : Nat, p.waiting.toNat = n + 1 := ⟨p.waiting.toNat - 1, by omega⟩
    have ew : s.wait = p.q 0 :: (List.range n).map (fun i => p.q (i + 1)) := by rw [h.wait, hn, range_head]
    have eh : s.here = true := by
      cases e : s.here
      · have := h.gone e
        rw [this] at ew
        cases ew
      · rfl
    rw [if_neg e0, ew]
    by_cases el : 0 < p.health
    · rw [if_pos el, if_neg (by rw [eh, il, decide_eq_true el]; exact fun e => by rcases e with e | e <;> cases e)]
      rfl
    · rw [if_neg el, if_pos (.inr (by rw [il, decide_eq_false el]))]
      rfl

end Go.Proofs.YtonmihojfcjmjaaGreat.M

/- Two ways to keep a game are one: games, and all calls but the tick's shots. No memory in sight. -/
namespace Go.Proofs.YtonmihojfcjmjaaGreat.M
set_option linter.unusedVariables false

theorem recsOf_append (a b : List Track) (i : Nat) (g : Int) : recsOf (a ++ b) i g = recsOf a i g ++ recsOf b i g := by
  unfold recsOf; rw [List.filter_append, List.map_append]
theorem recsOf_new {l : List Track} {i : Nat} {g : Int} (h : ∀ tr ∈ l, tr.slot = (i : Int) → tr.gen ≤ g) : recsOf l i (g + 1) = [] := by
  unfold recsOf
  rw [List.map_eq_nil_iff, List.filter_eq_nil_iff]
  intro tr htr
  simp only [Bool.and_eq_true, decide_eq_true_eq, not_and]
  intro e1 e2
  have := h tr htr e1
  omega
theorem recsOf_mem {l : List Track} {i : Nat} {g : Int} {r : Rec} (h : r ∈ recsOf l i g) : ∃ tr ∈ l, r = ⟨tr.tick, tr.pos⟩ := by
  unfold recsOf at h
  obtain ⟨tr, h1, h2⟩ := List.mem_map.1 h
  exact ⟨tr, (List.mem_filter.1 h1).1, h2.symm⟩
theorem recsOf_mark (s : Seat) (j i : Nat) (t g : Int) : recsOf (s.mark j t) i g = if j = i ∧ s.here = true ∧ s.live = true ∧ s.gen = g then [⟨t, s.pos⟩] else [] := by
  unfold Seat.mark recsOf
  by_cases h : s.here = true ∧ s.live = true
  · rw [if_pos h]
    by_cases e : j = i ∧ s.gen = g
    · rw [if_pos ⟨e.1, h.1, h.2, e.2⟩, List.filter_cons_of_pos (by simp [e.1, e.2])]
      rfl
    · rw [if_neg (fun k => e ⟨k.1, k.2.2.2⟩), List.filter_cons_of_neg (by
        simp only [Bool.and_eq_true, decide_eq_true_eq]
        intro k; exact e ⟨by omega, k.2⟩)]
      rfl
  · rw [if_neg h, if_neg (fun k => h ⟨k.2.1, k.2.2.1⟩)]
    rfl
theorem recsOf_marks (G : Game) (i : Nat) : ∀ n, recsOf (G.marks n) i (G.seat i).gen = if i < n ∧ (G.seat i).here = true ∧ (G.seat i).live = true then [⟨G.tick, (G.seat i).pos⟩] else []
  | 0 => by rw [if_neg (fun k => by omega)]; rfl
  | n + 1 => by
    show recsOf (G.marks n ++ (G.seat n).mark n G.tick) i (G.seat i).gen = _
    rw [recsOf_append, recsOf_marks G i n, recsOf_mark]
    by_cases e : n = i
    · subst e
      rw [if_neg (fun k => by omega), List.nil_append]
      by_cases k : (G.seat n).here = true ∧ (G.seat n).live = true
      · rw [if_pos ⟨rfl, k.1, k.2, rfl⟩, if_pos ⟨by omega, k⟩]
      · rw [if_neg (fun q => k ⟨q.2.1, q.2.2.1⟩), if_neg (fun q => k q.2)]
    · rw [if_neg (c := n = i ∧ _) (fun k => e k.1), List.append_nil]
      by_cases k : i < n ∧ (G.seat i).here = true ∧ (G.seat i).live = true
      · rw [if_pos k, if_pos ⟨by omega, k.2⟩]
      · rw [if_neg k, if_neg (fun q => k ⟨by omega, q.2⟩)]
theorem marks_len (G : Game) : ∀ n, (G.marks n).length ≤ n
  | 0 => Nat.le_refl 0
  | n + 1 => by
    show (G.marks n ++ (G.seat n).mark n G.tick).length ≤ n + 1
    rw [List.length_append]
    have := marks_len G n
    have : ((G.seat n).mark n G.tick).length ≤ 1 := by unfold Seat.mark; split <;> simp
    omega
theorem marks_mem {G : Game} {tr : Track} : ∀ n, tr ∈ G.marks n → ∃ j, j < n ∧ tr = ⟨j, (G.seat j).gen, G.tick, (G.seat j).pos⟩ ∧ (G.seat j).here = true
  | 0, h => by cases h
  | n + 1, h => by
    rcases List.mem_append.1 h with h | h
    · obtain ⟨j, h1, h2⟩ := marks_mem n h
      exact ⟨j, by omega, h2⟩
    · unfold Seat.mark at h
      split at h
      · rename_i k
        exact ⟨n, by omega, by simpa using h, k.1⟩
      · cases h
theorem add_recs (s : PSeat) (n0 : 0 ≤ s.count) (n1 : s.count ≤ 17) (r : Rec) : (s.add r).recs = last17 (s.recs ++ [r]) := by
  unfold PSeat.add
  by_cases h : 17 ≤ s.count
  · rw [if_pos h]
    have e : s.count = 17 := by omega
    have l : s.recs = s.track 0 :: (List.range 16).map (fun i => s.track (i + 1)) := by
      unfold PSeat.recs; rw [e]; exact range_head _ 16
    have q : (s.drop1.lay r).recs = (List.range 16).map (fun i => s.track (i + 1)) ++ [r] := by
      show (List.range ((16 : Int) + 1).toNat).map (fun i : Nat => if (i : Int) = 16 then r else if i + 1 < 17 then s.track (i + 1) else s.track i) = _
      exact range_map_snoc _ _ 16 _ (fun i hi => by rw [if_neg (by omega), if_pos (by omega)]) (by rw [if_pos (by omega)])
    rw [q, l]
    unfold last17
    rw [List.length_append, List.length_cons, List.length_map, List.length_range]
    rfl
  · rw [if_neg h]
    have q : (s.lay r).recs = s.recs ++ [r] := by
      show (List.range (s.count + 1).toNat).map (fun i : Nat => if (i : Int) = s.count then r else s.track i) = _
      rw [show (s.count + 1).toNat = s.count.toNat + 1 by omega]
      exact range_map_snoc _ _ _ _ (fun i hi => by rw [if_neg (by omega)]) (by rw [if_pos (by omega)])
    rw [q, last17_short]
    rw [List.length_append]
    unfold PSeat.recs
    rw [List.length_map, List.length_range]
    simp; omega

/-- A game, kept in two ways. u: up to where the records go; N: how many steps there were. -/
structure Rel (N u : Int) (P : PGame) (G : Game) : Prop where
  t : P.tick = G.tick
  s : ∀ i, i < 8 → RelS G.tick (P.seat i) (G.seat i)
  r : ∀ i, i < 8 → (G.seat i).live = true → (P.seat i).recs = last17 (G.recs i) ∧ Runs u (G.recs i)
  lg : ∀ tr ∈ G.log, ∀ i : Nat, i < 8 → tr.slot = (i : Int) → tr.gen ≤ (G.seat i).gen
  lo : ∀ tr ∈ G.log, M.Ok ⟨tr.tick, tr.pos⟩
  ln : (G.log.length : Int) ≤ 8 * u
  gb : ∀ i, i < 8 → (G.seat i).gen ≤ N + G.tick
  z : ∀ i, i < 8 → (G.seat i).here = true → 0 ≤ zP (G.seat i).pos G.leafs (-1) ∧ 0 ≤ zP (G.seat i).home G.leafs (-1)

theorem Rel.fresh (m : ByteArray) (ls : List Lf) : Rel 0 0 PGame.fresh (Game.fresh m ls) where
  t := rfl
  s := fun i _ => RelS.empty (by decide) rfl
  r := fun i _ h => by cases h
  lg := fun tr h => by cases h
  lo := fun tr h => by cases h
  ln := by show ((0 : Nat) : Int) ≤ 8 * 0; decide
  gb := fun i _ => by show (0 : Int) ≤ 0 + 0; decide
  z := fun i _ h => by cases h
theorem Rel.more {N N' u : Int} {P : PGame} {G : Game} (h : Rel N u P G) (hN : N ≤ N') : Rel N' u P G :=
  ⟨h.t, h.s, h.r, h.lg, h.lo, h.ln, fun i hi => by have := h.gb i hi; omega, h.z⟩
theorem Rel.put {N N' u : Int} {P : PGame} {G : Game} (h : Rel N u P G) (hN : N ≤ N') {i : Nat} {p : PSeat} {s : Seat} (hs : RelS G.tick p s) (hr : s.live = true → p.recs = last17 (recsOf G.log i s.gen) ∧ Runs u (recsOf G.log i s.gen))
    (hg : (G.seat i).gen ≤ s.gen) (hb : s.gen ≤ N' + G.tick) (hz : s.here = true → 0 ≤ zP s.pos G.leafs (-1) ∧ 0 ≤ zP s.home G.leafs (-1)) : Rel N' u (P.put i p) (G.put i s) where
  t := h.t
  s := fun k hk => by
    by_cases e : k = i
    · subst e; rw [PGame.put_at, Game.put_at]; exact hs
    · rw [PGame.put_ne _ _ e, Game.put_ne _ _ e]; exact h.s k hk
  r := fun k hk => by
    unfold Game.recs
    by_cases e : k = i
    · subst e; rw [PGame.put_at, Game.put_at]; exact hr
    · rw [PGame.put_ne _ _ e, Game.put_ne _ _ e]; exact h.r k hk
  lg := fun tr ht k hk e2 => by
    have := h.lg tr ht k hk e2
    by_cases e : k = i
    · subst e; rw [Game.put_at]; omega
    · rw [Game.put_ne _ _ e]; exact this
  lo := h.lo
  ln := h.ln
  gb := fun k hk => by
    by_cases e : k = i
    · subst e; rw [Game.put_at]; exact hb
    · rw [Game.put_ne _ _ e]; have := h.gb k hk; show (G.seat k).gen ≤ N' + G.tick; omega
  z := fun k hk => by
    by_cases e : k = i
    · subst e; rw [Game.put_at]; exact hz
    · rw [Game.put_ne _ _ e]; exact h.z k hk

theorem Rel.free {N u : Int} {P : PGame} {G : Game} (h : Rel N u P G) : ∀ n i, i + n ≤ 8 → P.freeFrom n i = G.freeFrom n i
  | 0, i, _ => rfl
  | n + 1, i, hi => by
    unfold PGame.freeFrom Game.freeFrom
    rw [(h.s i (by omega)).here, h.free n (i + 1) (by omega)]
theorem freeFrom_is {G : Game} {i : Nat} : ∀ n j, G.freeFrom n j = some i → i < j + n ∧ (G.seat i).here = false
  | 0, j, h => by cases h
  | n + 1, j, h => by
    unfold Game.freeFrom at h
    split at h
    · rename_i e
      have : j = i := by simpa using h
      subst this
      exact ⟨by omega, e⟩
    · have := freeFrom_is n (j + 1) h
      exact ⟨by omega, this.2⟩
/-- Connect. -/
theorem Rel.connect {N u : Int} {P : PGame} {G : Game} (h : Rel N u P G) (hu : u = G.tick) {m : ByteArray} (hg : Good m G.leafs) (p : V3) :
    (P.connect (inCube p && decide (0 ≤ zP p G.leafs (-1))) p).1 = (G.connect p).1 ∧ (P.connect (inCube p && decide (0 ≤ zP p G.leafs (-1))) p).2.1 = (G.connect p).2.1 ∧ Rel (N + 1) u (P.connect (inCube p && decide (0 ≤ zP p G.leafs (-1))) p).2.2 (G.connect p).2.2 := by
  have e : (inCube p && decide (0 ≤ zP p G.leafs (-1))) = (cubB p && decide (0 ≤ zR p G.leafs (-1))) := by
    show (cubB p && _) = _
    cases hc : cubB p
    · rfl
    · rw [hg.one ((inCube_iff p).1 hc)]
  unfold PGame.connect Game.connect
  rw [← e]
  by_cases hc : (inCube p && decide (0 ≤ zP p G.leafs (-1))) = false
  · rw [if_pos hc, if_pos hc]; exact ⟨rfl, rfl, h.more (by omega)⟩
  · rw [if_neg hc, if_neg hc]
    unfold PGame.free Game.free
    rw [h.free 8 0 (by omega)]
    cases ef : G.freeFrom 8 0 with
    | none => exact ⟨rfl, rfl, h.more (by omega)⟩
    | some i =>
      obtain ⟨i8, hn⟩ := freeFrom_is 8 0 ef
      refine ⟨rfl, rfl, h.put (by omega) ((h.s i (by omega)).give hn p) (fun _ => ?_) ?_ ?_ (fun _ => ?_)⟩
      · show _ = last17 (recsOf G.log i ((G.seat i).gen + 1)) ∧ Runs u (recsOf G.log i ((G.seat i).gen + 1))
        rw [recsOf_new (fun tr ht e => h.lg tr ht i (by omega) e)]
        exact ⟨rfl, Runs.nil u⟩
      · show (G.seat i).gen ≤ (G.seat i).gen + 1; omega
      · show (G.seat i).gen + 1 ≤ _; have := h.gb i (by omega); omega
      · have hc2 : (inCube p && decide (0 ≤ zP p G.leafs (-1))) = true := by simpa using hc
        rw [Bool.and_eq_true, decide_eq_true_eq] at hc2
        exact ⟨hc2.2, hc2.2⟩
theorem Rel.taken {N u : Int} {P : PGame} {G : Game} (h : Rel N u P G) (slot : Int) : P.takenB slot = G.hereB slot := by
  unfold PGame.takenB Game.hereB
  by_cases e : 0 ≤ slot ∧ slot < 8
  · rw [(h.s slot.toNat (by omega)).here]
  · by_cases e0 : 0 ≤ slot
    · rw [decide_eq_false (show ¬ slot < 8 by omega)]; simp
    · rw [decide_eq_false e0]; simp
theorem hereB_nat {G : Game} {slot : Int} (h : G.hereB slot = true) : ∃ i : Nat, slot = (i : Int) ∧ i < 8 ∧ (G.seat i).here = true := by
  unfold Game.hereB at h
  simp at h
  exact ⟨slot.toNat, by omega, by omega, h.2⟩
theorem Rel.leave {N u : Int} {P : PGame} {G : Game} (h : Rel N u P G) (slot : Int) : (P.leave slot).1 = (G.leave slot).1 ∧ Rel N u (P.leave slot).2 (G.leave slot).2 := by
  unfold PGame.leave Game.leave
  rw [h.taken slot]
  by_cases e : G.hereB slot = true
  · rw [if_pos e, if_pos e]
    obtain ⟨i, rfl, hi, hh⟩ := hereB_nat e
    have hs := h.s i hi
    exact ⟨rfl, h.put (Int.le_refl _) (RelS.empty hs.g0 hs.gen) (fun k => by cases k) (Int.le_refl _) (h.gb i hi) (fun k => by cases k)⟩
  · rw [if_neg e, if_neg e]; exact ⟨rfl, h⟩
theorem Rel.packet {N u : Int} {P : PGame} {G : Game} (h : Rel N u P G) (hk : P.Ok) (slot : Int) (c : Cmd) (e : Int) : (P.packet slot c e).1 = (G.packet slot c e).1 ∧ Rel N u (P.packet slot c e).2 (G.packet slot c e).2 := by
  unfold PGame.packet Game.packet
  rw [h.taken slot]
  by_cases e0 : G.hereB slot = false
  · rw [if_pos e0, if_pos e0]; exact ⟨rfl, h⟩
  rw [if_neg e0, if_neg e0]
  by_cases e1 : e ≠ 0
  · rw [if_pos e1, if_pos e1]; exact ⟨rfl, h⟩
  rw [if_neg e1, if_neg e1]
  obtain ⟨i, rfl, hi, hh⟩ := hereB_nat (by simpa using e0)
  have hs := h.s i hi
  rw [Int.toNat_natCast, hs.last]
  by_cases e2 : c.seq ≤ (G.seat i).last
  · rw [if_pos e2, if_pos e2]; exact ⟨rfl, h⟩
  rw [if_neg e2, if_neg e2]
  have hl := hs.len
  have w0 := (hk.s i).w0
  by_cases e3 : 4 ≤ (P.seat i).waiting
  · rw [if_pos e3, if_pos (by omega)]; exact ⟨rfl, h⟩
  · rw [if_neg e3, if_neg (by omega)]
    exact ⟨rfl, h.put (Int.le_refl _) (hs.put hh w0 c) (h.r i hi) (Int.le_refl _) (h.gb i hi) (h.z i hi)⟩

/- What is told. -/
theorem b8_gen (n : Int) : b8 (n % 256) = b8 n := by unfold b8; rw [Int.emod_emod_of_dvd n (by decide)]
theorem RelS.row {t : Int} {p : PSeat} {s : Seat} (h : RelS t p s) (j : Nat) : p.row j = s.entry j := by
  unfold PSeat.row Seat.entry
  rw [h.gen, b8_gen, h.hp, h.pos]
  rfl
theorem seesP_one {m : ByteArray} {ls : List Lf} (hg : Good m ls) {p q : V3} (hp : InB cubeLo cubeHi p) (hq : InB cubeLo cubeHi q) (zp : 0 ≤ zP p ls (-1)) (zq : 0 ≤ zP q ls (-1)) :
    seesP (prs m) (zP p ls (-1)) (zP q ls (-1)) = sees m (zR p ls (-1)) (zR q ls (-1)) := by
  rw [← hg.one hp, ← hg.one hq]
  have l1 := hg.le7 p
  have l2 := hg.le7 q
  obtain ⟨a, ha⟩ : ∃ a : Nat, zP p ls (-1) = (a : Int) := ⟨(zP p ls (-1)).toNat, by omega⟩
  obtain ⟨b, hb⟩ : ∃ b : Nat, zP q ls (-1) = (b : Int) := ⟨(zP q ls (-1)).toNat, by omega⟩
  rw [ha, hb]
  have := prs_sees hg.tp hg.pr a b (by omega) (by omega)
  rw [← this]
  unfold seesP
  rw [decide_eq_true (show (0 : Int) ≤ a by omega), decide_eq_true (show (a : Int) < 8 by omega), decide_eq_true (show (0 : Int) ≤ b by omega), decide_eq_true (show (b : Int) < 8 by omega)]
  have e : decide ((a : Int) = (b : Int)) = decide (a = b) := decide_eq_decide.2 Int.ofNat_inj
  rw [e]
  simp
theorem Rel.told {N u : Int} {P : PGame} {G : Game} (h : Rel N u P G) (hk : P.Ok) (hg : Good G.map G.leafs) {i j : Nat} (hi : i < 8) (hj : j < 8) (hh : (G.seat i).here = true) : P.toldB G.leafs (prs G.map) i j = G.told i j := by
  unfold PGame.toldB Game.told
  by_cases e : j = i
  · rw [decide_eq_true e, decide_eq_true e.symm]; rfl
  · rw [decide_eq_false e, decide_eq_false (fun k => e k.symm)]
    show showsP _ _ _ _ = _
    have si := h.s i hi
    have sj := h.s j hj
    unfold showsP
    cases el : (G.seat j).live
    · have : ¬ 0 < (P.seat j).health := by have := sj.isLive; rw [el] at this; exact of_decide_eq_false this.symm
      rw [decide_eq_false this]; simp
    · have hl : 0 < (P.seat j).health := by have := sj.isLive; rw [el] at this; exact of_decide_eq_true this.symm
      have jh := sj.live_here el
      rw [decide_eq_true hl, jh]
      have ci := (hk.s i).place
      have cj := (hk.s j).place
      have zi := (h.z i hi hh).1
      have zj := (h.z j hj jh).1
      rw [← si.pos] at zi
      rw [← sj.pos] at zj
      rw [seesP_one hg ci cj zi zj, si.pos, sj.pos]
      rfl
theorem Rel.rows {N u : Int} {P : PGame} {G : Game} (h : Rel N u P G) (hk : P.Ok) (hg : Good G.map G.leafs) {i : Nat} (hi : i < 8) (hh : (G.seat i).here = true) : ∀ n j, j + n ≤ 8 → P.rows G.leafs (prs G.map) i n j = G.entries i n j ∧ P.count G.leafs (prs G.map) i n j = G.count i n j
  | 0, j, _ => ⟨rfl, rfl⟩
  | n + 1, j, hj => by
    have ih := h.rows hk hg hi hh n (j + 1) (by omega)
    unfold PGame.rows PGame.count Game.entries Game.count
    rw [h.told hk hg hi (by omega) hh, ih.1, ih.2, (h.s j (by omega)).row]
    exact ⟨rfl, rfl⟩
theorem Rel.cool {N u : Int} {P : PGame} {G : Game} (h : Rel N u P G) (hk : P.Ok) {i : Nat} (hi : i < 8) (hh : (G.seat i).here = true) : (P.seat i).cooling P.tick = G.left (G.seat i) := by
  have := (h.s i hi).ready hh
  have r := hk.r i
  have t0 := hk.t0
  rw [h.t] at r t0 ⊢
  unfold PSeat.cooling Game.left bring
  rcases this with ⟨e1, e2⟩ | ⟨e1, e2⟩
  · rw [if_pos (by omega), if_neg (by omega)]
  · rw [if_pos e1]
    by_cases e : (P.seat i).ready ≤ G.tick
    · rw [if_pos e]
      by_cases e3 : (G.seat i).shot + 3 - G.tick < 0
      · rw [if_pos e3]
      · rw [if_neg e3, if_neg (by omega)]; omega
    · rw [if_neg e, if_neg (by omega), if_neg (by omega)]; omega
theorem Rel.snap {N u : Int} {P : PGame} {G : Game} (h : Rel N u P G) (hk : P.Ok) (hg : Good G.map G.leafs) (slot : Int) : P.snapS G.leafs (prs G.map) slot = G.snapS slot := by
  unfold PGame.snapS Game.snapS
  rw [h.taken slot]
  by_cases e : G.hereB slot = true
  · rw [if_pos e, if_pos e]
    obtain ⟨i, rfl, hi, hh⟩ := hereB_nat e
    rw [Int.toNat_natCast]
    unfold PGame.snap PGame.headP Game.snap
    obtain ⟨e1, e2⟩ := h.rows hk hg hi hh 8 0 (by omega)
    rw [e1, e2, h.cool hk hi hh, h.t, (h.s i hi).hp, (h.s i hi).ammo]
    have el : (P.seat i).liveN = fireN (G.seat i).live := by
      unfold PSeat.liveN fireN
      rw [(h.s i hi).isLive]
      by_cases q : 0 < (P.seat i).health
      · rw [if_pos q, decide_eq_true q]; rfl
      · rw [if_neg q, decide_eq_false q]; rfl
    rw [el]
    rfl
  · rw [if_neg e, if_neg e]

end Go.Proofs.YtonmihojfcjmjaaGreat.M

/- Two ways to keep a game are one: the tick. No memory in sight. -/
namespace Go.Proofs.YtonmihojfcjmjaaGreat.M
set_option linter.unusedVariables false

/-- Who comes back. -/
theorem Rel.backs {N : Int} {P : PGame} {G : Game} (h : Rel N G.tick P G) : Rel N G.tick P.backs G.backs := by
  have eP : ∀ i, i < 8 → P.backs.seat i = (P.seat i).revived (G.tick + 1) := fun i hi => by
    unfold PGame.backs; rw [PGame.map_in _ _ hi, h.t]; rfl
  have eG : ∀ i, i < 8 → G.backs.seat i = (G.seat i).back (G.tick + 1) := fun i hi => by
    unfold Game.backs; rw [Game.map_in _ _ hi]; rfl
  have ge : ∀ i, i < 8 → (G.seat i).gen ≤ (G.backs.seat i).gen := fun i hi => by
    rw [eG i hi]; unfold Seat.back; split
    · show (G.seat i).gen ≤ (G.seat i).gen + 1; omega
    · exact Int.le_refl _
  refine ⟨by show P.tick + 1 = G.tick + 1; rw [h.t], fun i hi => ?_, fun i hi hl => ?_, fun tr ht i hi e => ?_, h.lo, h.ln, fun i hi => ?_, fun i hi hh => ?_⟩
  · rw [eP i hi, eG i hi]; exact (h.s i hi).revive
  · have hs := h.s i hi
    unfold Game.recs
    rw [eP i hi]
    rw [eG i hi] at hl ⊢
    show _ = last17 (recsOf G.log i _) ∧ Runs G.tick (recsOf G.log i _)
    by_cases e : (G.seat i).here = true ∧ (G.seat i).live = false ∧ (G.seat i).died + 8 = G.tick + 1
    · have e2 : (P.seat i).taken = true ∧ ¬ 0 < (P.seat i).health ∧ (P.seat i).back ≤ G.tick + 1 := by
        obtain ⟨e1, e2, e3⟩ := e
        refine ⟨by rw [hs.here]; exact e1, ?_, ?_⟩
        · have il := hs.isLive; rw [e2] at il; exact of_decide_eq_false il.symm
        · have := hs.back e1 e2; omega
      unfold Seat.back PSeat.revived
      rw [if_pos e, if_pos e2]
      show _ = last17 (recsOf G.log i ((G.seat i).gen + 1)) ∧ Runs G.tick (recsOf G.log i ((G.seat i).gen + 1))
      rw [recsOf_new (fun tr ht e => h.lg tr ht i hi e)]
      exact ⟨rfl, Runs.nil _⟩
    · unfold Seat.back at hl ⊢
      rw [if_neg e] at hl ⊢
      unfold PSeat.revived
      rw [if_neg (fun k => by have il := hs.isLive; rw [hl] at il; exact k.2.1 (of_decide_eq_true il.symm))]
      exact h.r i hi hl
  · have := h.lg tr ht i hi e
    have := ge i hi
    omega
  · rw [eG i hi]
    have := h.gb i hi
    show _ ≤ N + (G.tick + 1)
    unfold Seat.back; split
    · show (G.seat i).gen + 1 ≤ _; omega
    · omega
  · rw [eG i hi] at hh ⊢
    show 0 ≤ zP _ G.leafs (-1) ∧ 0 ≤ zP _ G.leafs (-1)
    unfold Seat.back at hh ⊢
    split
    · rename_i e; exact ⟨(h.z i hi e.1).2, (h.z i hi e.1).2⟩
    · rename_i e; rw [if_neg e] at hh; exact h.z i hi hh

theorem obeyed_recs (s : PSeat) (ls : List Lf) : (s.obeyed ls).recs = s.recs := by
  unfold PSeat.obeyed
  split
  · rfl
  split
  · unfold PSeat.moved; split <;> rfl
  · rfl
theorem obey_same (s : Seat) (ls : List Lf) : (s.obey ls).here = s.here ∧ (s.obey ls).live = s.live ∧ (s.obey ls).gen = s.gen ∧ (s.obey ls).home = s.home := by
  unfold Seat.obey
  split
  · exact ⟨rfl, rfl, rfl, rfl⟩
  split
  · exact ⟨rfl, rfl, rfl, rfl⟩
  split <;> exact ⟨rfl, rfl, rfl, rfl⟩
theorem obey_pos (s : Seat) (ls : List Lf) : (s.obey ls).pos = s.pos ∨ ∃ m, (s.obey ls).pos = walkR ls s.pos m := by
  unfold Seat.obey
  split
  · exact .inl rfl
  split
  · exact .inl rfl
  split
  · exact .inr ⟨_, rfl⟩
  · exact .inl rfl
/-- Who walks. -/
theorem Rel.walks {N : Int} {P : PGame} {G : Game} (h : Rel N G.tick P G) (hk : P.Ok) (ht : ¬ 3000 ≤ P.tick) {m : ByteArray} (hg : Good m G.leafs) : Rel N G.tick (P.walks G.leafs) G.walks := by
  have hb := h.backs
  have kb := hk.backs ht
  have eP : ∀ i, i < 8 → (P.walks G.leafs).seat i = (P.backs.seat i).obeyed G.leafs := fun i hi => by
    unfold PGame.walks; rw [PGame.map_in _ _ hi]
  have eG : ∀ i, i < 8 → G.walks.seat i = (G.backs.seat i).obey G.leafs := fun i hi => by
    unfold Game.walks; rw [Game.map_in _ _ hi]
  refine ⟨hb.t, fun i hi => ?_, fun i hi hl => ?_, fun tr ht i hi e => ?_, hb.lo, hb.ln, fun i hi => ?_, fun i hi hh => ?_⟩
  · rw [eP i hi, eG i hi]; exact (hb.s i hi).obey (kb.s i).w0 (kb.s i).w1 (kb.s i).place hg.cub
  · unfold Game.recs
    rw [eP i hi, obeyed_recs]
    rw [eG i hi] at hl ⊢
    rw [(obey_same _ _).2.1] at hl
    rw [(obey_same _ _).2.2.1]
    exact hb.r i hi hl
  · rw [eG i hi, (obey_same _ _).2.2.1]; exact hb.lg tr ht i hi e
  · rw [eG i hi, (obey_same _ _).2.2.1]; exact hb.gb i hi
  · rw [eG i hi] at hh ⊢
    rw [(obey_same _ _).1] at hh
    rw [(obey_same _ _).2.2.2]
    have z := hb.z i hi hh
    refine ⟨?_, z.2⟩
    rcases obey_pos (G.backs.seat i) G.leafs with e | ⟨q, e⟩
    · rw [e]; exact z.1
    · rw [e]
      refine walkR_zone hg ?_ z.1
      rw [← (hb.s i hi).pos]; exact (kb.s i).place
/-- All that are live have a record. -/
def Full (G : Game) : Prop := ∀ i, i < 8 → (G.seat i).live = true → G.recs i ≠ []
theorem note_keep (p : PSeat) (t : Int) : (p.note t).taken = p.taken ∧ (p.note t).health = p.health ∧ (p.note t).place = p.place ∧ (p.note t).home = p.home ∧ (p.note t).ammo = p.ammo ∧ (p.note t).gen = p.gen ∧ (p.note t).last = p.last ∧ (p.note t).waiting = p.waiting ∧ (p.note t).q = p.q ∧ (p.note t).ready = p.ready ∧ (p.note t).back = p.back := by
  unfold PSeat.note
  split
  · unfold PSeat.add; split <;> exact ⟨rfl, rfl, rfl, rfl, rfl, rfl, rfl, rfl, rfl, rfl, rfl⟩
  · exact ⟨rfl, rfl, rfl, rfl, rfl, rfl, rfl, rfl, rfl, rfl, rfl⟩
theorem RelS.note {t u : Int} {p : PSeat} {s : Seat} (h : RelS t p s) : RelS t (p.note u) s := by
  obtain ⟨a1, a2, a3, a4, a5, a6, a7, a8, a9, a10, a11⟩ := note_keep p u
  exact ⟨by rw [a1]; exact h.here, h.live, by rw [a2]; exact h.hp, by rw [a3]; exact h.pos, by rw [a4]; exact h.home, by rw [a5]; exact h.ammo, by rw [a6]; exact h.gen, h.g0, by rw [a7]; exact h.last, by rw [a8, a9]; exact h.wait, by rw [a10]; exact h.ready, by rw [a11]; exact h.back, h.gone⟩
/-- What is recorded. -/
theorem Rel.notes {N : Int} {P : PGame} {G : Game} (h : Rel N G.tick P G) (hk : P.Ok) (ht : ¬ 3000 ≤ P.tick) {m : ByteArray} (hg : Good m G.leafs) : Rel N (G.tick + 1) (P.notes G.leafs) G.notes ∧ Full G.notes := by
  have hw := h.walks hk ht hg
  have kw := hk.walks ht G.leafs
  have t1 : G.walks.tick = G.tick + 1 := rfl
  have eP : ∀ i, i < 8 → (P.notes G.leafs).seat i = ((P.walks G.leafs).seat i).note (G.tick + 1) := fun i hi => by
    unfold PGame.notes; rw [PGame.map_in _ _ hi, h.t]
  have eR : ∀ i, i < 8 → G.notes.recs i = G.walks.recs i ++ (if (G.walks.seat i).live = true then [⟨G.tick + 1, (G.walks.seat i).pos⟩] else []) := fun i hi => by
    show recsOf (G.walks.log ++ G.walks.marks 8) i (G.walks.seat i).gen = _
    rw [recsOf_append, recsOf_marks]
    by_cases e : (G.walks.seat i).live = true
    · rw [if_pos ⟨hi, (hw.s i hi).live_here e, e⟩, if_pos e]; rfl
    · rw [if_neg (fun k => e k.2.2), if_neg e]; rfl
  have mk : ∀ tr ∈ G.notes.log, tr ∈ G.walks.log ∨ ∃ j : Nat, j < 8 ∧ tr = ⟨j, (G.walks.seat j).gen, G.walks.tick, (G.walks.seat j).pos⟩ := fun tr ht => by
    rcases List.mem_append.1 (show tr ∈ G.walks.log ++ G.walks.marks 8 from ht) with k | k
    · exact .inl k
    · obtain ⟨j, h1, h2, _⟩ := marks_mem 8 k; exact .inr ⟨j, h1, h2⟩
  refine ⟨⟨hw.t, fun i hi => ?_, fun i hi hl => ?_, fun tr htr i hi e => ?_, fun tr htr => ?_, ?_, hw.gb, hw.z⟩, fun i hi hl => ?_⟩
  · rw [eP i hi]; exact (hw.s i hi).note
  · have hl : (G.walks.seat i).live = true := hl
    rw [eP i hi, eR i hi, if_pos hl]
    obtain ⟨r1, r2⟩ := hw.r i hi hl
    have il := (hw.s i hi).isLive
    rw [hl] at il
    refine ⟨?_, r2.snoc rfl⟩
    unfold PSeat.note
    rw [if_pos (of_decide_eq_true il.symm), add_recs _ (kw.s i).n0 (kw.s i).n1, r1, last17_snoc, (hw.s i hi).pos]
  · rcases mk tr htr with k | ⟨j, hj, rfl⟩
    · exact hw.lg tr k i hi e
    · have : j = i := by have : (j : Int) = (i : Int) := e
                         omega
      subst this
      exact Int.le_refl _
  · rcases mk tr htr with k | ⟨j, hj, rfl⟩
    · exact hw.lo tr k
    · have c := (kw.s j).place
      rw [(hw.s j hj).pos] at c
      have t0 := hk.t0
      rw [h.t] at t0 ht
      exact ⟨by show 0 ≤ G.tick + 1; omega, by show G.tick + 1 ≤ 3000; omega, cube_in c⟩
  · show ((G.walks.log ++ G.walks.marks 8).length : Int) ≤ 8 * (G.tick + 1)
    rw [List.length_append]
    have := hw.ln
    have := marks_len G.walks 8
    omega
  · have hl : (G.walks.seat i).live = true := hl
    rw [eR i hi, if_pos hl]
    simp

/- Shots. -/
theorem time_one (tick t : Int) : timeP tick t = bring t (256 * (tick - 16)) (256 * tick) := rfl
theorem RelS.paid {t : Int} {p : PSeat} {s : Seat} (h : RelS t p s) (h0 : 0 ≤ t) (hs : s.here = true) : RelS t (p.spent t) (s.paid t) :=
  ⟨h.here, h.live, h.hp, h.pos, h.home, by show p.ammo - 1 = s.ammo - 1; rw [h.ammo], h.gen, h.g0, h.last, h.wait, fun _ => .inr ⟨h0, rfl⟩, h.back, fun e => by
    have : s.here = false := e
    rw [hs] at this; cases this⟩
theorem RelS.harm {t x : Int} {p : PSeat} {s : Seat} (h : RelS t p s) (hs : s.here = true) (hl : s.live = true) : RelS t (p.hurt x t) (s.harm x t) := by
  have hp := h.hp
  unfold PSeat.hurt Seat.harm
  by_cases e : x < p.health
  · rw [if_pos e, if_pos (by omega)]
    exact ⟨h.here, by show s.live = decide (0 < s.health - x); rw [hl, decide_eq_true (by omega)], by show p.health - x = s.health - x; rw [hp], h.pos, h.home, h.ammo, h.gen, h.g0, h.last, h.wait, h.ready, h.back, fun e => by
      have : s.here = false := e
      rw [hs] at this; cases this⟩
  · rw [if_neg e, if_neg (by omega)]
    exact ⟨h.here, rfl, rfl, h.pos, h.home, h.ammo, h.gen, h.g0, h.last, h.wait, h.ready, fun _ _ => ⟨rfl, by show t < t + 8; omega⟩, fun e => by
      have : s.here = false := e
      rw [hs] at this; cases this⟩
theorem hurt_recs (p : PSeat) (x t : Int) : (p.hurt x t).recs = p.recs := by unfold PSeat.hurt; split <;> rfl
theorem harm_same (s : Seat) (x t : Int) : (s.harm x t).gen = s.gen ∧ (s.harm x t).pos = s.pos ∧ (s.harm x t).home = s.home ∧ (s.harm x t).here = s.here ∧ ((s.harm x t).live = true → s.live = true) := by
  unfold Seat.harm; split
  · exact ⟨rfl, rfl, rfl, rfl, fun h => h⟩
  · exact ⟨rfl, rfl, rfl, rfl, fun h => by cases h⟩
theorem Rel.can {N u : Int} {P : PGame} {G : Game} (h : Rel N u P G) (hk : P.Ok) {i : Nat} (hi : i < 8) : P.canShoot i = G.mayShoot i := by
  have hs := h.s i hi
  unfold PGame.canShoot Game.mayShoot
  rw [← hs.isLive, hs.ammo]
  cases e : (G.seat i).live
  · rfl
  · have r := hs.ready (hs.live_here e)
    have t0 := hk.t0
    rw [h.t] at t0 ⊢
    congr 1
    rcases r with ⟨r1, r2⟩ | ⟨r1, r2⟩
    · rw [decide_eq_true (by omega), decide_eq_false (show ¬ 0 ≤ (G.seat i).shot by omega)]; rfl
    · rw [decide_eq_true r1, r2]
      by_cases q : (G.seat i).shot + 3 ≤ G.tick
      · rw [decide_eq_true q, decide_eq_false (by omega)]; rfl
      · rw [decide_eq_false q, decide_eq_true (by omega)]; rfl
theorem Rel.stood {N : Int} {P : PGame} {G : Game} (h : Rel N G.tick P G) (hf : Full G) {i : Nat} (hi : i < 8) (hl : (G.seat i).live = true) {t : Int} (ht : 256 * (G.tick - 16) ≤ t) : (P.seat i).poseAt t = G.stood i t := by
  unfold PSeat.poseAt Game.stood
  obtain ⟨r1, r2⟩ := h.r i hi hl
  rw [r1, pose_last r2 ht, if_neg]
  intro e
  exact hf i hi hl (List.isEmpty_iff.1 e)
/-- The one that is struck first, whatever is solid. -/
theorem Rel.first {N : Int} {P : PGame} {G : Game} (h : Rel N G.tick P G) (hf : Full G) {sh : Nat} {p d : V3} {t : Int} (ht : 256 * (G.tick - 16) ≤ t) : ∀ n, n ≤ 8 → P.firstTo sh p d t n = firstP sh (fun j => (G.seat j).here && (G.seat j).live) (fun j => hitAt p d (G.stood j t)) n
  | 0, _ => rfl
  | n + 1, hn => by
    have ih := h.first hf (sh := sh) (p := p) (d := d) ht n (by omega)
    have hs := h.s n (by omega)
    show P.look sh p d t n (P.firstTo sh p d t n) = lookP _ _ _ _ (firstP _ _ _ n)
    rw [ih]
    generalize firstP sh (fun j => (G.seat j).here && (G.seat j).live) (fun j => hitAt p d (G.stood j t)) n = a
    unfold PGame.look lookP
    simp only
    have il := hs.isLive
    by_cases e : n = sh ∨ ¬ 0 < (P.seat n).health
    · rw [if_pos e, if_pos (c := n = sh ∨ ((G.seat n).here && (G.seat n).live) = false)]
      rcases e with e | e
      · exact .inl e
      · right; rw [il, decide_eq_false e]; simp
    · have el : 0 < (P.seat n).health := by
        by_cases k : 0 < (P.seat n).health
        · exact k
        · exact absurd (.inr k) e
      have gl : (G.seat n).live = true := by rw [il, decide_eq_true el]
      rw [if_neg e, if_neg (c := n = sh ∨ ((G.seat n).here && (G.seat n).live) = false) (fun k => by
        rcases k with k | k
        · exact e (.inl k)
        · rw [gl, hs.live_here gl] at k; cases k), h.stood hf (by omega) gl ht]
theorem wall_pos {p d : V3} {ls : List Lf} : WallPos (entO (US p d ls)) := fun n k h => entO_pos h
/-- A shot. -/
theorem Rel.shot {N : Int} {P : PGame} {G : Game} (h : Rel N G.tick P G) (hf : Full G) (hk : P.Ok) {i : Nat} (hi : i < 8) (c : Cmd) : Rel N G.tick (P.shoot G.leafs i c) (G.shot i c) ∧ Full (G.shot i c) := by
  unfold PGame.shoot Game.shot
  rw [h.can hk hi]
  by_cases hc : G.mayShoot i = true
  · rw [if_pos hc, if_pos hc]
    have hs := h.s i hi
    have gl : (G.seat i).live = true := by
      unfold Game.mayShoot at hc
      simp only [Bool.and_eq_true] at hc
      exact hc.1.1
    have hh := hs.live_here gl
    have t0 := hk.t0
    rw [h.t] at t0 ⊢
    have h1 : Rel N G.tick (P.put i ((P.seat i).spent G.tick)) (G.put i ((G.seat i).paid G.tick)) := h.put (Int.le_refl _) (hs.paid t0 hh) (h.r i hi) (Int.le_refl _) (h.gb i hi) (h.z i hi)
    have f1 : Full (G.put i ((G.seat i).paid G.tick)) := fun k hk2 hl => by
      unfold Game.recs
      by_cases e : k = i
      · subst e; rw [Game.put_at] at hl ⊢; exact hf k hk2 hl
      · rw [Game.put_ne _ _ e] at hl ⊢; exact hf k hk2 hl
    have tt : (P.put i ((P.seat i).spent G.tick)).tick = G.tick := h.t
    have gt : (G.put i ((G.seat i).paid G.tick)).tick = G.tick := rfl
    have gl2 : (G.put i ((G.seat i).paid G.tick)).leafs = G.leafs := rfl
    rw [hs.pos, time_one]
    unfold Game.victim
    rw [gl2]
    generalize (P.put i ((P.seat i).spent G.tick)) = P1 at h1 tt ⊢
    generalize (G.put i ((G.seat i).paid G.tick)) = G1 at h1 f1 gt gl2 ⊢
    rw [← gt] at h1
    have ht : 256 * (G1.tick - 16) ≤ bring c.time (256 * (G.tick - 16)) (256 * G.tick) := by rw [gt]; exact (bring_bd (by omega)).1
    have fi := h1.first f1 (sh := i) (p := (G.seat i).pos) (d := wayP c.aim) ht 8 (by omega)
    rw [fi]
    have on := first_one (wall := entO (US (G.seat i).pos (wayP c.aim) G.leafs)) wall_pos (sh := i) (live := fun j => (G1.seat j).here && (G1.seat j).live) (h := fun j => hitAt (G.seat i).pos (wayP c.aim) (G1.stood j (bring c.time (256 * (G.tick - 16)) (256 * G.tick)))) (fun j => hitAt_pos _ _ _) 8
    have is := firstTo_is P1 i (G.seat i).pos (wayP c.aim) (bring c.time (256 * (G.tick - 16)) (256 * G.tick)) 8
    rw [fi] at is
    generalize firstP i (fun j => (G1.seat j).here && (G1.seat j).live) (fun j => hitAt (G.seat i).pos (wayP c.aim) (G1.stood j (bring c.time (256 * (G.tick - 16)) (256 * G.tick)))) 8 = v at on is ⊢
    generalize firstR (entO (US (G.seat i).pos (wayP c.aim) G.leafs)) i (fun j => (G1.seat j).here && (G1.seat j).live) (fun j => hitAt (G.seat i).pos (wayP c.aim) (G1.stood j (bring c.time (256 * (G.tick - 16)) (256 * G.tick)))) 8 = r at on ⊢
    rcases on with ⟨o1, rfl⟩ | ⟨o1, o2⟩
    · obtain ⟨v1, v2⟩ := r
      cases v2 with
      | none => cases o1
      | some q =>
        obtain ⟨a, k, x⟩ := q
        unfold PGame.strike Game.harmed
        simp only
        rw [if_pos (show reachB (entO (US (G.seat i).pos (wayP c.aim) G.leafs)) a k = true from o1), tt, gt]
        rcases is with e | ⟨j, e1, e2, e3, e4, e5⟩
        · cases e
        · have e1 : v1 = j := e1
          subst e1
          have sv := h1.s v1 e2
          have lv : (G1.seat v1).live = true := by rw [sv.isLive, decide_eq_true e4]
          have hv := sv.live_here lv
          obtain ⟨k1, k2, k3, k4, k5⟩ := harm_same (G1.seat v1) x G.tick
          rw [← gt] at k1 k2 k3 k4 k5 ⊢
          refine ⟨h1.put (Int.le_refl _) (sv.harm hv lv) (fun hl => ?_) (by rw [k1]; exact Int.le_refl _) (by rw [k1]; exact h1.gb v1 e2) (fun _ => by rw [k2, k3]; exact h1.z v1 e2 hv), fun n hn hl => ?_⟩
          · rw [hurt_recs, k1]; exact h1.r v1 e2 (k5 hl)
          · unfold Game.recs
            by_cases e : n = v1
            · subst e; rw [Game.put_at] at hl ⊢; rw [k1]; exact f1 n hn (k5 hl)
            · rw [Game.put_ne _ _ e] at hl ⊢; exact f1 n hn hl
    · have e1 : P1.strike G.leafs (G.seat i).pos (wayP c.aim) v = P1 := by
        unfold PGame.strike
        split
        · rfl
        · rename_i a k x e
          rw [if_neg]
          intro z
          rw [e] at o1
          exact o1 z
      have e2 : G1.harmed r = G1 := by unfold Game.harmed; rw [o2]
      rw [e1, e2, ← gt]
      exact ⟨h1, f1⟩
  · rw [if_neg hc, if_neg hc]; exact ⟨h, hf⟩
theorem shot_keep (G : Game) (i : Nat) (c : Cmd) : (G.shot i c).tick = G.tick ∧ (G.shot i c).leafs = G.leafs ∧ (G.shot i c).map = G.map ∧ (G.shot i c).log = G.log := by
  unfold Game.shot
  split
  · unfold Game.harmed
    split <;> exact ⟨rfl, rfl, rfl, rfl⟩
  · exact ⟨rfl, rfl, rfl, rfl⟩
theorem shotAll_keep : ∀ (l : List (Nat × Cmd)) (G : Game), (shotAll G l).tick = G.tick ∧ (shotAll G l).leafs = G.leafs ∧ (shotAll G l).map = G.map ∧ (shotAll G l).log = G.log
  | [], G => ⟨rfl, rfl, rfl, rfl⟩
  | q :: l, G => by
    have h := shotAll_keep l (G.shot q.1 q.2)
    obtain ⟨a, b, c, d⟩ := shot_keep G q.1 q.2
    exact ⟨h.1.trans a, h.2.1.trans b, h.2.2.1.trans c, h.2.2.2.trans d⟩
theorem shotAll_append (G : Game) (a b : List (Nat × Cmd)) : shotAll G (a ++ b) = shotAll (shotAll G a) b := by unfold shotAll; rw [List.foldl_append]
/-- All shots of a tick. -/
theorem Rel.shots {N : Int} {P : PGame} {G : Game} (h : Rel N G.tick P G) (hf : Full G) (hk : P.Ok) (cm : Nat → Cmd) (f : Nat → List (Nat × Cmd)) (hcf : ∀ n, n < 8 → f n = if (cm n).fire = true then [(n, cm n)] else []) (fs : Nat → List (Nat × Cmd)) (f0 : fs 0 = []) (fn : ∀ n, fs (n + 1) = fs n ++ f n) : ∀ n, n ≤ 8 →
    Rel N G.tick (P.shootTo G.leafs cm n) (shotAll G (fs n)) ∧ Full (shotAll G (fs n))
  | 0, _ => by rw [f0]; exact ⟨h, hf⟩
  | n + 1, hn => by
    obtain ⟨i1, i2⟩ := h.shots hf hk cm f hcf fs f0 fn n (by omega)
    obtain ⟨k1, k2, _, _⟩ := shotAll_keep (fs n) G
    have ok := hk.shootTo G.leafs cm n
    rw [fn, shotAll_append, hcf n (by omega)]
    unfold PGame.shootTo
    split
    · rw [← k1] at i1
      have := i1.shot i2 ok (i := n) (by omega) (cm n)
      rw [k1, k2] at this
      exact this
    · exact ⟨i1, i2⟩
/-- A tick. -/
theorem Rel.step {N : Int} {P : PGame} {G : Game} (h : Rel N G.tick P G) (hk : P.Ok) {m : ByteArray} (hg : Good m G.leafs) : (P.step G.leafs).1 = G.step.1 ∧ Rel N G.step.2.tick (P.step G.leafs).2 G.step.2 ∧ G.step.2.leafs = G.leafs ∧ G.step.2.map = G.map := by
  unfold PGame.step Game.step
  rw [h.t]
  by_cases e : 3000 ≤ G.tick
  · rw [if_pos e, if_pos e]; exact ⟨rfl, h, rfl, rfl⟩
  · rw [if_neg e, if_neg e]
    have e2 : ¬ 3000 ≤ P.tick := by rw [h.t]; exact e
    obtain ⟨n1, n2⟩ := h.notes hk e2 hg
    have hb := h.backs
    have kb := hk.backs e2
    have := Rel.shots (G := G.notes) (N := N) n1 n2 (hk.notes e2 G.leafs) P.orders (fun n => (G.backs.seat n).fires n) (fun n hn => order_one (hb.s n hn) (kb.s n).w0 n) G.backs.firesTo rfl (fun n => rfl) 8 (by omega)
    obtain ⟨k1, k2, k3, k4⟩ := shotAll_keep (G.backs.firesTo 8) G.notes
    refine ⟨rfl, ?_, k2, k3⟩
    show Rel N (shotAll G.notes (G.backs.firesTo 8)).tick _ (shotAll G.notes (G.backs.firesTo 8))
    rw [k1]
    exact this.1

end Go.Proofs.YtonmihojfcjmjaaGreat.M
