import Derived.Test.YtonmihojfcjmjabBKp
import Derived.Test.YtonmihojfcjmjabBPr
/- Rewound: a walker at an even pace, and a shot at where it was. No memory in sight. -/
namespace Go.Proofs.Ytonmihojfcjmjab.M
set_option linter.unusedVariables false

def z0S : ByteArray := ⟨#[48]⟩
def z0L : List Lf := [⟨⟨0, 0, 0⟩, ⟨4096, 4096, 4096⟩, 0⟩]
theorem z0_err : errS z0S = (0, 0) := by kernel_rfl
theorem z0_top : (top z0S).2.leaves = z0L := by kernel_rfl
theorem z0_cub : ∀ l ∈ z0L, l.lo.Cub ∧ l.hi.Cub := by
  intro l hl
  simp only [z0L, List.mem_cons, List.not_mem_nil, or_false] at hl
  subst hl
  exact ⟨⟨by decide, by decide, by decide, by decide, by decide, by decide⟩, ⟨by decide, by decide, by decide, by decide, by decide, by decide⟩⟩
theorem z0_zone {p : V3} (h : InB cubeLo cubeHi p) : zP p z0L (-1) = 0 := by
  unfold z0L
  rw [zP, if_pos (holdsB2_iff.2 h), if_neg (by decide), zP]
theorem z0_can {p : V3} (h : InB cubeLo cubeHi p) : (inCube p && decide (0 ≤ zP p z0L (-1))) = true := by
  rw [z0_zone h, (inCube_iff p).2 h]; rfl
theorem z0_US (p d : V3) : EntG (US p d z0L) false 0 0 :=
  ⟨(fun x => by cases x), (fun x => by cases x), fun _ => ⟨rfl, rfl, fun m k _ _ _ ⟨l, hm, hz, _⟩ => by
    simp only [z0L, List.mem_cons, List.not_mem_nil, or_false] at hm
    subst hm; cases hz⟩⟩
theorem z0_hit (p d : V3) : hitB p d z0L = false := hitB_is (z0_US p d)
theorem z0_ent (p d : V3) : entO (US p d z0L) = Option.none := by rw [entO_is (z0_US p d)]; rfl
theorem z0_moved (s : PSeat) (m : V3) : s.moved z0L m = { s with place := goalP s.place m } := by unfold PSeat.moved; rw [z0_hit, if_neg (by decide)]
theorem z0_cost (p d q : V3) : cost z0L p d q = match hitAt p d q with | Option.none => 0 | some (_, _, x) => x := by
  unfold cost
  rw [z0_ent]
  cases hitAt p d q with
  | none => rfl
  | some x => rfl

/-- The walker's record of a tick. -/
def wrec (v : Int) (n : Nat) : Rec := ⟨n, ⟨2048, 2048 + n * v, 2048⟩⟩
/-- The walker at the time T. -/
def wat (v T : Int) : V3 := ⟨2048, 2048 + (T / 256) * v + (T % 256) * v / 256, 2048⟩

theorem wat_at (v : Int) (n : Nat) : wat v (256 * n) = (wrec v n).pos := by
  unfold wat wrec
  have e1 : (256 * (n : Int)) / 256 = n := by omega
  have e2 : (256 * (n : Int)) % 256 = 0 := by omega
  rw [e1, e2, Int.zero_mul]
  simp
theorem mid_wat (v : Int) (f : Nat) (T : Int) (h1 : 256 * (f : Int) ≤ T) (h2 : T < 256 * ((f + 1 : Nat) : Int)) : mid (wrec v f) (wrec v (f + 1)) T = wat v T := by
  have e1 : T / 256 = f := by omega
  have e2 : T % 256 = T - 256 * f := by omega
  have s : ∀ a : Int, blend a a (T - 256 * (f : Int)) (256 * ((f + 1 : Nat) : Int) - T) = a := fun a => by
    unfold blend
    have g : T - 256 * (f : Int) + (256 * ((f + 1 : Nat) : Int) - T) = 256 := by omega
    rw [g, ← Int.mul_add, Int.add_comm (256 * ((f + 1 : Nat) : Int) - T), g]
    omega
  have y : blend (2048 + f * v) (2048 + ((f + 1 : Nat) : Int) * v) (T - 256 * (f : Int)) (256 * ((f + 1 : Nat) : Int) - T) = 2048 + f * v + (T - 256 * f) * v / 256 := by
    unfold blend
    have g : T - 256 * (f : Int) + (256 * ((f + 1 : Nat) : Int) - T) = 256 := by omega
    have k : 2048 + ((f + 1 : Nat) : Int) * v = (2048 + f * v) + v := by rw [Int.natCast_add, Int.add_mul]; omega
    rw [g, k]
    generalize 2048 + (f : Int) * v = a
    have : a * (256 * ((f + 1 : Nat) : Int) - T) + (a + v) * (T - 256 * (f : Int)) = a * 256 + (T - 256 * f) * v := by
      rw [Int.add_mul, ← Int.add_assoc, ← Int.mul_add, Int.add_comm (256 * ((f + 1 : Nat) : Int) - T), g, Int.mul_comm v]
    rw [this, Int.add_comm, Int.add_mul_ediv_right _ _ (by decide), Int.add_comm]
  unfold mid wat
  rw [e1, e2]
  exact congr (congr (congrArg V3.mk (s 2048)) y) (s 2048)

theorem poseF_wat (v T : Int) : ∀ (k f : Nat), 256 * (f : Int) ≤ T → T ≤ 256 * ((f + k : Nat) : Int) → poseF (wrec v f) T ((List.range k).map (fun i => wrec v (f + 1 + i))) = wat v T
  | 0, f, h1, h2 => by
    have : T = 256 * (f : Int) := by rw [Nat.add_zero] at h2; omega
    rw [this, wat_at]; rfl
  | k + 1, f, h1, h2 => by
    rw [List.range_succ_eq_map, List.map_cons, List.map_map]
    show (if T < 256 * ((f + 1 + 0 : Nat) : Int) then mid (wrec v f) (wrec v (f + 1 + 0)) T else poseF (wrec v (f + 1 + 0)) T _) = _
    rw [Nat.add_zero]
    by_cases h : T < 256 * ((f + 1 : Nat) : Int)
    · rw [if_pos h, mid_wat v f T h1 h]
    · rw [if_neg h]
      have := poseF_wat v T k (f + 1) (by omega) (by rw [show f + 1 + k = f + (k + 1) by omega]; exact h2)
      rw [← this]
      congr 1
      refine List.map_congr_left (fun i _ => ?_)
      show wrec v (f + 1 + (i + 1)) = wrec v (f + 1 + 1 + i)
      congr 1; omega

/-- A track of the walker: k records from the tick f on. -/
structure WTrack (v : Int) (s : PSeat) (f k : Nat) : Prop where
  n : s.count = k
  tr : ∀ i, i < k → s.track i = wrec v (f + i)

theorem WTrack.pose {v : Int} {s : PSeat} {f k : Nat} (h : WTrack v s f k) (hk : 1 ≤ k) (T : Int) (hT : T ≤ 256 * ((f + k - 1 : Nat) : Int)) : s.poseAt T = wat v (if T < 256 * (f : Int) then 256 * f else T) := by
  have e : s.recs = (List.range k).map (fun i => wrec v (f + i)) := by
    unfold PSeat.recs
    rw [h.n, Int.toNat_natCast]
    exact List.map_congr_left (fun i hi => h.tr i (List.mem_range.1 hi))
  obtain ⟨k, rfl⟩ : ∃ m, k = m + 1 := ⟨k - 1, by omega⟩
  have e2 : s.recs = wrec v f :: (List.range k).map (fun i => wrec v (f + 1 + i)) := by
    rw [e, List.range_succ_eq_map, List.map_cons, List.map_map]
    congr 1
    refine List.map_congr_left (fun i _ => ?_)
    show wrec v (f + (i + 1)) = wrec v (f + 1 + i)
    congr 1; omega
  show M.pose T s.recs = _
  rw [e2]
  show (if T ≤ 256 * (f : Int) then (wrec v f).pos else poseF (wrec v f) T (wrec v f :: _)) = _
  by_cases h1 : T ≤ 256 * (f : Int)
  · rw [if_pos h1, ← wat_at]
    by_cases h2 : T < 256 * (f : Int)
    · rw [if_pos h2]
    · rw [if_neg h2, show T = 256 * (f : Int) by omega]
  · rw [if_neg h1, if_neg (by omega)]
    show (if T < 256 * (f : Int) then _ else poseF (wrec v f) T _) = _
    rw [if_neg (by omega)]
    exact poseF_wat v T k f (by omega) (by rw [show f + (k + 1) - 1 = f + k by omega] at hT; exact hT)

theorem WTrack.note {v : Int} {s : PSeat} {f k : Nat} (h : WTrack v s f k) (hl : 0 < s.health) (hp : s.place = ⟨2048, 2048 + ((f + k : Nat) : Int) * v, 2048⟩) (hk : k ≤ 17) :
    ∃ f' k', f' + k' = f + k + 1 ∧ f ≤ f' ∧ k' ≤ 17 ∧ (k' = k + 1 ∧ f' = f ∨ k' = 17) ∧ 1 ≤ k' ∧ WTrack v (s.note ((f + k : Nat) : Int)) f' k' := by
  unfold PSeat.note
  rw [if_pos hl]
  unfold PSeat.add
  by_cases h17 : 17 ≤ s.count
  · have hk17 : k = 17 := by have := h.n; omega
    subst hk17
    rw [if_pos h17]
    refine ⟨f + 1, 17, by omega, by omega, by omega, .inr rfl, by omega, ⟨rfl, fun i hi => ?_⟩⟩
    show (if (i : Int) = 16 then _ else (if i + 1 < 17 then s.track (i + 1) else s.track i)) = _
    by_cases e : (i : Int) = 16
    · rw [if_pos e, hp]
      have : i = 16 := by omega
      subst this
      unfold wrec
      rw [show f + 1 + 16 = f + 17 by omega]
    · rw [if_neg e, if_pos (by omega), h.tr (i + 1) (by omega)]
      congr 1; omega
  · rw [if_neg h17]
    refine ⟨f, k + 1, by omega, by omega, by have := h.n; omega, .inl ⟨rfl, rfl⟩, by omega, ⟨by show s.count + 1 = _; rw [h.n]; rfl, fun i hi => ?_⟩⟩
    show (if (i : Int) = s.count then _ else s.track i) = _
    rw [h.n]
    by_cases e : (i : Int) = k
    · have : i = k := by omega
      subst this
      rw [if_pos rfl, hp]; rfl
    · rw [if_neg e, h.tr i (by omega)]

theorem note_same (s : PSeat) (t : Int) : ∃ tr n, s.note t = { s with track := tr, count := n } := by
  unfold PSeat.note
  split
  · unfold PSeat.add
    split
    · exact ⟨_, _, rfl⟩
    · exact ⟨_, _, rfl⟩
  · exact ⟨s.track, s.count, rfl⟩

/-- The game behind j ticks, the walker's pace v, the other at B. -/
structure Rw (v : Int) (B : V3) (j : Nat) (g : PGame) : Prop where
  t : g.tick = j
  s0t : (g.seat 0).taken = true
  s0h : (g.seat 0).health = 100
  s0m : (g.seat 0).ammo = 6
  s0w : (g.seat 0).waiting = 0
  s0l : (g.seat 0).last = j
  s0p : (g.seat 0).place = ⟨2048, 2048 + j * v, 2048⟩
  tr : ∃ f k : Nat, f + k = j + 1 ∧ k ≤ 17 ∧ (f = 1 ∨ k = 17) ∧ 1 ≤ f ∧ WTrack v (g.seat 0) f k
  s1t : (g.seat 1).taken = true
  s1h : (g.seat 1).health = 100
  s1m : (g.seat 1).ammo = 6
  s1r : (g.seat 1).ready = 0
  s1w : (g.seat 1).waiting = 0
  s1l : (g.seat 1).last = 0
  s1p : (g.seat 1).place = B
  e : ∀ k, 2 ≤ k → g.seat k = PSeat.empty 0

theorem Rw.start (v : Int) (B : V3) : Rw v B 0 (duel ⟨2048, 2048, 2048⟩ B) := by
  refine ⟨rfl, rfl, rfl, rfl, rfl, rfl, ?_, ⟨1, 0, rfl, by omega, .inl rfl, by omega, ⟨rfl, fun i h => by omega⟩⟩, rfl, rfl, rfl, rfl, rfl, rfl, rfl, fun k hk => ?_⟩
  · show (⟨2048, 2048, 2048⟩ : V3) = ⟨2048, 2048 + ((0 : Nat) : Int) * v, 2048⟩
    rw [Int.natCast_zero, Int.zero_mul]; rfl
  · unfold duel
    rw [PGame.put_ne _ _ (by omega), PGame.put_ne _ _ (by omega)]; rfl

def wcmd (v : Int) (j : Nat) : Cmd := ⟨j + 1, false, ⟨0, v, 0⟩, V3.zero, 0⟩
def scmd (aim t : Int) : Cmd := ⟨1, true, V3.zero, ⟨aim, 0, 0⟩, t⟩

theorem goal_y {p : V3} {v : Int} (h : InB cubeLo cubeHi p) (v1 : -32 ≤ v) (v2 : v ≤ 32) (h1 : 0 ≤ p.y + v) (h2 : p.y + v ≤ 4096) : goalP p ⟨0, v, 0⟩ = ⟨p.x, p.y + v, p.z⟩ := by
  obtain ⟨a1, a2, a3, a4, a5, a6⟩ := h
  simp only [cubeLo, cubeHi] at a1 a2 a3 a4 a5 a6
  obtain ⟨x, y, z⟩ := p
  dsimp only at a1 a2 a3 a4 a5 a6 h1 h2
  have cl : ∀ n m : Int, -32 ≤ m → m ≤ 32 → 0 ≤ n + m → n + m ≤ 4096 → clamp (n + clamp m (-32) 32) 0 4096 = n + m := fun n m b1 b2 b3 b4 => by
    have : clamp m (-32) 32 = m := by unfold clamp; rw [if_neg (by omega), if_neg (by omega)]
    rw [this]
    unfold clamp
    rw [if_neg (by omega), if_neg (by omega)]
  unfold goalP clampV addV
  have ex := cl x 0 (by decide) (by decide) (by omega) (by omega)
  have ez := cl z 0 (by decide) (by decide) (by omega) (by omega)
  rw [Int.add_zero] at ex ez
  exact congr (congr (congrArg V3.mk ex) (cl y v v1 v2 h1 h2)) ez

/-- A walker's slot behind a tick. -/
theorem walker {v : Int} {B : V3} {j : Nat} {g : PGame} (h : Rw v B j g) (v1 : -32 ≤ v) (v2 : v ≤ 32) (hj : j < 40) :
    ∃ s : PSeat, (((g.seat 0).put (wcmd v j)).obeyed z0L).note ((j + 1 : Nat) : Int) = s ∧ s.taken = true ∧ s.health = 100 ∧ s.ammo = 6 ∧ s.waiting = 0 ∧ s.last = ((j + 1 : Nat) : Int) ∧ s.place = ⟨2048, 2048 + ((j + 1 : Nat) : Int) * v, 2048⟩ ∧ ∃ f k : Nat, f + k = j + 1 + 1 ∧ k ≤ 17 ∧ (f = 1 ∨ k = 17) ∧ 1 ≤ f ∧ 1 ≤ k ∧ WTrack v s f k := by
  refine ⟨_, rfl, ?_⟩
  have jv := mul_bound (a := (j : Int)) (b := v) (A := 40) (B := 32) (by omega) (by omega) v1 v2
  have ob : ((g.seat 0).put (wcmd v j)).obeyed z0L = { ((g.seat 0).put (wcmd v j)).up with place := ⟨2048, 2048 + ((j + 1 : Nat) : Int) * v, 2048⟩ } := by
    unfold PSeat.obeyed
    rw [if_neg (by show ¬ (g.seat 0).waiting + 1 = 0; rw [h.s0w]; decide), if_pos (by show 0 < (g.seat 0).health; rw [h.s0h]; decide), z0_moved]
    have q0 : ((g.seat 0).put (wcmd v j)).q 0 = wcmd v j := by show (if ((0 : Nat) : Int) = (g.seat 0).waiting then wcmd v j else _) = _; rw [h.s0w]; rfl
    have pl : ((g.seat 0).put (wcmd v j)).up.place = ⟨2048, 2048 + j * v, 2048⟩ := h.s0p
    rw [q0, pl]
    show ({ ((g.seat 0).put (wcmd v j)).up with place := goalP ⟨2048, 2048 + j * v, 2048⟩ ⟨0, v, 0⟩ } : PSeat) = _
    rw [goal_y ⟨by show (0 : Int) ≤ 2048; decide, by show (2048 : Int) ≤ 4096; decide, by show 0 ≤ 2048 + (j : Int) * v; omega, by show 2048 + (j : Int) * v ≤ 4096; omega, by show (0 : Int) ≤ 2048; decide, by show (2048 : Int) ≤ 4096; decide⟩ v1 v2 (by show 0 ≤ 2048 + (j : Int) * v + v; omega) (by show 2048 + (j : Int) * v + v ≤ 4096; omega)]
    have : 2048 + (j : Int) * v + v = 2048 + ((j + 1 : Nat) : Int) * v := by rw [Int.natCast_add, Int.add_mul]; omega
    rw [this]
  rw [ob]
  obtain ⟨f, k, hfk, hk17, hor, hf1, hw⟩ := h.tr
  have hw2 : WTrack v { ((g.seat 0).put (wcmd v j)).up with place := ⟨2048, 2048 + ((j + 1 : Nat) : Int) * v, 2048⟩ } f k := ⟨hw.n, hw.tr⟩
  obtain ⟨f', k', e1, e2, e3, e4, e5, e6⟩ := hw2.note (by show 0 < (g.seat 0).health; rw [h.s0h]; decide) (by rw [hfk]) hk17
  rw [hfk] at e6
  obtain ⟨tr, n, hn⟩ := note_same { ((g.seat 0).put (wcmd v j)).up with place := ⟨2048, 2048 + ((j + 1 : Nat) : Int) * v, 2048⟩ } ((j + 1 : Nat) : Int)
  refine ⟨by rw [hn]; exact h.s0t, by rw [hn]; exact h.s0h, by rw [hn]; exact h.s0m, by rw [hn]; show (g.seat 0).waiting + 1 - 1 = 0; rw [h.s0w]; decide, by rw [hn]; rfl, by rw [hn], f', k', by omega, e3, ?_, by omega, e5, e6⟩
  rcases e4 with ⟨a, b⟩ | a
  · rcases hor with c | c
    · exact .inl (by omega)
    · exact .inr (by omega)
  · exact .inr a

theorem Rw.packet0 {v : Int} {B : V3} {j : Nat} {g : PGame} (h : Rw v B j g) : g.packet 0 (wcmd v j) 0 = (0, g.put 0 ((g.seat 0).put (wcmd v j))) := by
  unfold PGame.packet
  have t0 : g.takenB 0 = true := by unfold PGame.takenB; rw [show (0 : Int).toNat = 0 from rfl, h.s0t]; rfl
  rw [t0, if_neg (by decide), if_neg (by decide), show (0 : Int).toNat = 0 from rfl, h.s0l, h.s0w, if_neg (by show ¬ (j : Int) + 1 ≤ j; omega), if_neg (by decide)]
theorem Rw.packet1 {v : Int} {B : V3} {j : Nat} {g : PGame} (h : Rw v B j g) (s : PSeat) (aim t : Int) : (g.put 0 s).packet 1 (scmd aim t) 0 = (0, (g.put 0 s).put 1 ((g.seat 1).put (scmd aim t))) := by
  unfold PGame.packet
  have e1 : (g.put 0 s).seat 1 = g.seat 1 := PGame.put_ne _ _ (by decide)
  have t0 : (g.put 0 s).takenB 1 = true := by unfold PGame.takenB; rw [show (1 : Int).toNat = 1 from rfl, e1, h.s1t]; rfl
  rw [t0, if_neg (by decide), if_neg (by decide), show (1 : Int).toNat = 1 from rfl, e1, h.s1l, h.s1w, if_neg (by show ¬ (1 : Int) ≤ 0; decide), if_neg (by decide)]

/-- A tick without a shot. -/
theorem Rw.next {v : Int} {B : V3} {j : Nat} {g : PGame} (h : Rw v B j g) (v1 : -32 ≤ v) (v2 : v ≤ 32) (hj : j < 40) :
    ∃ G, (g.put 0 ((g.seat 0).put (wcmd v j))).step z0L = (0, G) ∧ Rw v B (j + 1) G := by
  obtain ⟨s, hs, w1, w2, w3, w4, w5, w6, f, k, k1, k2, k3, k4, k5, k6⟩ := walker h v1 v2 hj
  generalize hg : g.put 0 ((g.seat 0).put (wcmd v j)) = g'
  have g0 : g'.seat 0 = (g.seat 0).put (wcmd v j) := by rw [← hg, PGame.put_at]
  have g1 : g'.seat 1 = g.seat 1 := by rw [← hg]; exact PGame.put_ne _ _ (by decide)
  have g2 : ∀ k, 2 ≤ k → g'.seat k = PSeat.empty 0 := fun k hk => by rw [← hg, PGame.put_ne _ _ (by omega)]; exact h.e k hk
  have gt : g'.tick = j := by rw [← hg]; exact h.t
  have T1 : g'.tick + 1 = ((j + 1 : Nat) : Int) := by rw [gt]; rfl
  have ok : ∀ k, k < 8 → k ≠ 9 → (g'.orders k).fire = false := fun k hk _ => by
    rw [orders_at g' hk]
    by_cases h0 : k = 0
    · subst h0
      rw [g0, revived_live (by show 0 < (g.seat 0).health; rw [h.s0h]; decide)]
      unfold PSeat.order
      rw [if_neg (by show ¬ (g.seat 0).waiting + 1 = 0; rw [h.s0w]; decide), if_pos (by show 0 < (g.seat 0).health; rw [h.s0h]; decide)]
      show ((if ((0 : Nat) : Int) = (g.seat 0).waiting then wcmd v j else _) : Cmd).fire = false
      rw [h.s0w]; rfl
    · by_cases h1 : k = 1
      · subst h1; rw [g1, revived_live (by rw [h.s1h]; decide), order_none h.s1w]; rfl
      · rw [g2 k (by omega), revived_free rfl]; rfl
  refine ⟨(g'.step z0L).2, Prod.ext (by unfold PGame.step; rw [if_neg (by omega)]) rfl, ?_⟩
  have st : (g'.step z0L).2 = g'.notes z0L := by
    unfold PGame.step
    rw [if_neg (by omega)]
    show (g'.notes z0L).shootTo z0L g'.orders 8 = _
    rw [shootTo_one _ _ _ 9 ok 8 (by omega), if_neg (by omega)]
  rw [st]
  have n0 : (g'.notes z0L).seat 0 = s := by rw [notes_at g' z0L (by omega), g0, T1, revived_live (by show 0 < (g.seat 0).health; rw [h.s0h]; decide)]; exact hs
  obtain ⟨tr1, c1, hn1⟩ := note_same (g.seat 1) ((j + 1 : Nat) : Int)
  have n1 : (g'.notes z0L).seat 1 = { g.seat 1 with track := tr1, count := c1 } := by rw [notes_at g' z0L (by omega), g1, T1, revived_live (by rw [h.s1h]; decide), obeyed_none h.s1w]; exact hn1
  have n2 : ∀ k, 2 ≤ k → (g'.notes z0L).seat k = PSeat.empty 0 := fun k hk => by
    by_cases h8 : k < 8
    · rw [notes_at g' z0L h8, g2 k hk, revived_free rfl, obeyed_none rfl, note_dead rfl]
    · unfold PGame.notes PGame.walks PGame.backs
      rw [PGame.map_out _ _ h8, PGame.map_out _ _ h8, PGame.map_out _ _ h8]; exact g2 k hk
  exact ⟨T1, by rw [n0]; exact w1, by rw [n0]; exact w2, by rw [n0]; exact w3, by rw [n0]; exact w4, by rw [n0]; exact w5, by rw [n0]; exact w6, ⟨f, k, k1, k2, k3, k4, by rw [n0]; exact k6⟩, by rw [n1]; exact h.s1t, by rw [n1]; exact h.s1h, by rw [n1]; exact h.s1m, by rw [n1]; exact h.s1r, by rw [n1]; exact h.s1w, by rw [n1]; exact h.s1l, by rw [n1]; exact h.s1p, n2⟩

end Go.Proofs.Ytonmihojfcjmjab.M
