import Derived.Test.YtonmihojfcjmjabBKp
import Derived.Test.YtonmihojfcjmjabBPr
/- Shielded: a shot past the corner of a wall. No memory in sight. -/
namespace Go.Proofs.Ytonmihojfcjmjab.M
set_option linter.unusedVariables false

def shS : ByteArray := ⟨#[120, 52, 48, 48, 121, 52, 48, 35, 48]⟩
def shL : List Lf := [⟨⟨0, 0, 0⟩, ⟨1024, 4096, 4096⟩, 0⟩, ⟨⟨1024, 0, 0⟩, ⟨4096, 1024, 4096⟩, -1⟩, ⟨⟨1024, 1024, 0⟩, ⟨4096, 4096, 4096⟩, 0⟩]
theorem sh_err : errS shS = (0, 0) := by kernel_rfl
theorem sh_top : (top shS).2.leaves = shL := by kernel_rfl
theorem sh_cub : ∀ l ∈ shL, l.lo.Cub ∧ l.hi.Cub := by
  intro l hl
  simp only [shL, List.mem_cons, List.not_mem_nil, or_false] at hl
  rcases hl with rfl | rfl | rfl <;> exact ⟨⟨by decide, by decide, by decide, by decide, by decide, by decide⟩, ⟨by decide, by decide, by decide, by decide, by decide, by decide⟩⟩

theorem leafB_iff (l : Lf) (p : V3) : holdsB2 l p = true ↔ InB l.lo l.hi p := holdsB2_iff
theorem sh_zoneP {p : V3} (h1 : 0 ≤ p.x) (h2 : p.x ≤ 1023) (h3 : 0 ≤ p.y) (h4 : p.y ≤ 4096) (h5 : p.z = 1000) : (inCube p && decide (0 ≤ zP p shL (-1))) = true := by
  rw [Bool.and_eq_true]
  refine ⟨(inCube_iff p).2 ⟨h1, by show p.x ≤ 4096; omega, h3, h4, by show 0 ≤ p.z; omega, by show p.z ≤ 4096; omega⟩, ?_⟩
  have e1 : holdsB2 ⟨⟨0, 0, 0⟩, ⟨1024, 4096, 4096⟩, 0⟩ p = true := (leafB_iff _ _).2 ⟨h1, by show p.x ≤ 1024; omega, h3, h4, by show 0 ≤ p.z; omega, by show p.z ≤ 4096; omega⟩
  have e2 : ¬ holdsB2 ⟨⟨1024, 0, 0⟩, ⟨4096, 1024, 4096⟩, -1⟩ p = true := fun h => by have : 1024 ≤ p.x := ((leafB_iff _ _).1 h).x1; omega
  have e3 : ¬ holdsB2 ⟨⟨1024, 1024, 0⟩, ⟨4096, 4096, 4096⟩, 0⟩ p = true := fun h => by have : 1024 ≤ p.x := ((leafB_iff _ _).1 h).x1; omega
  have : zP p shL (-1) = 0 := by
    unfold shL
    rw [zP, if_pos e1, if_neg (by decide), zP, if_neg e2, zP, if_neg e3, zP]
  rw [this]; rfl
theorem sh_zoneQ {p : V3} (h1 : 0 ≤ p.x) (h2 : p.x ≤ 4096) (h3 : 1025 ≤ p.y) (h4 : p.y ≤ 4096) (h5 : p.z = 1000) : (inCube p && decide (0 ≤ zP p shL (-1))) = true := by
  rw [Bool.and_eq_true]
  refine ⟨(inCube_iff p).2 ⟨h1, h2, by show 0 ≤ p.y; omega, h4, by show 0 ≤ p.z; omega, by show p.z ≤ 4096; omega⟩, ?_⟩
  have e2 : ¬ holdsB2 ⟨⟨1024, 0, 0⟩, ⟨4096, 1024, 4096⟩, -1⟩ p = true := fun h => by have : p.y ≤ 1024 := ((leafB_iff _ _).1 h).y2; omega
  have : zP p shL (-1) = 0 := by
    unfold shL
    by_cases c1 : holdsB2 ⟨⟨0, 0, 0⟩, ⟨1024, 4096, 4096⟩, 0⟩ p = true
    · rw [zP, if_pos c1, if_neg (by decide), zP, if_neg e2, zP]
      split
      · rfl
      · rfl
    · have : ¬ p.x ≤ 1024 := fun h => c1 ((leafB_iff _ _).2 ⟨h1, h, by show 0 ≤ p.y; omega, h4, by show 0 ≤ p.z; omega, by show p.z ≤ 4096; omega⟩)
      have c3 : holdsB2 ⟨⟨1024, 1024, 0⟩, ⟨4096, 4096, 4096⟩, 0⟩ p = true := (leafB_iff _ _).2 ⟨by show 1024 ≤ p.x; omega, h2, by show 1024 ≤ p.y; omega, h4, by show 0 ≤ p.z; omega, by show p.z ≤ 4096; omega⟩
      rw [zP, if_neg c1, zP, if_neg e2, zP, if_pos c3, if_neg (by decide), zP]
  rw [this]; rfl

def shC (aim : Int) : Cmd := ⟨1, true, V3.zero, ⟨aim, 0, 0⟩, 0⟩
theorem shC_fits {aim : Int} (h1 : 1 ≤ aim) (h2 : aim ≤ 127) : Fits (shC aim) := ⟨by show (1 : Int) ≤ 1; decide, by show (1 : Int) ≤ 65535; decide, by show (0 : Int) ≤ 0; decide, by show (0 : Int) ≤ 16777215; decide, ⟨by show (-128 : Int) ≤ 0; decide, by show (0 : Int) ≤ 127; decide, by show (-128 : Int) ≤ 0; decide, by show (0 : Int) ≤ 127; decide, by show (-128 : Int) ≤ 0; decide, by show (0 : Int) ≤ 127; decide⟩, ⟨by show -128 ≤ aim; omega, h2, by show (-128 : Int) ≤ 0; decide, by show (0 : Int) ≤ 127; decide, by show (-128 : Int) ≤ 0; decide, by show (0 : Int) ≤ 127; decide⟩⟩

theorem goal_zero {p : V3} (h : InB cubeLo cubeHi p) : goalP p V3.zero = p := by
  obtain ⟨a1, a2, a3, a4, a5, a6⟩ := h
  simp only [cubeLo, cubeHi] at a1 a2 a3 a4 a5 a6
  obtain ⟨x, y, z⟩ := p
  dsimp only at a1 a2 a3 a4 a5 a6
  have cl : ∀ n : Int, 0 ≤ n → n ≤ 4096 → clamp (n + clamp 0 (-32) 32) 0 4096 = n := fun n h1 h2 => by
    have : clamp 0 (-32) 32 = 0 := by decide
    rw [this, Int.add_zero]
    unfold clamp
    rw [if_neg (by omega), if_neg (by omega)]
  unfold goalP clampV addV
  exact congr (congr (congrArg V3.mk (cl x a1 a2)) (cl y a3 a4)) (cl z a5 a6)

/-- A player that has just come, behind its first tick. -/
theorem fresh_note (q : V3) (t : Int) : (((PSeat.empty 0).give q).note 1).poseAt t = if t ≤ 256 then q else (((PSeat.empty 0).give q).note 1).poseAt t := by
  by_cases h : t ≤ 256
  · rw [if_pos h]
    show (if t ≤ 256 * 1 then q else _) = q
    rw [if_pos (by omega)]
  · rw [if_neg h]

/-- The game behind Shielded's tick. -/
theorem shield {p q : V3} {aim : Int} (hp : InB cubeLo cubeHi p) (hq : InB cubeLo cubeHi q) :
    ∃ g1 G : PGame, (duel p q).packet 0 (shC aim) 0 = (0, g1) ∧ g1.step shL = (0, G) ∧ G.takenB 1 = true ∧ (G.seat 1).health = 100 - cost shL p (wayP ⟨aim, 0, 0⟩) q := by
  refine ⟨(duel p q).put 0 (((PSeat.empty 0).give p).put (shC aim)), (((duel p q).put 0 (((PSeat.empty 0).give p).put (shC aim))).step shL).2, rfl, ?_⟩
  generalize hg : (duel p q).put 0 (((PSeat.empty 0).give p).put (shC aim)) = g
  have s0 : g.seat 0 = ((PSeat.empty 0).give p).put (shC aim) := by rw [← hg]; rfl
  have s1 : g.seat 1 = (PSeat.empty 0).give q := by rw [← hg]; rfl
  have s2 : ∀ k, 1 < k → g.seat k = PSeat.empty 0 := fun k hk => by
    rw [← hg, PGame.put_ne _ _ (by omega)]
    unfold duel
    rw [PGame.put_ne _ _ (by omega), PGame.put_ne _ _ (by omega)]; rfl
  have ht : g.tick = 0 := by rw [← hg]; rfl
  clear hg
  have o0 : g.orders 0 = shC aim := by rw [orders_at g (by omega), s0, revived_live (by show (0 : Int) < 100; decide)]; rfl
  have ok : ∀ k, k < 8 → k ≠ 0 → (g.orders k).fire = false := fun k hk h0 => by
    rw [orders_at g hk]
    by_cases h1 : k = 1
    · subst h1; rw [s1, revived_live (by show (0 : Int) < 100; decide)]; rfl
    · rw [s2 k (by omega), revived_free rfl]; rfl
  have n0 : ((g.notes shL).seat 0).place = p ∧ ((g.notes shL).seat 0).health = 100 ∧ ((g.notes shL).seat 0).ammo = 6 ∧ ((g.notes shL).seat 0).ready = 0 := by
    rw [notes_at g shL (by omega), s0, ht, revived_live (by show (0 : Int) < 100; decide)]
    have e : (((PSeat.empty 0).give p).put (shC aim)).obeyed shL = (((PSeat.empty 0).give p).put (shC aim)).up := by
      unfold PSeat.obeyed
      rw [if_neg (by show ¬ (1 : Int) = 0; decide), if_pos (by show (0 : Int) < 100; decide)]
      unfold PSeat.moved
      split
      · rfl
      · show ({ (((PSeat.empty 0).give p).put (shC aim)).up with place := goalP p V3.zero } : PSeat) = _
        rw [goal_zero hp]; rfl
    rw [e]
    exact ⟨rfl, rfl, rfl, rfl⟩
  have n1 : (g.notes shL).seat 1 = ((PSeat.empty 0).give q).note 1 := by
    rw [notes_at g shL (by omega), s1, ht, revived_live (by show (0 : Int) < 100; decide), obeyed_none rfl]; rfl
  have n2 : ∀ k, k < 8 → k ≠ 0 → k ≠ 1 → ¬ 0 < ((g.notes shL).seat k).health := fun k hk h0 h1 => by
    rw [notes_at g shL hk, s2 k (by omega), revived_free rfl, obeyed_none rfl, note_dead rfl]
    show ¬ (0 : Int) < 0
    decide
  have tk : (g.notes shL).tick = 1 := by show g.tick + 1 = 1; omega
  have hs : (g.step shL).2 = (g.notes shL).shoot shL 0 (shC aim) := by
    unfold PGame.step
    rw [if_neg (by omega)]
    show (g.notes shL).shootTo shL g.orders 8 = _
    rw [shootTo_one _ _ _ 0 ok 8 (by omega), o0, if_pos ⟨by omega, rfl⟩]
  have hw : ((g.notes shL).seat 1).health = 100 := by rw [n1, PSeat.note_live]; rfl
  have h2 := shoot_two (g.notes shL) shL 0 1 (shC aim) (by omega) (by omega) (by omega) (by
    unfold PGame.canShoot
    rw [n0.2.1, n0.2.2.1, n0.2.2.2, tk]; rfl) (by rw [hw]; decide) n2
  have st : (g.step shL).1 = 0 := by unfold PGame.step; rw [if_neg (by omega)]
  have hT : timeP 1 (shC aim).time = 0 := rfl
  have hP : (((PSeat.empty 0).give q).note 1).poseAt 0 = q := by rw [fresh_note, if_pos (by decide)]
  have e1 : ((g.step shL).2.seat 1) = { ((PSeat.empty 0).give q).note 1 with health := 100 - cost shL p (wayP ⟨aim, 0, 0⟩) q } := by
    rw [hs, h2, n0.1, n1, tk, hT, hP, PGame.put_at]; rfl
  refine ⟨Prod.ext st rfl, ?_, ?_⟩
  · show ((g.step shL).2.seat 1).taken = true
    rw [e1]; rfl
  · rw [e1]

/-- The wall of the map. -/
theorem sh_wall (p d : V3) : US p d shL = lies p d ⟨1024, 0, 0⟩ ⟨4096, 1024, 4096⟩ := by
  funext m k
  refine propext ⟨?_, fun h => ⟨⟨⟨1024, 0, 0⟩, ⟨4096, 1024, 4096⟩, -1⟩, by simp [shL], rfl, h⟩⟩
  rintro ⟨l, hl, hz, h⟩
  simp only [shL, List.mem_cons, List.not_mem_nil, or_false] at hl
  rcases hl with rfl | rfl | rfl
  · cases hz
  · exact h
  · cases hz

/-- What Shielded's shot costs. -/
theorem shield_cost {p q : V3} {aim : Int} (a1 : 1 ≤ aim) (a2 : aim ≤ 127) (p1 : 724 ≤ p.x) (p2 : p.x ≤ 1023) (p3 : 1008 ≤ p.y) (p4 : p.y ≤ 1040) (p5 : p.z = 1000) (q1 : 924 ≤ q.x) (q2 : q.x ≤ 1323) (q3 : 1025 ≤ q.y) (q4 : q.y ≤ 1048) (q5 : q.z = 1000) (W : Int) (hW : W = if q.x - 8 - p.x < 0 then 0 else q.x - 8 - p.x) :
    cost shL p (wayP ⟨aim, 0, 0⟩) q = if (p.y ≤ 1024 ∧ 1024 - p.x < W) ∨ ¬ (p.y - q.y ≤ 8 ∧ q.y - p.y ≤ 8 ∧ p.x ≤ q.x + 8 ∧ W ≤ 16 * aim) then 0 else 25 := by
  have np : p.Near := ⟨by omega, by omega, by omega, by omega, by omega, by omega⟩
  have nq : InB cubeLo cubeHi q := ⟨by show 0 ≤ q.x; omega, by show q.x ≤ 4096; omega, by show 0 ≤ q.y; omega, by show q.y ≤ 4096; omega, by show 0 ≤ q.z; omega, by show q.z ≤ 4096; omega⟩
  have nd : (⟨16 * aim, 0, 0⟩ : V3).Near := ⟨by show -1048576 ≤ 16 * aim; omega, by show 16 * aim ≤ 1048576; omega, by show (-1048576 : Int) ≤ 0; decide, by show (0 : Int) ≤ 1048576; decide, by show (-1048576 : Int) ≤ 0; decide, by show (0 : Int) ≤ 1048576; decide⟩
  obtain ⟨n1, n2, n3, n4⟩ := near_lo nq
  have hd : wayP ⟨aim, 0, 0⟩ = ⟨16 * aim, 0, 0⟩ := by unfold wayP; rfl
  have hx : xWay p (bodyLo q) = W := by rw [hW]; unfold xWay; show (if q.x - 8 ≤ p.x then (0 : Int) else q.x - 8 - p.x) = _; split <;> split <;> omega
  have head := (boxX 60 np nd n3 n4 (by omega) (show q.x - 4 ≤ q.x + 4 by omega)).1 (fun h => by have h2 : q.z + 8 ≤ p.z := h.2.1.1; omega)
  have body := boxX 25 np nd n1 n2 (show 1 ≤ 16 * aim by omega) (show q.x - 8 ≤ q.x + 8 by omega)
  have bm : xMeets p (bodyLo q) (bodyHi q) (16 * aim) ↔ (p.y - q.y ≤ 8 ∧ q.y - p.y ≤ 8 ∧ p.x ≤ q.x + 8 ∧ W ≤ 16 * aim) := by
    unfold xMeets
    show ((q.y - 8 ≤ p.y ∧ p.y ≤ q.y + 8) ∧ (q.z - 16 ≤ p.z ∧ p.z ≤ q.z + 8) ∧ p.x ≤ q.x + 8 ∧ q.x - 8 ≤ p.x + 16 * aim) ↔ _
    constructor
    · rintro ⟨⟨b1, b2⟩, ⟨b3, b4⟩, b5, b6⟩
      refine ⟨by omega, by omega, b5, ?_⟩
      rw [hW]; split <;> omega
    · rintro ⟨b1, b2, b3, b4⟩
      refine ⟨⟨by omega, by omega⟩, ⟨by omega, by omega⟩, b3, ?_⟩
      rw [hW] at b4; split at b4 <;> omega
  unfold cost
  rw [hd, sh_wall]
  by_cases hm : xMeets p (bodyLo q) (bodyHi q) (16 * aim)
  · obtain ⟨n, e, hb, he, hn⟩ := body.2 hm
    have hh : hitAt p ⟨16 * aim, 0, 0⟩ q = some (n, e, 25) := by unfold hitAt; rw [head, hb]; rfl
    rw [hh]
    rw [hx] at hn
    have nl : (⟨1024, 0, 0⟩ : V3).Near := ⟨by decide, by decide, by decide, by decide, by decide, by decide⟩
    have nh : (⟨4096, 1024, 4096⟩ : V3).Near := ⟨by decide, by decide, by decide, by decide, by decide, by decide⟩
    obtain ⟨f, wn, we, hw⟩ := ent_exists np nd nl nh
    have sx := segX (show 1 ≤ 16 * aim by omega) (show (1024 : Int) ≤ 4096 by decide) hw.toG
    rw [entO_is hw.toG]
    have wx : xWay p ⟨1024, 0, 0⟩ = 1024 - p.x := by unfold xWay; rw [if_neg (by show ¬ (1024 : Int) ≤ p.x; omega)]
    cases f
    · have : ¬ xMeets p ⟨1024, 0, 0⟩ ⟨4096, 1024, 4096⟩ (16 * aim) := fun h => by have := sx.1.2 h; cases this
      have c : ¬ (p.y ≤ 1024 ∧ 1024 - p.x < W) := fun h => this ⟨⟨by show (0 : Int) ≤ p.y; omega, h.1⟩, ⟨by show (0 : Int) ≤ p.z; omega, by show p.z ≤ 4096; omega⟩, by show p.x ≤ 4096; omega, by show (1024 : Int) ≤ p.x + 16 * aim; have := (bm.1 hm).2.2.2; omega⟩
      show (25 : Int) = _
      rw [if_neg (fun h => h.elim c (fun k => k (bm.1 hm)))]
    · have wm := sx.1.1 rfl
      have wl := sx.2 rfl
      rw [wx] at wl
      have cmp := segX_lt (show 1 ≤ 16 * aim by omega) (hw.yes rfl).2.1 he wl hn
      have py : p.y ≤ 1024 := wm.1.2
      by_cases hc : 1024 - p.x < W
      · show (if (!decide (wn * e < n * we)) = true then (25 : Int) else 0) = if _ then _ else _
        rw [decide_eq_true (cmp.2 hc), if_neg (by decide), if_pos (.inl ⟨py, hc⟩)]
      · show (if (!decide (wn * e < n * we)) = true then (25 : Int) else 0) = if _ then _ else _
        rw [decide_eq_false (fun k => hc (cmp.1 k)), if_pos (by decide), if_neg (fun h => h.elim (fun k => hc k.2) (fun k => k (bm.1 hm)))]
  · have hh : hitAt p ⟨16 * aim, 0, 0⟩ q = Option.none := by unfold hitAt; rw [head, body.1 hm]; rfl
    rw [hh, if_pos (.inr (fun k => hm (bm.2 k)))]

end Go.Proofs.Ytonmihojfcjmjab.M
