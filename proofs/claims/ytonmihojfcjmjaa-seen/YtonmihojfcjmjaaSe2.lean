/- Two players on a map of two zones: what they are told. -/
import Derived.Test.YtonmihojfcjmjaaSe1
namespace Go.Proofs.Ytonmihojfcjmjaa
open Go.RowKit
set_option linter.unusedVariables false
namespace M

def seat1 (p : V3) : PSeat := (PSeat.empty 0).give p
theorem duel_0 (a b : V3) : (duel a b).seat 0 = seat1 a := rfl
theorem duel_1 (a b : V3) : (duel a b).seat 1 = seat1 b := rfl
theorem duel_n (a b : V3) {j : Nat} (h : 2 ≤ j) : (duel a b).seat j = PSeat.empty 0 := by
  unfold duel
  rw [PGame.put_ne _ _ (by omega), PGame.put_ne _ _ (by omega)]
  rfl
theorem sane1 {p : V3} (h : InB cubeLo cubeHi p) : PSane (seat1 p) := by
  refine ⟨by show (0 : Int) ≤ 1; decide, by show (1 : Int) ≤ 255; decide, by show (0 : Int) ≤ 100; decide, by show (100 : Int) ≤ 100; decide, by show (0 : Int) ≤ 6; decide, by show (6 : Int) ≤ 6; decide, by show (0 : Int) ≤ 0; decide, by show (0 : Int) ≤ 3003; decide, h⟩
theorem sane0 : PSane (PSeat.empty 0) := by
  refine ⟨by show (0 : Int) ≤ 0; decide, by show (0 : Int) ≤ 255; decide, by show (0 : Int) ≤ 0; decide, by show (0 : Int) ≤ 100; decide, by show (0 : Int) ≤ 0; decide, by show (0 : Int) ≤ 6; decide, by show (0 : Int) ≤ 0; decide, by show (0 : Int) ≤ 3003; decide, ?_⟩
  exact ⟨by decide, by decide, by decide, by decide, by decide, by decide⟩
theorem duel_sane {a b : V3} (ha : InB cubeLo cubeHi a) (hb : InB cubeLo cubeHi b) : ∀ j, j < 8 → PSane ((duel a b).seat j) := by
  intro j _
  match j with
  | 0 => exact sane1 ha
  | 1 => exact sane1 hb
  | j + 2 => rw [duel_n a b (by omega)]; exact sane0

theorem told_n (a b : V3) (ls : List Lf) (ps : Nat → Bool) {i j : Nat} (hi : i < 2) (h : 2 ≤ j) : (duel a b).toldB ls ps i j = false := by
  unfold PGame.toldB
  rw [duel_n a b h, decide_eq_false (by omega)]
  unfold showsP
  rw [decide_eq_false (by show ¬ (0 : Int) < 0; decide)]
  rfl
theorem rows_2 (a b : V3) (ls : List Lf) (ps : Nat → Bool) {i : Nat} (hi : i < 2) : ∀ (n j : Nat), 2 ≤ j → (duel a b).rows ls ps i n j = [] ∧ (duel a b).count ls ps i n j = 0
  | 0, _, _ => ⟨rfl, rfl⟩
  | n + 1, j, h => by
    obtain ⟨h1, h2⟩ := rows_2 a b ls ps hi n (j + 1) (by omega)
    constructor
    · rw [rows_succ, told_n a b ls ps hi h, h1]; rfl
    · rw [pcount_succ, told_n a b ls ps hi h, h2]; rfl

theorem snap_0 (a b : V3) (ls : List Lf) (ps : Nat → Bool) (T : Bool) (h : showsP ls ps (seat1 a) (seat1 b) = T) :
    (duel a b).snap ls ps 0 = [83, 0, 0, 0, 1, 100, 6, 0, if T then 2 else 1] ++ (seat1 a).row 0 ++ (if T then (seat1 b).row 1 else []) := by
  have t0 : (duel a b).toldB ls ps 0 0 = true := rfl
  have t1 : (duel a b).toldB ls ps 0 1 = T := by unfold PGame.toldB; rw [duel_0, duel_1, h]; rfl
  obtain ⟨h1, h2⟩ := rows_2 a b ls ps (i := 0) (by omega) 6 2 (by omega)
  have er : (duel a b).rows ls ps 0 8 0 = (seat1 a).row 0 ++ (if T then (seat1 b).row 1 else []) := by
    rw [rows_succ, rows_succ, t0, t1, h1, List.append_nil]; rfl
  have ec : (duel a b).count ls ps 0 8 0 = if T then 2 else 1 := by
    rw [pcount_succ, pcount_succ, t0, t1, h2]; cases T <;> rfl
  unfold PGame.snap
  rw [er, ec]
  cases T <;> rfl
theorem snap_1 (a b : V3) (ls : List Lf) (ps : Nat → Bool) (T : Bool) (h : showsP ls ps (seat1 b) (seat1 a) = T) :
    (duel a b).snap ls ps 1 = [83, 0, 0, 1, 1, 100, 6, 0, if T then 2 else 1] ++ (if T then (seat1 a).row 0 else []) ++ (seat1 b).row 1 := by
  have t0 : (duel a b).toldB ls ps 1 0 = T := by unfold PGame.toldB; rw [duel_0, duel_1, h]; rfl
  have t1 : (duel a b).toldB ls ps 1 1 = true := rfl
  obtain ⟨h1, h2⟩ := rows_2 a b ls ps (i := 1) (by omega) 6 2 (by omega)
  have er : (duel a b).rows ls ps 1 8 0 = (if T then (seat1 a).row 0 else []) ++ (seat1 b).row 1 := by
    rw [rows_succ, rows_succ, t0, t1, h1, List.append_nil]; rfl
  have ec : (duel a b).count ls ps 1 8 0 = if T then 2 else 1 := by
    rw [pcount_succ, pcount_succ, t0, t1, h2]; cases T <;> rfl
  unfold PGame.snap
  rw [er, ec, ← List.append_assoc]
  cases T <;> rfl

/-- Who sees whom: no pair. -/
theorem shows_no (a b : V3) (x : Int) (x1 : 1 ≤ x) (x2 : x ≤ 255) (ha : InB cubeLo cubeHi a) (hb : InB cubeLo cubeHi b) : showsP (seL x) noPairs (seat1 a) (seat1 b) = (nearP a b && (decide (a.x < 16 * x) == decide (b.x < 16 * x))) := by
  unfold showsP
  rw [show (seat1 a).place = a from rfl, show (seat1 b).place = b from rfl, se_zone x1 x2 ha, se_zone x1 x2 hb, decide_eq_true (show (0 : Int) < (seat1 b).health by show (0 : Int) < 100; decide), Bool.true_and]
  congr 1
  by_cases h1 : a.x < 16 * x <;> by_cases h2 : b.x < 16 * x <;> simp [h1, h2, seesP, noPairs]
/-- Who sees whom: the pair. -/
theorem shows_pair (a b : V3) (x : Int) (x1 : 1 ≤ x) (x2 : x ≤ 255) (ha : InB cubeLo cubeHi a) (hb : InB cubeLo cubeHi b) : showsP (seL x) (pset noPairs 0 3) (seat1 a) (seat1 b) = nearP a b := by
  unfold showsP
  rw [show (seat1 a).place = a from rfl, show (seat1 b).place = b from rfl, se_zone x1 x2 ha, se_zone x1 x2 hb, decide_eq_true (show (0 : Int) < (seat1 b).health by show (0 : Int) < 100; decide), Bool.true_and]
  have : seesP (pset noPairs 0 3) (if a.x < 16 * x then 3 else 0) (if b.x < 16 * x then 3 else 0) = true := by
    by_cases h1 : a.x < 16 * x <;> by_cases h2 : b.x < 16 * x <;> simp [h1, h2, seesP, pset]
  rw [this, Bool.and_true]
theorem near_sym (a b : V3) : nearP a b = nearP b a := by
  have e : ∀ u v : Int, (u - v) * (u - v) = (v - u) * (v - u) := fun u v => by rw [← Int.neg_mul_neg, Int.neg_sub]
  unfold nearP
  rw [e a.x, e a.y, e a.z]

end M
end Go.Proofs.Ytonmihojfcjmjaa
