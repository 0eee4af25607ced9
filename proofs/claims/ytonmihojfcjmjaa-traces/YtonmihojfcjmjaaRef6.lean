/- The document's Check; the law Checks. -/
import Derived.Test.YtonmihojfcjmjaaRef5
import Derived.Test.YtonmihojfcjmjaaRd7
namespace Go.Proofs.Ytonmihojfcjmjaa
open Go.RowKit
set_option linter.unusedVariables false
attribute [local go_sem] cell_set_off cell_set_blk

theorem placeS_tree {s : ByteArray} (h1 : (M.top s).1 = false) : placeS s = ((M.top s).2.place : Int) := by unfold placeS; rw [if_pos h1]
theorem placeS_else {s : ByteArray} (h1 : (M.top s).1 = true) : placeS s = optInt (M.pairsF s (s.size + 1) (M.top s).2.place) := by unfold placeS; rw [if_neg (by simp [h1])]

/-- What place tells, and what Check makes of it. -/
theorem place_err {s : ByteArray} (hs : s.size ≤ 512) : (0 ≤ placeS s ∧ M.errS s = (3, placeS s)) ∨ (placeS s = -1 ∧ (M.top s).1 = true ∧ M.errS s = if 0 ≤ (M.top s).2.wrong then (4, (M.top s).2.wrong) else (0, 0)) := by
  cases h : (M.top s).1
  · left
    rw [placeS_tree h]
    exact ⟨by omega, errS_tree hs h⟩
  · rw [placeS_else h]
    cases h2 : M.pairsF s (s.size + 1) (M.top s).2.place with
    | some k => left; exact ⟨by simp [optInt], errS_pair hs h h2⟩
    | none => right; exact ⟨rfl, rfl, errS_none hs h h2⟩

set_option maxHeartbeats 1000000 in
theorem rcheck_any (s : ByteArray) (w : World) (hm : s.size ≤ maxLen) : Calls Try.prog 13 #[.string s] w (CheckPost s w) := by
  by_cases h : 512 < s.size
  · have E : Hid (M.errS s = (2, 0)) := errS_long h
    have hc : decide ((512 : Int) < (s.size : Int)) = true := by simp; omega
    unfold maxLen at hm
    go_enter Try.func13, Try.ntmps13
    go_wp2
    go_ret2
    exact ⟨2, 0, rfl, E.out, Below.refl _ _⟩
  · have hs : s.size ≤ 512 := by omega
    have HE : Hid ((0 ≤ placeS s ∧ M.errS s = (3, placeS s)) ∨ (placeS s = -1 ∧ (M.top s).1 = true ∧ M.errS s = if 0 ≤ (M.top s).2.wrong then (4, (M.top s).2.wrong) else (0, 0))) := place_err hs
    have hc : decide ((512 : Int) < (s.size : Int)) = false := by simp; omega
    clear hm h
    go_enter Try.func13, Try.ntmps13
    go_wp2_with fail
    refine (place_any s _ hs).mono ?_
    rintro e w1 ⟨rfl, hb⟩
    rcases HE.out with ⟨h0, h1⟩ | ⟨h0, h1, h2⟩
    · have E : Hid (M.errS s = (3, placeS s)) := h1
      generalize placeS s = p at *
      clear h1 HE
      go_wp2
      go_ret2
      exact ⟨3, p, rfl, E.out, hb⟩
    · have E : Hid (M.errS s = if 0 ≤ (M.top s).2.wrong then (4, (M.top s).2.wrong) else (0, 0)) := h2
      rw [h0]
      clear h0 h2 HE
      go_wp2_with fail
      refine (leaves_any s _ hs h1).mono ?_
      rintro e w2 ⟨x, n, cap, rfl, _, hb2⟩
      have hb3 := bl hb hb2
      clear hb hb2
      clear h1
      by_cases hz : 0 ≤ (M.top s).2.wrong
      · have E2 : Hid (M.errS s = (4, (M.top s).2.wrong)) := by unfold Hid; rw [E.out, if_pos hz]
        generalize (M.top s).2.wrong = q at *
        clear E
        go_wp2
        go_ret2
        exact ⟨4, q, rfl, E2.out, hb3⟩
      · have E2 : Hid (M.errS s = (0, 0)) := by unfold Hid; rw [E.out, if_neg hz]
        generalize (M.top s).2.wrong = q at *
        clear E
        go_wp2
        go_ret2
        exact ⟨0, 0, rfl, E2.out, hb3⟩

set_option maxHeartbeats 1000000 in
theorem checks_any (s : ByteArray) (w : World) (hm : s.size ≤ maxLen) : Calls Try.prog 3 #[.string s] w fun e w' => e = .returned (.bool true) ∧ Below w.heap.size w w' := by
  go_enter Try.func3, Try.ntmps3
  go_wp2_with fail
  refine (check_any s _ hm).mono ?_
  rintro e w1 ⟨a, b, rfl, hE, hb⟩
  have E : Hid (M.errS s = (a, b)) := hE
  clear hE
  go_wp2_with fail
  refine (rcheck_any s _ hm).mono ?_
  rintro e w2 ⟨a2, b2, rfl, hE, hb2⟩
  have hb3 := bl hb hb2
  have hab : (a, b) = (a2, b2) := E.out.symm.trans hE
  clear hb hb2 hE E
  cases hab
  go_wp2
  go_ret
  exact ⟨ret_bool (by simp), hb3⟩

end Go.Proofs.Ytonmihojfcjmjaa
