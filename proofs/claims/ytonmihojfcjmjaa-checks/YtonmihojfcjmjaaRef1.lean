/- Contracts of the document's answer: zone, hex, pairs. -/
import Derived.Test.YtonmihojfcjmjaaRows
import Derived.Test.YtonmihojfcjmjaaTree
import Derived.Test.YtonmihojfcjmjaaMem
import Derived.Handy
import Derived.WalkKit
import Derived.WalkSpells
import Derived.WalkSmall
import Derived.Deep.QuietTactic
import Derived.Deep.LoopGhost
import Derived.BigQuiet
namespace Go.Proofs.Ytonmihojfcjmjaa
open Go.RowKit
set_option linter.unusedVariables false

def zoneB (c : Int) : Bool := decide (48 ≤ c) && decide (c ≤ 55)

set_option maxHeartbeats 400000 in
theorem rzone_any (c : Int) (w : World) (B : Bool) (hB : Hid (zoneB c = B)) :
    Calls Try.prog 60 #[.int .u8 c] w fun e w' => e = .returned (.bool B) ∧ w' = w := by
  go_enter Try.func60, Try.ntmps60
  go_wp2
  all_goals (go_ret; exact ⟨ret_bool (by rw [← hB.out]; unfold zoneB; (first | (simp [*]; done) | (simp; omega))), rfl⟩)

set_option maxHeartbeats 400000 in
theorem rhex_any (c d : Int) (w : World) (h0 : 0 ≤ c) (h1 : c ≤ 255) (hd : Hid (M.hexV c = d)) :
    Calls Try.prog 61 #[.int .u8 c] w fun e w' => e = .returned (.int .i64 d) ∧ w' = w := by
  go_enter Try.func61, Try.ntmps61
  go_wp2
  all_goals (go_ret; exact ⟨ret_int (by rw [← hd.out]; unfold M.hexV; (first | omega | (simp; omega) | (repeat' split <;> omega))), rfl⟩)

def optInt : Option Nat → Int
  | some k => (k : Int)
  | none => -1

set_option maxHeartbeats 1000000 in
theorem rpairs_any (s : ByteArray) (i : Nat) (f : Nat) (w : World) (hs : s.size ≤ 512) (hi : i ≤ s.size) (hf : s.size < f + i) (R : Int) (hR : Hid (optInt (M.pairsF s f i) = R)) :
    Calls Try.prog 62 #[.string s, .int .i64 i] w fun e w' => e = .returned (.int .i64 R) ∧ w' = w := by
  go_enter Try.func62, Try.ntmps62
  go_wp2
  go_loopg [1] f (fun k u wr => ∃ j : Nat, u = .int .i64 j ∧ j ≤ s.size ∧ s.size < k + j ∧ Hid (optInt (M.pairsF s k j) = R) ∧ wr = w)
  case atStart => exact ⟨i, rfl, hi, hf, hR, rfl⟩
  case round =>
    obtain ⟨j, rfl, hj, hk, hP, rfl⟩ := hrel
    by_cases hlt : j < s.size
    · have e0 := M.byteAt_lt hlt
      obtain ⟨k', rfl⟩ : ∃ k', gk = k' + 1 := ⟨gk - 1, by omega⟩
      by_cases t : M.byteAt s j = 59
      · have t1 : ((s[j].toNat : Int) != 59) = false := by rw [← e0, t]; rfl
        by_cases h1 : j + 1 < s.size
        · have e1 := M.byteAt_lt h1
          by_cases z1 : 48 ≤ M.byteAt s (j + 1) ∧ M.byteAt s (j + 1) ≤ 55
          · by_cases h2 : j + 2 < s.size
            · have e2 := M.byteAt_lt h2
              by_cases z2 : 48 ≤ M.byteAt s (j + 2) ∧ M.byteAt s (j + 2) ≤ 55
              · have e : M.pairsF s (k' + 1) j = M.pairsF s k' (j + 3) := M.pairsF_good hlt (by unfold M.pairStep; rw [if_neg (by omega), if_neg (by omega), if_neg (by omega)])
                rw [e] at hP
                rw [e1] at z1
                rw [e2] at z2
                obtain ⟨y1, y2⟩ := z1
                obtain ⟨y3, y4⟩ := z2
                clear e e0 e1 e2 t
                go_wp2
                go_rounds 3
                go_roundg k'
                case measure => omega
                case rel => exact ⟨j + 3, by go_num, by omega, by omega, hP, rfl⟩
              · have e : M.pairsF s (k' + 1) j = some (j + 2) := M.pairsF_bad hlt (by unfold M.pairStep; rw [if_neg (by omega), if_neg (by omega), if_pos (by omega)])
                have E : Hid ((j : Int) + 2 = R) := by have := hP.out; rw [e] at this; exact this
                rw [e1] at z1
                rw [e2] at z2
                obtain ⟨y1, y2⟩ := z1
                clear e e0 e1 e2 t hP
                by_cases y3 : 48 ≤ (s[j + 2].toNat : Int)
                · have y4 : decide ((s[j + 2].toNat : Int) ≤ 55) = false := by simp; omega
                  clear z2
                  go_wp2
                  go_rounds 3
                  go_ret
                  exact ⟨ret_int E.out, rfl⟩
                · clear z2
                  go_wp2
                  go_rounds 3
                  go_ret
                  exact ⟨ret_int E.out, rfl⟩
            · have z2 : M.byteAt s (j + 2) = -1 := M.byteAt_ge (by omega)
              have e : M.pairsF s (k' + 1) j = some (j + 2) := M.pairsF_bad hlt (by unfold M.pairStep; rw [if_neg (by omega), if_neg (by omega), if_pos (by omega)])
              have E : Hid ((s.size : Int) = R) := by have := hP.out; rw [e] at this; unfold Hid; rw [← this]; simp [optInt]; omega
              rw [e1] at z1
              obtain ⟨y1, y2⟩ := z1
              clear e e0 e1 t hP z2
              go_wp2
              go_rounds 3
              go_ret
              exact ⟨ret_int E.out, rfl⟩
          · have e : M.pairsF s (k' + 1) j = some (j + 1) := M.pairsF_bad hlt (by unfold M.pairStep; rw [if_neg (by omega), if_pos (by omega)])
            have E : Hid ((j : Int) + 1 = R) := by have := hP.out; rw [e] at this; exact this
            rw [e1] at z1
            clear e e0 e1 t hP
            by_cases y3 : 48 ≤ (s[j + 1].toNat : Int)
            · have y4 : decide ((s[j + 1].toNat : Int) ≤ 55) = false := by simp; omega
              clear z1
              go_wp2
              go_rounds 3
              go_ret
              exact ⟨ret_int E.out, rfl⟩
            · clear z1
              go_wp2
              go_rounds 3
              go_ret
              exact ⟨ret_int E.out, rfl⟩
        · have z1 : M.byteAt s (j + 1) = -1 := M.byteAt_ge (by omega)
          have e : M.pairsF s (k' + 1) j = some (j + 1) := M.pairsF_bad hlt (by unfold M.pairStep; rw [if_neg (by omega), if_pos (by omega)])
          have E : Hid ((s.size : Int) = R) := by have := hP.out; rw [e] at this; unfold Hid; rw [← this]; simp [optInt]; omega
          clear e e0 t hP z1
          go_wp2
          go_rounds 3
          go_ret
          exact ⟨ret_int E.out, rfl⟩
      · have t1 : ((s[j].toNat : Int) != 59) = true := by rw [← e0]; simp [t]
        have e : M.pairsF s (k' + 1) j = some j := M.pairsF_bad hlt (by unfold M.pairStep; rw [if_pos t])
        have E : Hid ((j : Int) = R) := by have := hP.out; rw [e] at this; exact this
        clear t e e0 hP
        go_wp2
        go_ret
        exact ⟨ret_int E.out, rfl⟩
    · have e : M.pairsF s gk j = none := M.pairsF_end (by omega)
      have E : Hid ((-1 : Int) = R) := by have := hP.out; rw [e] at this; exact this
      clear e hP
      go_wp2
      go_ret
      exact ⟨ret_int E.out, rfl⟩
end Go.Proofs.Ytonmihojfcjmjaa
