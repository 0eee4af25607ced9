/- Contracts of packets: the small ones. -/
import Derived.Test.YtonmihojfcjmjaaRows
import Derived.Test.YtonmihojfcjmjaaPackM
import Derived.Test.YtonmihojfcjmjaaMem
import Derived.Handy
import Derived.WalkKit
import Derived.WalkSpells
import Derived.WalkSmall
import Derived.Deep.QuietTactic
import Derived.Deep.RegionHeld3
import Derived.Deep.AppendLies
import Derived.Deep.LoopGhost
import Derived.Laws.IdiomStrings
import Derived.Maps.AppendAt
import Derived.BigQuiet
namespace Go.Proofs.Ytonmihojfcjmjaa
open Go.RowKit
set_option linter.unusedVariables false
attribute [local go_sem] cell_set_off cell_set_blk

set_option maxHeartbeats 400000 in
theorem psigned_any (n : Int) (w : World) (h1 : 0 ≤ n) (h2 : n ≤ 255) : Calls Try.prog 90 #[.int .u8 n] w fun e w' => e = .returned (.int .i64 (M.sg n)) ∧ w' = w := by
  by_cases h : 127 < n
  · go_enter Try.func90, Try.ntmps90
    go_wp2
    go_ret
    exact ⟨ret_int (by unfold M.sg; rw [if_pos h]), rfl⟩
  · go_enter Try.func90, Try.ntmps90
    go_wp2
    go_ret
    exact ⟨ret_int (by unfold M.sg; rw [if_neg (by omega)]), rfl⟩

set_option maxHeartbeats 400000 in
theorem rsigned_any (n : Int) (w : World) (h1 : 0 ≤ n) (h2 : n ≤ 255) : Calls Try.prog 76 #[.int .u8 n] w fun e w' => e = .returned (.int .i64 (M.sg n)) ∧ w' = w := by
  by_cases h : 127 < n
  · go_enter Try.func76, Try.ntmps76
    go_wp2
    go_ret
    exact ⟨ret_int (by unfold M.sg; rw [if_pos h]), rfl⟩
  · go_enter Try.func76, Try.ntmps76
    go_wp2
    go_ret
    exact ⟨ret_int (by unfold M.sg; rw [if_neg (by omega)]), rfl⟩

set_option maxHeartbeats 1000000 in
theorem rsmall_any (p : M.V3) (w : World) :
    Calls Try.prog 53 #[.agg #[.int .i64 p.x, .int .i64 p.y, .int .i64 p.z]] w fun e w' => e = .returned (.bool (M.smallB p)) ∧ Below w.heap.size w w' := by
  go_enter Try.func53, Try.ntmps53
  go_wp2
  go_rounds 4
  all_goals (go_ret; exact ⟨ret_bool (by unfold M.smallB; (first | (simp [*]; done) | (simp; omega))), by go_grown⟩)

/-- The sum, less 256 as often as that goes. -/
def M.sum8 (l : List Int) : Int := l.sum % 256

theorem getD_drop {l : List Int} {k : Nat} (h : k < l.length) : l.drop k = l.getD k 0 :: l.drop (k + 1) := by
  rw [List.drop_eq_getElem_cons h]
  congr 1
  simp [List.getD_eq_getElem?_getD, h]

set_option maxHeartbeats 1000000 in
theorem psum_any (g cap : Nat) (l : List Int) (w : World) (hl : l.length ≤ 1000) (hc : ∀ k, k < l.length → w.cell? ⟨g, k, none⟩ = some (.int .u8 (l.getD k 0))) (hb : ∀ k, k < l.length → 0 ≤ l.getD k 0 ∧ l.getD k 0 ≤ 255) :
    Calls Try.prog 89 #[.slice (some ⟨g, 0, none⟩) l.length cap] w fun e w' => e = .returned (.int .u8 (M.sum8 l)) ∧ w' = w := by
  obtain ⟨Z, hZ⟩ : ∃ Z, M.sum8 l = Z := ⟨_, rfl⟩
  rw [hZ]
  have HZ : Hid ((0 + (l.drop 0).sum) % 256 = Z) := by unfold Hid; rw [← hZ]; simp [M.sum8]
  have HC : Hid (∀ k, k < l.length → w.cell? ⟨g, k, none⟩ = some (.int .u8 (l.getD k 0))) := hc
  have HB : Hid (∀ k, k < l.length → 0 ≤ l.getD k 0 ∧ l.getD k 0 ≤ 255) := hb
  clear hZ hc hb
  go_enter Try.func89, Try.ntmps89
  go_wp2_with fail
  go_loopg [3, 8] (l.length + 1) (fun k u3 u8 wr => ∃ (j : Nat) (z : Int), u3 = .int .u8 z ∧ u8 = .int .i64 j ∧ 0 ≤ z ∧ z ≤ 255 ∧ j ≤ l.length ∧ k + j = l.length + 1 ∧ Hid ((z + (l.drop j).sum) % 256 = Z) ∧ wr = w)
  case atStart => exact ⟨0, 0, rfl, rfl, by omega, by omega, Nat.zero_le _, by omega, HZ, rfl⟩
  case round =>
    obtain ⟨j, z, rfl, rfl, z1, z2, hj, hk, hP, rfl⟩ := hrel
    by_cases hlt : j < l.length
    · have c0 := HC.out j hlt
      have b0 := HB.out j hlt
      have hP2 : Hid ((z + (l.getD j 0 + (l.drop (j + 1)).sum)) % 256 = Z) := by unfold Hid; have := hP.out; rw [getD_drop hlt, List.sum_cons] at this; exact this
      clear hP
      generalize l.getD j 0 = y at c0 b0 hP2
      obtain ⟨b1, b2⟩ := b0
      have j0 : (0 : Int) ≤ (j : Int) := by omega
      have j1 : (j : Int) < (l.length : Int) := by omega
      have j2 : (l.length : Int) ≤ 1000 := by omega
      go_wp2
      go_roundg (gk - 1)
      case measure => omega
      case rel => exact ⟨j + 1, (z + y) % 256, rfl, by go_num, by omega, by omega, hlt, by omega, by unfold Hid; have := hP2.out; omega, rfl⟩
    · have j1 : ¬ (j : Int) < (l.length : Int) := by omega
      have E : Hid (z = Z) := by have := hP.out; rw [List.drop_of_length_le (by omega)] at this; simp at this; unfold Hid; omega
      clear hP
      go_wp2
      go_ret
      exact ⟨ret_int E.out, rfl⟩

theorem psum_at (g cap n : Nat) (l : List Int) (w : World) (hn : l.length = n) (hl : n ≤ 1000) (hc : ∀ k, k < n → w.cell? ⟨g, k, none⟩ = some (.int .u8 (l.getD k 0))) (hb : ∀ k, k < n → 0 ≤ l.getD k 0 ∧ l.getD k 0 ≤ 255) (K : Int) (hK : Hid (M.sum8 l = K)) :
    Calls Try.prog 89 #[.slice (some ⟨g, 0, none⟩) n cap] w fun e w' => e = .returned (.int .u8 K) ∧ w' = w := by
  subst hn
  rw [← hK.out]
  exact psum_any g cap l w hl hc hb

end Go.Proofs.Ytonmihojfcjmjaa
