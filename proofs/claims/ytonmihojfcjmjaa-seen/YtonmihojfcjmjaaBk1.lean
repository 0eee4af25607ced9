/- Contracts: pick, digits. -/
import Derived.Test.YtonmihojfcjmjaaTr3
import Derived.Laws.IdiomStrings
namespace Go.Proofs.Ytonmihojfcjmjaa
open Go.RowKit
set_option linter.unusedVariables false
attribute [local go_sem] cell_set_off cell_set_blk

theorem tmod_neg {c : Int} (h : c < 0) : 0 ≤ -(c + 1).tmod 255 ∧ -(c + 1).tmod 255 < 255 := by
  have e : -(c + 1).tmod 255 = (-(c + 1)) % 255 := by rw [← Int.neg_tmod, Int.tmod_eq_emod_of_nonneg (by omega)]
  rw [e]
  omega

set_option maxHeartbeats 1000000 in
theorem pick_any (c : Int) (w : World) (h1 : -9223372036854775808 ≤ c) (h2 : c ≤ 9223372036854775807) :
    Calls Try.prog 22 #[.int .i64 c, .int .i64 255] w fun e w' => (∃ r : Int, e = .returned (.int .i64 r) ∧ 0 ≤ r ∧ r < 255) ∧ w' = w := by
  by_cases h : c < 0
  · go_enter Try.func22, Try.ntmps22
    go_wp2
    go_ret
    exact ⟨⟨_, rfl, (tmod_neg h).1, (tmod_neg h).2⟩, rfl⟩
  · go_enter Try.func22, Try.ntmps22
    go_wp2
    go_ret
    exact ⟨⟨_, rfl, by omega, by omega⟩, rfl⟩

theorem hexc : ∀ k : Fin 16, M.hexV ((((⟨#[48, 49, 50, 51, 52, 53, 54, 55, 56, 57, 97, 98, 99, 100, 101, 102]⟩ : ByteArray)[k.val]'(k.isLt)).toNat : Nat) : Int) = (k.val : Int) := by decide

def DigPost (n : Int) (w : World) (r : Ending) (w' : World) : Prop := ∃ b1 b2 : UInt8, r = .returned (.string ⟨#[b1, b2]⟩) ∧ M.hexV (b1.toNat : Int) = n / 16 ∧ M.hexV (b2.toNat : Int) = n % 16 ∧ Below w.heap.size w w'

set_option maxHeartbeats 1000000 in
theorem digits_any (n : Int) (w : World) (h1 : 0 ≤ n) (h2 : n ≤ 255) : Calls Try.prog 23 #[.int .i64 n] w (DigPost n w) := by
  have a1 : 0 ≤ n / 16 := by omega
  have a2 : n / 16 < 16 := by omega
  have a3 : 0 ≤ n % 16 := by omega
  have a4 : n % 16 < 16 := by omega
  have p1 : (n / 16).toNat < (⟨#[48, 49, 50, 51, 52, 53, 54, 55, 56, 57, 97, 98, 99, 100, 101, 102]⟩ : ByteArray).size := by show _ < 16; omega
  have p2 : (n % 16).toNat < (⟨#[48, 49, 50, 51, 52, 53, 54, 55, 56, 57, 97, 98, 99, 100, 101, 102]⟩ : ByteArray).size := by show _ < 16; omega
  have E1 : Hid (M.hexV ((((⟨#[48, 49, 50, 51, 52, 53, 54, 55, 56, 57, 97, 98, 99, 100, 101, 102]⟩ : ByteArray)[(n / 16).toNat]'p1).toNat : Nat) : Int) = n / 16) := (hexc ⟨(n / 16).toNat, by omega⟩).trans (by show (((n / 16).toNat : Nat) : Int) = _; omega)
  have E2 : Hid (M.hexV ((((⟨#[48, 49, 50, 51, 52, 53, 54, 55, 56, 57, 97, 98, 99, 100, 101, 102]⟩ : ByteArray)[(n % 16).toNat]'p2).toNat : Nat) : Int) = n % 16) := (hexc ⟨(n % 16).toNat, by omega⟩).trans (by show (((n % 16).toNat : Nat) : Int) = _; omega)
  have hconv : ∀ b1 b2 : UInt8, (convert 56 9 (.slice (some ⟨w.heap.size, 0, none⟩) 2 2)).run Try.prog ((w.alloc (.cells #[.int .u8 (b1.toNat : Int), .int .u8 (b2.toNat : Int)] 5)).drew) = .ok (.string ⟨#[b1, b2]⟩) ((w.alloc (.cells #[.int .u8 (b1.toNat : Int), .int .u8 (b2.toNat : Int)] 5)).drew) := by
    intro b1 b2
    have q : Blk ((w.alloc (.cells #[.int .u8 (b1.toNat : Int), .int .u8 (b2.toNat : Int)] 5)).drew) w.heap.size #[.int .u8 (b1.toNat : Int), .int .u8 (b2.toNat : Int)] 5 := (Blk.new rfl).drew
    refine run_convert_bytes_back _ 56 9 5 ⟨w.heap.size, 0, none⟩ 2 [b1, b2] Try.underlying56 Try.underlying5 Try.underlying9 ?_
    intro j hj
    have : j = 0 ∨ j = 1 := by simp at hj; omega
    rcases this with rfl | rfl
    · exact q.cell 0
    · exact q.cell 1
  go_enter Try.func23, Try.ntmps23
  go_wp2
  go_region
  all_goals go_wp2
  all_goals go_ret
  all_goals exact ⟨_, _, rfl, E1.out, E2.out, by go_grown⟩

end Go.Proofs.Ytonmihojfcjmjaa
