/- A packet with one byte turned is none. -/
import Derived.Test.YtonmihojfcjmjaaPk5
namespace Go.Proofs.Ytonmihojfcjmjaa
open Go.RowKit
set_option linter.unusedVariables false

/-- The packet's bytes. -/
def M.Cmd.lst (c : M.Cmd) : List UInt8 := c.pack.data.toList
theorem M.lst_len (c : M.Cmd) : c.lst.length = 14 := rfl
theorem M.lst_pack (c : M.Cmd) : (⟨c.lst.toArray⟩ : ByteArray) = c.pack := rfl

theorem M.add8 (b : UInt8) (x : Int) : ((M.b8 ((b.toNat : Int) + x)).toNat : Int) = ((b.toNat : Int) + x) % 256 := M.b8_nat _

theorem M.lst14 {l : List UInt8} (h : l.length = 14) : ∃ b0 b1 b2 b3 b4 b5 b6 b7 b8 b9 b10 b11 b12 b13 : UInt8, l = [b0, b1, b2, b3, b4, b5, b6, b7, b8, b9, b10, b11, b12, b13] := by
  match l, h with
  | [b0, b1, b2, b3, b4, b5, b6, b7, b8, b9, b10, b11, b12, b13], _ => exact ⟨b0, b1, b2, b3, b4, b5, b6, b7, b8, b9, b10, b11, b12, b13, rfl⟩

theorem M.turned (c : M.Cmd) (j : Nat) (x : Int) (hj : j < 14) (x1 : 1 ≤ x) (x2 : x ≤ 255) : M.okB ⟨(c.lst.set j (M.b8 (((c.lst.getD j 0).toNat : Int) + x))).toArray⟩ = false := by
  obtain ⟨b0, b1, b2, b3, b4, b5, b6, b7, b8, b9, b10, b11, b12, b13, hb⟩ := M.lst14 (M.lst_len c)
  have hs := M.pack_sum c b0 b1 b2 b3 b4 b5 b6 b7 b8 b9 b10 b11 b12 b13 (by rw [← M.lst_pack, hb])
  rw [hb]
  cases e : M.okB ⟨([b0, b1, b2, b3, b4, b5, b6, b7, b8, b9, b10, b11, b12, b13].set j (M.b8 ((([b0, b1, b2, b3, b4, b5, b6, b7, b8, b9, b10, b11, b12, b13].getD j 0).toNat : Int) + x))).toArray⟩ with
  | false => rfl
  | true =>
    exfalso
    unfold M.okB at e
    simp only [Bool.and_eq_true, decide_eq_true_eq] at e
    have hk := e.2
    generalize M.decC _ = d at hk
    have n0 := b0.toNat_lt
    have n1 := b1.toNat_lt
    have n2 := b2.toNat_lt
    have n3 := b3.toNat_lt
    have n4 := b4.toNat_lt
    have n5 := b5.toNat_lt
    have n6 := b6.toNat_lt
    have n7 := b7.toNat_lt
    have n8 := b8.toNat_lt
    have n9 := b9.toNat_lt
    have n10 := b10.toNat_lt
    have n11 := b11.toNat_lt
    have n12 := b12.toNat_lt
    have n13 := b13.toNat_lt
    unfold M.sumOk at hs
    have : j = 0 ∨ j = 1 ∨ j = 2 ∨ j = 3 ∨ j = 4 ∨ j = 5 ∨ j = 6 ∨ j = 7 ∨ j = 8 ∨ j = 9 ∨ j = 10 ∨ j = 11 ∨ j = 12 ∨ j = 13 := by omega
    rcases this with rfl | rfl | rfl | rfl | rfl | rfl | rfl | rfl | rfl | rfl | rfl | rfl | rfl | rfl
    all_goals
      have hs2 := M.pack_sum d _ _ _ _ _ _ _ _ _ _ _ _ _ _ hk
      unfold M.sumOk at hs2
      simp only [M.add8, List.getD_cons_zero, List.getD_cons_succ] at hs2
      omega

theorem M.rdpack_ok (c : M.Cmd) (h : M.Fits c) : M.okB c.pack = true := by
  unfold M.okB M.decC
  rw [M.rd_pack c h, (M.fitsB_iff c).2 h]
  simp [M.pack_size]
theorem M.decR_pack (c : M.Cmd) (h : M.Fits c) : M.decR c.pack = c := by
  unfold M.decR
  rw [M.rdpack_ok c h]
  exact M.rd_pack c h
theorem M.decE_pack (c : M.Cmd) (h : M.Fits c) : M.decE c.pack = 0 := by
  unfold M.decE
  rw [M.rdpack_ok c h, M.pack_size]
  rfl
theorem M.decR_no {p : ByteArray} (h : M.okB p = false) : M.decR p = M.Cmd.zero := by unfold M.decR; rw [h]; rfl
theorem M.decE_no {p : ByteArray} (h : M.okB p = false) (hs : p.size ≤ 14) : M.decE p = 8 := by unfold M.decE; rw [if_neg (by omega), h]; rfl
theorem M.decE_long {p : ByteArray} (hs : 14 < p.size) : M.decE p = 2 := by unfold M.decE; rw [if_pos hs]

end Go.Proofs.Ytonmihojfcjmjaa
