import Derived.Test.YtonmihojfcjmjabBBy
/- Contracts of the statements' helpers: calm. -/
namespace Go.Proofs.Ytonmihojfcjmjab
open Go.RowKit
set_option linter.unusedVariables false
attribute [local go_sem] cell_set_off cell_set_blk

theorem M.decR_fire (p : ByteArray) (h : M.okB p = true → M.byteAt p 3 ≠ 1) : (M.decR p).fire = false := by
  unfold M.decR
  split
  · rename_i e
    show decide (M.byteAt p 3 = 1) = false
    exact decide_eq_false (h e)
  · rfl

/-- What calm gives back. -/
def CalmPost (p : ByteArray) (w : World) (e : Ending) (w' : World) : Prop := (∃ q : ByteArray, e = .returned (.string q) ∧ q.size = p.size ∧ (M.decR q).fire = false) ∧ Below w.heap.size w w'

set_option maxRecDepth 100000 in
set_option maxHeartbeats 2000000 in
theorem kcalm_any (p : ByteArray) (w : World) (hs : p.size ≤ maxLen) : Calls Try.prog 35 #[.string p] w (CalmPost p w) := by
  by_cases h14 : p.size = 14
  · obtain ⟨b0, b1, b2, b3, b4, b5, b6, b7, b8, b9, b10, b11, b12, b13, rfl⟩ := M.str14 p h14
    clear h14 hs
    by_cases h3 : b3 = 1
    · subst h3
      obtain ⟨cap, W6, hconv, hBB, hB6, cap1, cap2⟩ := bytes_of w ⟨#[b0, b1, b2, 1, b4, b5, b6, b7, b8, b9, b10, b11, b12, b13]⟩ rfl
      have c3 : W6.cell? ⟨w.heap.size, 3, none⟩ = some (.int .u8 1) := hBB.cell 3 (by show 3 < 14; decide)
      have c13 : W6.cell? ⟨w.heap.size, 13, none⟩ = some (.int .u8 (b13.toNat : Int)) := hBB.cell 13 (by show 13 < 14; decide)
      have f3 : W6.frozen? ⟨w.heap.size, 3, none⟩ = false := hBB.free 3 (by show 3 < 14; decide)
      have f13 : W6.frozen? ⟨w.heap.size, 13, none⟩ = false := hBB.free 13 (by show 13 < 14; decide)
      have bb := b13.toNat_lt
      have B7 : BB ((W6.setCell ⟨w.heap.size, 3, none⟩ (.int .u8 0)).setCell ⟨w.heap.size, 13, none⟩ (.int .u8 (((b13.toNat : Int) - 1) % 256))) w.heap.size [b0, b1, b2, 0, b4, b5, b6, b7, b8, b9, b10, b11, b12, M.b8 ((b13.toNat : Int) - 1)] := by
        have := (hBB.set 3 (by show 3 < 14; decide) 0).set 13 (by show 13 < 14; decide) (M.b8 ((b13.toNat : Int) - 1))
        rw [M.b8_nat] at this
        exact this
      have hconv2 := B7.conv 14 cap (by show 14 ≤ 14; decide)
      have hC := hid (show (M.decR ⟨#[b0, b1, b2, 0, b4, b5, b6, b7, b8, b9, b10, b11, b12, M.b8 ((b13.toNat : Int) - 1)]⟩).fire = false from M.decR_fire _ (fun _ => by show ((0 : UInt8).toNat : Int) ≠ 1; decide))
      have z : ((((⟨#[b0, b1, b2, 1, b4, b5, b6, b7, b8, b9, b10, b11, b12, b13]⟩ : ByteArray)[3]'(by show 3 < 14; decide)).toNat : Int) != 1) = false := rfl
      have hB8 := hid (show Below w.heap.size w ((W6.setCell ⟨w.heap.size, 3, none⟩ (.int .u8 0)).setCell ⟨w.heap.size, 13, none⟩ (.int .u8 (((b13.toNat : Int) - 1) % 256))) from by have := hB6.size; go_grown)
      clear hBB B7 hB6
      go_enter Try.func35, Try.ntmps35
      go_wp2
      go_ret
      exact ⟨⟨_, rfl, rfl, hC.out⟩, hB8.out⟩
    · have hC := hid (show (M.decR ⟨#[b0, b1, b2, b3, b4, b5, b6, b7, b8, b9, b10, b11, b12, b13]⟩).fire = false from M.decR_fire _ (fun _ => by
        show (b3.toNat : Int) ≠ 1
        intro h; apply h3; apply UInt8.toNat_inj.1; exact (by omega : b3.toNat = 1)))
      have z : ((((⟨#[b0, b1, b2, b3, b4, b5, b6, b7, b8, b9, b10, b11, b12, b13]⟩ : ByteArray)[3]'(by show 3 < 14; decide)).toNat : Int) != 1) = true := by
        show ((b3.toNat : Int) != 1) = true
        simp only [bne_iff_ne]
        intro h; apply h3; apply UInt8.toNat_inj.1; exact (by omega : b3.toNat = 1)
      clear h3
      go_enter Try.func35, Try.ntmps35
      go_wp2
      go_ret
      exact ⟨⟨_, rfl, rfl, hC.out⟩, Below.refl _ _⟩
  · have hC := hid (show (M.decR p).fire = false from M.decR_fire _ (fun e => by unfold M.okB at e; simp [h14] at e))
    have z : ((p.size : Int) == 14) = false := by simp; omega
    unfold maxLen at hs
    have z2 : (p.size : Int) ≤ 9223372036854775807 := by omega
    clear h14 hs
    go_enter Try.func35, Try.ntmps35
    go_wp2
    go_ret
    exact ⟨⟨_, rfl, rfl, hC.out⟩, Below.refl _ _⟩

end Go.Proofs.Ytonmihojfcjmjab
