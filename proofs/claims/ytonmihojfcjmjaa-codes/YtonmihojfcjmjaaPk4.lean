/- Contracts of packets: read. -/
import Derived.Test.YtonmihojfcjmjaaPk3
import Derived.StillTailTactics
namespace Go.Proofs.Ytonmihojfcjmjaa
open Go.RowKit
set_option linter.unusedVariables false
attribute [local go_sem] cell_set_off cell_set_blk

theorem psigned_b (b : UInt8) (w : World) : Calls Try.prog 90 #[.int .u8 (b.toNat : Int)] w fun e w' => e = .returned (.int .i64 (M.sg (b.toNat : Int))) ∧ w' = w :=
  psigned_any _ w (by omega) (by have := b.toNat_lt; omega)

theorem still_tail {P : Program} {id : Nat} {Q : Exit → Act → World → Prop} {a : Act} {w : World} {l : List Oper} (n : Nat) (hm : P.follows .mixedOrders = true) (hB : Region.lexTailB .any l.toArray n = true)
    (h : wpStill P l.toArray w.drew (fun a' => wpList P l.toArray Q (l.drop n) a' w.drew) (l.take n) a) : (Code.region id l.toArray true).wp P Q a w := wp_region_still_tail n hm hB h

theorem Blk.set9 {W : World} {b : Nat} {x0 x1 x2 x3 x4 x5 x6 x7 x8 : Value} {t : TypeId} (h : Blk W b #[x0, x1, x2, x3, x4, x5, x6, x7, x8] t) (y0 y1 y2 y3 y4 y5 y6 y7 y8 : Value) : Blk (((((((((W.setCell ⟨b, 0, none⟩ y0).setCell ⟨b, 1, none⟩ y1).setCell ⟨b, 2, none⟩ y2).setCell ⟨b, 3, none⟩ y3).setCell ⟨b, 4, none⟩ y4).setCell ⟨b, 5, none⟩ y5).setCell ⟨b, 6, none⟩ y6).setCell ⟨b, 7, none⟩ y7).setCell ⟨b, 8, none⟩ y8).drew b #[y0, y1, y2, y3, y4, y5, y6, y7, y8] t := by
  have e := (((((((((h.set 0 y0).set 1 y1).set 2 y2).set 3 y3).set 4 y4).set 5 y5).set 6 y6).set 7 y7).set 8 y8).drew
  simp only [List.setIfInBounds_toArray, List.set_cons_succ, List.set_cons_zero] at e
  exact e

theorem rdSeq {a b : Nat} (ha : a < 256) (hb : b < 256) : wrap64 (wrap64 (a : Int) + wrap64 (wrap64 (b : Int) * 256)) = (a : Int) + 256 * (b : Int) := by
  rw [IntWalk.wrap64_in (a : Int) (by omega), IntWalk.wrap64_in (b : Int) (by omega), IntWalk.wrap64_in ((b : Int) * 256) (by omega), IntWalk.wrap64_in _ (by omega)]
  omega
theorem rdTime {a b c : Nat} (ha : a < 256) (hb : b < 256) (hc : c < 256) : wrap64 (wrap64 (wrap64 (a : Int) + wrap64 (wrap64 (b : Int) * 256)) + wrap64 (wrap64 (c : Int) * 65536)) = (a : Int) + 256 * (b : Int) + 65536 * (c : Int) := by
  rw [rdSeq ha hb, IntWalk.wrap64_in (c : Int) (by omega), IntWalk.wrap64_in ((c : Int) * 65536) (by omega), IntWalk.wrap64_in _ (by omega)]
  omega

set_option maxRecDepth 100000 in
set_option maxHeartbeats 4000000 in
theorem pread_any (p : ByteArray) (w : World) (c : M.Cmd) (hp : p.size = 14) (hc : Hid (M.decC p = c)) :
    Calls Try.prog 75 #[.string p] w fun e w' => e = .returned (.agg #[.int .i64 c.seq, .bool c.fire, .int .i64 c.mv.x, .int .i64 c.mv.y, .int .i64 c.mv.z, .int .i64 c.aim.x, .int .i64 c.aim.y, .int .i64 c.aim.z, .int .i64 c.time]) ∧ Below w.heap.size w w' := by
  have hcs := hc.out
  unfold M.decC M.rd at hcs
  rw [M.byteAt_lt (s := p) (i := 1) (by omega), M.byteAt_lt (s := p) (i := 2) (by omega), M.byteAt_lt (s := p) (i := 3) (by omega), M.byteAt_lt (s := p) (i := 4) (by omega), M.byteAt_lt (s := p) (i := 5) (by omega), M.byteAt_lt (s := p) (i := 6) (by omega), M.byteAt_lt (s := p) (i := 7) (by omega), M.byteAt_lt (s := p) (i := 8) (by omega), M.byteAt_lt (s := p) (i := 9) (by omega), M.byteAt_lt (s := p) (i := 10) (by omega), M.byteAt_lt (s := p) (i := 11) (by omega), M.byteAt_lt (s := p) (i := 12) (by omega)] at hcs
  have E0 : Hid (wrap64 (wrap64 (p[1].toNat : Int) + wrap64 (wrap64 (p[2].toNat : Int) * 256)) = c.seq) := by unfold Hid; rw [← hcs]; exact rdSeq p[1].toNat_lt p[2].toNat_lt
  have E1 : Hid (((p[3].toNat : Int) == 1) = c.fire) := by unfold Hid; rw [← hcs]; rfl
  have E2 : Hid (M.sg (p[4].toNat : Int) = c.mv.x) := by unfold Hid; rw [← hcs]
  have E3 : Hid (M.sg (p[5].toNat : Int) = c.mv.y) := by unfold Hid; rw [← hcs]
  have E4 : Hid (M.sg (p[6].toNat : Int) = c.mv.z) := by unfold Hid; rw [← hcs]
  have E5 : Hid (M.sg (p[7].toNat : Int) = c.aim.x) := by unfold Hid; rw [← hcs]
  have E6 : Hid (M.sg (p[8].toNat : Int) = c.aim.y) := by unfold Hid; rw [← hcs]
  have E7 : Hid (M.sg (p[9].toNat : Int) = c.aim.z) := by unfold Hid; rw [← hcs]
  have E8 : Hid (wrap64 (wrap64 (wrap64 (p[10].toNat : Int) + wrap64 (wrap64 (p[11].toNat : Int) * 256)) + wrap64 (wrap64 (p[12].toNat : Int) * 65536)) = c.time) := by unfold Hid; rw [← hcs]; exact rdTime p[10].toNat_lt p[11].toNat_lt p[12].toNat_lt
  clear hcs hc
  go_enter Try.func75, Try.ntmps75
  go_wp2_with fail
  have q0 : Blk (w.alloc (.cells #[.int .i64 0, .bool false, .int .i64 0, .int .i64 0, .int .i64 0, .int .i64 0, .int .i64 0, .int .i64 0, .int .i64 0] 50)) w.heap.size _ _ := Blk.new rfl
  have hB : Below w.heap.size w (w.alloc (.cells #[.int .i64 0, .bool false, .int .i64 0, .int .i64 0, .int .i64 0, .int .i64 0, .int .i64 0, .int .i64 0, .int .i64 0] 50)) := by go_grown
  generalize w.alloc (.cells #[.int .i64 0, .bool false, .int .i64 0, .int .i64 0, .int .i64 0, .int .i64 0, .int .i64 0, .int .i64 0, .int .i64 0] 50) = W at q0 hB ⊢
  refine still_tail 45 (by kernel_rfl) (by kernel_rfl) ?_
  simp only [List.take_succ_cons, List.take_zero, List.drop_succ_cons, List.drop_zero]
  repeat (first | still_step | still_call (psigned_b _ _))
  refine wpStill_nil ?_
  obtain ⟨a0, a1, a2, a3, a4, a5, a6, a7, a8, af, az⟩ := q0.nine
  go_wp2
  rw [E0.out, E1.out, E2.out, E3.out, E4.out, E5.out, E6.out, E7.out, E8.out]
  have q9 : Blk (((((((((W.setCell ⟨w.heap.size, 0, none⟩ (.int .i64 c.seq)).setCell ⟨w.heap.size, 1, none⟩ (.bool c.fire)).setCell ⟨w.heap.size, 2, none⟩ (.int .i64 c.mv.x)).setCell ⟨w.heap.size, 3, none⟩ (.int .i64 c.mv.y)).setCell ⟨w.heap.size, 4, none⟩ (.int .i64 c.mv.z)).setCell ⟨w.heap.size, 5, none⟩ (.int .i64 c.aim.x)).setCell ⟨w.heap.size, 6, none⟩ (.int .i64 c.aim.y)).setCell ⟨w.heap.size, 7, none⟩ (.int .i64 c.aim.z)).setCell ⟨w.heap.size, 8, none⟩ (.int .i64 c.time)).drew w.heap.size #[.int .i64 c.seq, .bool c.fire, .int .i64 c.mv.x, .int .i64 c.mv.y, .int .i64 c.mv.z, .int .i64 c.aim.x, .int .i64 c.aim.y, .int .i64 c.aim.z, .int .i64 c.time] 50 := q0.set9 (.int .i64 c.seq) (.bool c.fire) (.int .i64 c.mv.x) (.int .i64 c.mv.y) (.int .i64 c.mv.z) (.int .i64 c.aim.x) (.int .i64 c.aim.y) (.int .i64 c.aim.z) (.int .i64 c.time)
  have B9 : Below w.heap.size w (((((((((W.setCell ⟨w.heap.size, 0, none⟩ (.int .i64 c.seq)).setCell ⟨w.heap.size, 1, none⟩ (.bool c.fire)).setCell ⟨w.heap.size, 2, none⟩ (.int .i64 c.mv.x)).setCell ⟨w.heap.size, 3, none⟩ (.int .i64 c.mv.y)).setCell ⟨w.heap.size, 4, none⟩ (.int .i64 c.mv.z)).setCell ⟨w.heap.size, 5, none⟩ (.int .i64 c.aim.x)).setCell ⟨w.heap.size, 6, none⟩ (.int .i64 c.aim.y)).setCell ⟨w.heap.size, 7, none⟩ (.int .i64 c.aim.z)).setCell ⟨w.heap.size, 8, none⟩ (.int .i64 c.time)).drew := by go_grown
  generalize (((((((((W.setCell ⟨w.heap.size, 0, none⟩ (.int .i64 c.seq)).setCell ⟨w.heap.size, 1, none⟩ (.bool c.fire)).setCell ⟨w.heap.size, 2, none⟩ (.int .i64 c.mv.x)).setCell ⟨w.heap.size, 3, none⟩ (.int .i64 c.mv.y)).setCell ⟨w.heap.size, 4, none⟩ (.int .i64 c.mv.z)).setCell ⟨w.heap.size, 5, none⟩ (.int .i64 c.aim.x)).setCell ⟨w.heap.size, 6, none⟩ (.int .i64 c.aim.y)).setCell ⟨w.heap.size, 7, none⟩ (.int .i64 c.aim.z)).setCell ⟨w.heap.size, 8, none⟩ (.int .i64 c.time)).drew = W9 at q9 B9 ⊢
  clear a0 a1 a2 a3 a4 a5 a6 a7 a8 af az q0 hB
  obtain ⟨a0, a1, a2, a3, a4, a5, a6, a7, a8, af, az⟩ := q9.nine
  exact bodyPost_ret (v := .agg #[.int .i64 c.seq, .bool c.fire, .int .i64 c.mv.x, .int .i64 c.mv.y, .int .i64 c.mv.z, .int .i64 c.aim.x, .int .i64 c.aim.y, .int .i64 c.aim.z, .int .i64 c.time]) (by simp [results, Try.results75, go_sem, a0, a1, a2, a3, a4, a5, a6, a7, a8]) rfl ⟨rfl, B9⟩
end Go.Proofs.Ytonmihojfcjmjaa
