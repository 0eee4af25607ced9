import Derived.Test.YtonmihojfcjmjaaGreatBPk
import Derived.Test.YtonmihojfcjmjaaGreatBBz
import Derived.StillTailTactics
/- Contracts of packets: fits, Encode. -/
namespace Go.Proofs.YtonmihojfcjmjaaGreat
open Go.RowKit
set_option linter.unusedVariables false
attribute [local go_sem] cell_set_off cell_set_blk

theorem Blk.nine {W : World} {b : Nat} {x0 x1 x2 x3 x4 x5 x6 x7 x8 : Value} {t : TypeId} (h : Blk W b #[x0, x1, x2, x3, x4, x5, x6, x7, x8] t) :
    W.cell? ⟨b, 0, none⟩ = some x0 ∧ W.cell? ⟨b, 1, none⟩ = some x1 ∧ W.cell? ⟨b, 2, none⟩ = some x2 ∧ W.cell? ⟨b, 3, none⟩ = some x3 ∧ W.cell? ⟨b, 4, none⟩ = some x4 ∧ W.cell? ⟨b, 5, none⟩ = some x5 ∧ W.cell? ⟨b, 6, none⟩ = some x6 ∧ W.cell? ⟨b, 7, none⟩ = some x7 ∧ W.cell? ⟨b, 8, none⟩ = some x8 ∧
    (∀ i, W.frozen? ⟨b, i, none⟩ = false) ∧ b < W.heap.size :=
  ⟨h.cell 0, h.cell 1, h.cell 2, h.cell 3, h.cell 4, h.cell 5, h.cell 6, h.cell 7, h.cell 8, h.frozen, h.lt⟩

theorem holds_small (p : M.V3) (w : World) (B : Bool) (hB : Hid (M.smallB p = B)) :
    Calls Tryz.prog 71 #[.agg #[.int .i64 (-128), .int .i64 (-128), .int .i64 (-128), .int .i64 127, .int .i64 127, .int .i64 127], .agg #[.int .i64 p.x, .int .i64 p.y, .int .i64 p.z]] w fun e w' => e = .returned (.bool B) ∧ Below w.heap.size w w' := by
  rw [← hB.out]
  exact holds_any ⟨-128, -128, -128⟩ ⟨127, 127, 127⟩ p w

theorem M.numB_no {c : M.Cmd} (h : c.seq < 1 ∨ 65535 < c.seq ∨ c.time < 0 ∨ 16777215 < c.time) : c.fitsB = false := by
  cases e : c.fitsB
  · rfl
  · obtain ⟨a1, a2, a3, a4, _, _⟩ := (M.fitsB_iff c).1 e
    omega

set_option maxHeartbeats 2000000 in
theorem fits_any (c : M.Cmd) (w : World) (B : Bool) (hB : Hid (c.fitsB = B)) : Calls Tryz.prog 93 #[.agg #[.int .i64 c.seq, .bool c.fire, .int .i64 c.mv.x, .int .i64 c.mv.y, .int .i64 c.mv.z, .int .i64 c.aim.x, .int .i64 c.aim.y, .int .i64 c.aim.z, .int .i64 c.time]] w fun e w' => e = .returned (.bool B) ∧ Below w.heap.size w w' := by
  by_cases h1 : c.seq < 1
  · have E : Hid (false = B) := by unfold Hid; rw [← hB.out, M.numB_no (.inl h1)]
    go_enter Tryz.func93, Tryz.ntmps93
    go_wp2
    go_ret
    exact ⟨ret_bool E.out, by go_grown⟩
  by_cases h2 : 65535 < c.seq
  · have E : Hid (false = B) := by unfold Hid; rw [← hB.out, M.numB_no (.inr (.inl h2))]
    go_enter Tryz.func93, Tryz.ntmps93
    go_wp2
    go_ret
    exact ⟨ret_bool E.out, by go_grown⟩
  by_cases h3 : c.time < 0
  · have E : Hid (false = B) := by unfold Hid; rw [← hB.out, M.numB_no (.inr (.inr (.inl h3)))]
    go_enter Tryz.func93, Tryz.ntmps93
    go_wp2
    go_ret
    exact ⟨ret_bool E.out, by go_grown⟩
  by_cases h4 : 16777215 < c.time
  · have E : Hid (false = B) := by unfold Hid; rw [← hB.out, M.numB_no (.inr (.inr (.inr h4)))]
    go_enter Tryz.func93, Tryz.ntmps93
    go_wp2
    go_ret
    exact ⟨ret_bool E.out, by go_grown⟩
  have hn : c.numB = true := by unfold M.Cmd.numB; simp; omega
  obtain ⟨B1, hB1⟩ : ∃ B1, M.smallB c.mv = B1 := ⟨_, rfl⟩
  obtain ⟨B2, hB2⟩ : ∃ B2, M.smallB c.aim = B2 := ⟨_, rfl⟩
  have E : Hid ((B1 && B2) = B) := by unfold Hid; rw [← hB.out]; unfold M.Cmd.fitsB; rw [hn, hB1, hB2]; rfl
  have H1 : Hid (M.smallB c.mv = B1) := hB1
  have H2 : Hid (M.smallB c.aim = B2) := hB2
  clear hB1 hB2 hn hB
  go_enter Tryz.func93, Tryz.ntmps93
  go_wp2_with fail
  refine (holds_small c.mv _ B1 H1).mono ?_
  rintro e w1 ⟨rfl, hb⟩
  have q0 := (show Blk _ w.heap.size #[.int .i64 c.seq, .bool c.fire, .int .i64 c.mv.x, .int .i64 c.mv.y, .int .i64 c.mv.z, .int .i64 c.aim.x, .int .i64 c.aim.y, .int .i64 c.aim.z, .int .i64 c.time] 50 from (by repeat' (first | (with_reducible assumption) | (refine Blk.new ?_; (first | (simp; done) | rfl); done) | (with_reducible refine Blk.alloc ?_) | (with_reducible refine Blk.drew ?_) | (with_reducible refine Blk.drewN ?_)))).after hb
  have q1 := (show Blk _ (w.heap.size + 1) #[.int .i64 (-128), .int .i64 (-128), .int .i64 (-128), .int .i64 127, .int .i64 127, .int .i64 127] 108 from (by repeat' (first | (with_reducible assumption) | (refine Blk.new ?_; (first | (simp; done) | rfl); done) | (with_reducible refine Blk.alloc ?_) | (with_reducible refine Blk.drew ?_) | (with_reducible refine Blk.drewN ?_)))).after hb
  have hb1 : Below w.heap.size w w1 := bl (by go_grown) hb
  clear hb
  obtain ⟨a0, a1, a2, a3, a4, a5, a6, a7, a8, af, az⟩ := q0.nine
  obtain ⟨b0, b1, b2, b3, b4, b5, bf, bz⟩ := q1.six
  cases B1
  · have E2 : Hid (false = B) := E.out
    go_wp2
    go_ret
    exact ⟨ret_bool E2.out, by go_grown⟩
  · have E2 : Hid (B2 = B) := E.out
    go_wp2_with fail
    refine (holds_small c.aim _ B2 H2).mono ?_
    rintro e w2 ⟨rfl, hb⟩
    have hb2 : Below w.heap.size w w2 := bl (by go_grown) hb
    clear hb
    go_wp2
    go_ret
    exact ⟨ret_bool E2.out, by go_grown⟩

/-- What Encode answers. -/
def M.encS (c : M.Cmd) : ByteArray := if c.fitsB then c.pack else ⟨#[]⟩
def M.encE (c : M.Cmd) : Int := if c.fitsB then 0 else 5

set_option maxHeartbeats 2000000 in
theorem pEncode_any (c : M.Cmd) (w : World) : Calls Tryz.prog 75 #[.agg #[.int .i64 c.seq, .bool c.fire, .int .i64 c.mv.x, .int .i64 c.mv.y, .int .i64 c.mv.z, .int .i64 c.aim.x, .int .i64 c.aim.y, .int .i64 c.aim.z, .int .i64 c.time]] w fun e w' => e = .returned (.tuple #[.string (M.encS c), .int .i64 (M.encE c)]) ∧ Below w.heap.size w w' := by
  obtain ⟨B, hB⟩ : ∃ B, c.fitsB = B := ⟨_, rfl⟩
  have HB : Hid (c.fitsB = B) := hB
  cases B
  · have e1 : M.encS c = ⟨#[]⟩ := by unfold M.encS; rw [hB]; rfl
    have e2 : M.encE c = 5 := by unfold M.encE; rw [hB]; rfl
    rw [e1, e2]
    clear hB e1 e2
    go_enter Tryz.func75, Tryz.ntmps75
    go_wp2_with fail
    refine (fits_any c _ false HB).mono ?_
    rintro e w1 ⟨rfl, hb⟩
    have hb1 : Below w.heap.size w w1 := bl (by go_grown) hb
    clear hb
    go_wp2
    go_ret2
    exact ⟨rfl, by go_grown⟩
  · have e1 : M.encS c = c.pack := by unfold M.encS; rw [hB]; rfl
    have e2 : M.encE c = 0 := by unfold M.encE; rw [hB]; rfl
    rw [e1, e2]
    have HF : Hid (M.Fits c) := (M.fitsB_iff c).1 hB
    clear hB e1 e2
    go_enter Tryz.func75, Tryz.ntmps75
    go_wp2_with fail
    refine (fits_any c _ true HB).mono ?_
    rintro e w1 ⟨rfl, hb⟩
    have q0 := (show Blk _ w.heap.size #[.int .i64 c.seq, .bool c.fire, .int .i64 c.mv.x, .int .i64 c.mv.y, .int .i64 c.mv.z, .int .i64 c.aim.x, .int .i64 c.aim.y, .int .i64 c.aim.z, .int .i64 c.time] 50 from (by repeat' (first | (with_reducible assumption) | (refine Blk.new ?_; (first | (simp; done) | rfl); done) | (with_reducible refine Blk.alloc ?_) | (with_reducible refine Blk.drew ?_) | (with_reducible refine Blk.drewN ?_)))).after hb
    have hb1 : Below w.heap.size w w1 := bl (by go_grown) hb
    clear hb
    obtain ⟨a0, a1, a2, a3, a4, a5, a6, a7, a8, af, az⟩ := q0.nine
    go_wp2_with fail
    refine (write_any c _ HF.out).mono ?_
    rintro e w2 ⟨rfl, hb⟩
    have hb2 : Below w.heap.size w w2 := bl (by go_grown) hb
    clear hb
    go_wp2
    go_ret2
    exact ⟨rfl, by go_grown⟩


end Go.Proofs.YtonmihojfcjmjaaGreat

/- Contracts of packets: read. -/
namespace Go.Proofs.YtonmihojfcjmjaaGreat
open Go.RowKit
set_option linter.unusedVariables false
attribute [local go_sem] cell_set_off cell_set_blk

theorem psigned_b (b : UInt8) (w : World) : Calls Tryz.prog 92 #[.int .u8 (b.toNat : Int)] w fun e w' => e = .returned (.int .i64 (M.sg (b.toNat : Int))) ∧ w' = w :=
  psigned_any _ w (by omega) (by have := b.toNat_lt; omega)

theorem still_tail {P : Program} {id : Nat} {Q : Exit → Act → World → Prop} {a : Act} {w : World} {l : List Oper} (n : Nat) (hm : P.follows .mixedOrders = true) (hB : Region.lexTailB .any l.toArray n = true)
    (h : wpStill P l.toArray w.drew (fun a' => wpList P l.toArray Q (l.drop n) a' w.drew) (l.take n) a) : (Code.region id l.toArray true).wp P Q a w := wp_region_still_tail n hm hB h

theorem Blk.set9 {W : World} {b : Nat} {x0 x1 x2 x3 x4 x5 x6 x7 x8 : Value} {t : TypeId} (h : Blk W b #[x0, x1, x2, x3, x4, x5, x6, x7, x8] t) (y0 y1 y2 y3 y4 y5 y6 y7 y8 : Value) : Blk (((((((((W.setCell ⟨b, 0, none⟩ y0).setCell ⟨b, 1, none⟩ y1).setCell ⟨b, 2, none⟩ y2).setCell ⟨b, 3, none⟩ y3).setCell ⟨b, 4, none⟩ y4).setCell ⟨b, 5, none⟩ y5).setCell ⟨b, 6, none⟩ y6).setCell ⟨b, 7, none⟩ y7).setCell ⟨b, 8, none⟩ y8).drew b #[y0, y1, y2, y3, y4, y5, y6, y7, y8] t := by
  have e := (((((((((h.set 0 y0).set 1 y1).set 2 y2).set 3 y3).set 4 y4).set 5 y5).set 6 y6).set 7 y7).set 8 y8).drew
  simp only [List.setIfInBounds_toArray, List.set_cons_succ, List.set_cons_zero] at e
  exact e

theorem rdSeq {a b : Nat} (ha : a < 256) (hb : b < 256) : wrap64 (wrap64 (a : Int) + wrap64 (wrap64 (b : Int) * 256)) = (a : Int) + 256 * (b : Int) := by
  rw [IntWalk.wrap64_in (a : Int) (by omega), IntWalk.wrap64_in (b : Int) (by omega), IntWalk.wrap64_in ((b : Int) * 256) (by omega), IntWalk.wrap64_in _ (by omega)]
  omega
theorem rdTime {a b c : Nat} (ha : a < 256) (hb : b < 256) (hc : c < 256) : wrap64 (wrap64 (wrap64 (a : Int) + wrap64 (wrap64 (b : Int) * 256)) + wrap64 (wrap64 (c : Int) * 65536)) = (a : Int) + 256 * (b : Int) + 65536 * (c : Int) := by
  rw [rdSeq ha hb, IntWalk.wrap64_in (c : Int) (by omega), IntWalk.wrap64_in ((c : Int) * 65536) (by omega), IntWalk.wrap64_in _ (by omega)]
  omega

set_option maxRecDepth 100000 in
set_option maxHeartbeats 4000000 in
theorem pread_any (p : ByteArray) (w : World) (c : M.Cmd) (hp : p.size = 14) (hc : Hid (M.decC p = c)) :
    Calls Tryz.prog 74 #[.string p] w fun e w' => e = .returned (.agg #[.int .i64 c.seq, .bool c.fire, .int .i64 c.mv.x, .int .i64 c.mv.y, .int .i64 c.mv.z, .int .i64 c.aim.x, .int .i64 c.aim.y, .int .i64 c.aim.z, .int .i64 c.time]) ∧ Below w.heap.size w w' := by
  have hcs := hc.out
  unfold M.decC M.rd at hcs
  rw [M.byteAt_lt (s := p) (i := 1) (by omega), M.byteAt_lt (s := p) (i := 2) (by omega), M.byteAt_lt (s := p) (i := 3) (by omega), M.byteAt_lt (s := p) (i := 4) (by omega), M.byteAt_lt (s := p) (i := 5) (by omega), M.byteAt_lt (s := p) (i := 6) (by omega), M.byteAt_lt (s := p) (i := 7) (by omega), M.byteAt_lt (s := p) (i := 8) (by omega), M.byteAt_lt (s := p) (i := 9) (by omega), M.byteAt_lt (s := p) (i := 10) (by omega), M.byteAt_lt (s := p) (i := 11) (by omega), M.byteAt_lt (s := p) (i := 12) (by omega)] at hcs
  have E0 : Hid (wrap64 (wrap64 (p[1].toNat : Int) + wrap64 (wrap64 (p[2].toNat : Int) * 256)) = c.seq) := by unfold Hid; rw [← hcs]; exact rdSeq p[1].toNat_lt p[2].toNat_lt
  have E1 : Hid (((p[3].toNat : Int) == 1) = c.fire) := by unfold Hid; rw [← hcs]; rfl
  have E2 : Hid (M.sg (p[4].toNat : Int) = c.mv.x) := by unfold Hid; rw [← hcs]
  have E3 : Hid (M.sg (p[5].toNat : Int) = c.mv.y) := by unfold Hid; rw [← hcs]
  have E4 : Hid (M.sg (p[6].toNat : Int) = c.mv.z) := by unfold Hid; rw [← hcs]
  have E5 : Hid (M.sg (p[7].toNat : Int) = c.aim.x) := by unfold Hid; rw [← hcs]
  have E6 : Hid (M.sg (p[8].toNat : Int) = c.aim.y) := by unfold Hid; rw [← hcs]
  have E7 : Hid (M.sg (p[9].toNat : Int) = c.aim.z) := by unfold Hid; rw [← hcs]
  have E8 : Hid (wrap64 (wrap64 (wrap64 (p[10].toNat : Int) + wrap64 (wrap64 (p[11].toNat : Int) * 256)) + wrap64 (wrap64 (p[12].toNat : Int) * 65536)) = c.time) := by unfold Hid; rw [← hcs]; exact rdTime p[10].toNat_lt p[11].toNat_lt p[12].toNat_lt
  clear hcs hc
  go_enter Tryz.func74, Tryz.ntmps74
  go_wp2_with fail
  have q0 : Blk (w.alloc (.cells #[.int .i64 0, .bool false, .int .i64 0, .int .i64 0, .int .i64 0, .int .i64 0, .int .i64 0, .int .i64 0, .int .i64 0] 50)) w.heap.size _ _ := Blk.new rfl
  have hB : Below w.heap.size w (w.alloc (.cells #[.int .i64 0, .bool false, .int .i64 0, .int .i64 0, .int .i64 0, .int .i64 0, .int .i64 0, .int .i64 0, .int .i64 0] 50)) := by go_grown
  generalize w.alloc (.cells #[.int .i64 0, .bool false, .int .i64 0, .int .i64 0, .int .i64 0, .int .i64 0, .int .i64 0, .int .i64 0, .int .i64 0] 50) = W at q0 hB ⊢
  refine still_tail 45 (by kernel_rfl) (by kernel_rfl) ?_
  simp only [List.take_succ_cons, List.take_zero, List.drop_succ_cons, List.drop_zero]
  repeat (first | still_step | still_call (psigned_b _ _))
  refine wpStill_nil ?_
  obtain ⟨a0, a1, a2, a3, a4, a5, a6, a7, a8, af, az⟩ := q0.nine
  go_wp2
  rw [E0.out, E1.out, E2.out, E3.out, E4.out, E5.out, E6.out, E7.out, E8.out]
  have q9 : Blk (((((((((W.setCell ⟨w.heap.size, 0, none⟩ (.int .i64 c.seq)).setCell ⟨w.heap.size, 1, none⟩ (.bool c.fire)).setCell ⟨w.heap.size, 2, none⟩ (.int .i64 c.mv.x)).setCell ⟨w.heap.size, 3, none⟩ (.int .i64 c.mv.y)).setCell ⟨w.heap.size, 4, none⟩ (.int .i64 c.mv.z)).setCell ⟨w.heap.size, 5, none⟩ (.int .i64 c.aim.x)).setCell ⟨w.heap.size, 6, none⟩ (.int .i64 c.aim.y)).setCell ⟨w.heap.size, 7, none⟩ (.int .i64 c.aim.z)).setCell ⟨w.heap.size, 8, none⟩ (.int .i64 c.time)).drew w.heap.size #[.int .i64 c.seq, .bool c.fire, .int .i64 c.mv.x, .int .i64 c.mv.y, .int .i64 c.mv.z, .int .i64 c.aim.x, .int .i64 c.aim.y, .int .i64 c.aim.z, .int .i64 c.time] 50 := q0.set9 (.int .i64 c.seq) (.bool c.fire) (.int .i64 c.mv.x) (.int .i64 c.mv.y) (.int .i64 c.mv.z) (.int .i64 c.aim.x) (.int .i64 c.aim.y) (.int .i64 c.aim.z) (.int .i64 c.time)
  have B9 : Below w.heap.size w (((((((((W.setCell ⟨w.heap.size, 0, none⟩ (.int .i64 c.seq)).setCell ⟨w.heap.size, 1, none⟩ (.bool c.fire)).setCell ⟨w.heap.size, 2, none⟩ (.int .i64 c.mv.x)).setCell ⟨w.heap.size, 3, none⟩ (.int .i64 c.mv.y)).setCell ⟨w.heap.size, 4, none⟩ (.int .i64 c.mv.z)).setCell ⟨w.heap.size, 5, none⟩ (.int .i64 c.aim.x)).setCell ⟨w.heap.size, 6, none⟩ (.int .i64 c.aim.y)).setCell ⟨w.heap.size, 7, none⟩ (.int .i64 c.aim.z)).setCell ⟨w.heap.size, 8, none⟩ (.int .i64 c.time)).drew := by go_grown
  generalize (((((((((W.setCell ⟨w.heap.size, 0, none⟩ (.int .i64 c.seq)).setCell ⟨w.heap.size, 1, none⟩ (.bool c.fire)).setCell ⟨w.heap.size, 2, none⟩ (.int .i64 c.mv.x)).setCell ⟨w.heap.size, 3, none⟩ (.int .i64 c.mv.y)).setCell ⟨w.heap.size, 4, none⟩ (.int .i64 c.mv.z)).setCell ⟨w.heap.size, 5, none⟩ (.int .i64 c.aim.x)).setCell ⟨w.heap.size, 6, none⟩ (.int .i64 c.aim.y)).setCell ⟨w.heap.size, 7, none⟩ (.int .i64 c.aim.z)).setCell ⟨w.heap.size, 8, none⟩ (.int .i64 c.time)).drew = W9 at q9 B9 ⊢
  clear a0 a1 a2 a3 a4 a5 a6 a7 a8 af az q0 hB
  obtain ⟨a0, a1, a2, a3, a4, a5, a6, a7, a8, af, az⟩ := q9.nine
  exact bodyPost_ret (v := .agg #[.int .i64 c.seq, .bool c.fire, .int .i64 c.mv.x, .int .i64 c.mv.y, .int .i64 c.mv.z, .int .i64 c.aim.x, .int .i64 c.aim.y, .int .i64 c.aim.z, .int .i64 c.time]) (by simp [results, Tryz.results74, go_sem, a0, a1, a2, a3, a4, a5, a6, a7, a8]) rfl ⟨rfl, B9⟩
end Go.Proofs.YtonmihojfcjmjaaGreat

/- Contracts of packets: Decode. -/
namespace Go.Proofs.YtonmihojfcjmjaaGreat
open Go.RowKit
set_option linter.unusedVariables false
attribute [local go_sem] cell_set_off cell_set_blk

/-- No command. -/
def M.Cmd.zero : M.Cmd := ⟨0, false, ⟨0, 0, 0⟩, ⟨0, 0, 0⟩, 0⟩
/-- Is it a packet? -/
def M.okB (p : ByteArray) : Bool := decide (p.size = 14) && (M.decC p).fitsB && decide ((M.decC p).pack = p)
def M.decR (p : ByteArray) : M.Cmd := if M.okB p then M.decC p else M.Cmd.zero
def M.decE (p : ByteArray) : Int := if 14 < p.size then 2 else if M.okB p then 0 else 8

theorem M.okB_size {p : ByteArray} (h : p.size ≠ 14) : M.okB p = false := by unfold M.okB; simp [h]

theorem M.toList_inj {a b : ByteArray} (h : a.toList = b.toList) : a = b := by
  have e := congrArg List.toArray h
  have k : ∀ x : ByteArray, x.toList.toArray = x.data := fun x => by simp [ByteArray.toList_eq]
  rw [k, k] at e
  cases a; cases b
  simpa using e

set_option maxHeartbeats 2000000 in
theorem pDecode_any (p : ByteArray) (w : World) (c : M.Cmd) (e : Int) (hs : p.size ≤ maxLen) (hc : Hid (M.decR p = c)) (he : Hid (M.decE p = e)) :
    Calls Tryz.prog 57 #[.string p] w fun r w' => r = .returned (.tuple #[.agg #[.int .i64 c.seq, .bool c.fire, .int .i64 c.mv.x, .int .i64 c.mv.y, .int .i64 c.mv.z, .int .i64 c.aim.x, .int .i64 c.aim.y, .int .i64 c.aim.z, .int .i64 c.time], .int .i64 e]) ∧ Below w.heap.size w w' := by
  unfold maxLen at hs
  by_cases h1 : 14 < p.size
  · obtain rfl : M.Cmd.zero = c := by rw [← hc.out]; unfold M.decR; rw [M.okB_size (by omega)]; rfl
    obtain rfl : (2 : Int) = e := by rw [← he.out]; unfold M.decE; rw [if_pos h1]
    clear hc he
    go_enter Tryz.func57, Tryz.ntmps57
    go_wp2
    exact bodyPost_ret (v := .tuple #[.agg #[.int .i64 0, .bool false, .int .i64 0, .int .i64 0, .int .i64 0, .int .i64 0, .int .i64 0, .int .i64 0, .int .i64 0], .int .i64 2]) (by simp [results, Tryz.results57, go_sem]) rfl ⟨rfl, by go_grown⟩
  by_cases h2 : p.size < 14
  · obtain rfl : M.Cmd.zero = c := by rw [← hc.out]; unfold M.decR; rw [M.okB_size (by omega)]; rfl
    obtain rfl : (8 : Int) = e := by rw [← he.out]; unfold M.decE; rw [if_neg h1, M.okB_size (by omega)]; rfl
    clear hc he
    go_enter Tryz.func57, Tryz.ntmps57
    go_wp2
    exact bodyPost_ret (v := .tuple #[.agg #[.int .i64 0, .bool false, .int .i64 0, .int .i64 0, .int .i64 0, .int .i64 0, .int .i64 0, .int .i64 0, .int .i64 0], .int .i64 8]) (by simp [results, Tryz.results57, go_sem]) rfl ⟨rfl, by go_grown⟩
  have hp : p.size = 14 := by omega
  obtain ⟨d, hd⟩ : ∃ d, M.decC p = d := ⟨_, rfl⟩
  have HD : Hid (M.decC p = d) := hd
  have HP : Hid (p.size = 14) := hp
  by_cases hf : d.fitsB = true
  · have hE : M.encE d = 0 := by unfold M.encE; rw [if_pos hf]
    have hS : M.encS d = d.pack := by unfold M.encS; rw [if_pos hf]
    have HS : Hid (M.encS d = d.pack) := hS
    have HE : Hid (M.encE d = 0) := hE
    by_cases hk : d.pack = p
    · have ho : M.okB p = true := by unfold M.okB; rw [hp, hd, hf, hk]; simp
      obtain rfl : d = c := by rw [← hc.out, ← hd]; unfold M.decR; rw [ho]; rfl
      obtain rfl : (0 : Int) = e := by rw [← he.out]; unfold M.decE; rw [if_neg h1, ho]; rfl
      have hkk : (d.pack.toList == p.toList) = true := by rw [hk]; simp
      clear hc he hS hE hk hf hd ho
      go_enter Tryz.func57, Tryz.ntmps57
      go_wp2_with fail
      refine (pread_any p _ d HP.out HD).mono ?_
      rintro r w1 ⟨rfl, hb⟩
      have q0 := (show Blk _ w.heap.size #[.int .i64 0, .bool false, .int .i64 0, .int .i64 0, .int .i64 0, .int .i64 0, .int .i64 0, .int .i64 0, .int .i64 0] 50 from (by repeat' (first | (with_reducible assumption) | (refine Blk.new ?_; (first | (simp; done) | rfl); done) | (with_reducible refine Blk.alloc ?_) | (with_reducible refine Blk.drew ?_) | (with_reducible refine Blk.drewN ?_)))).after hb
      have hb1 : Below w.heap.size w w1 := bl (by go_grown) hb
      clear hb
      obtain ⟨a0, a1, a2, a3, a4, a5, a6, a7, a8, af, az⟩ := q0.nine
      go_wp2_with fail
      refine (pEncode_any d _).mono ?_
      rintro r w2 ⟨rfl, hb⟩
      have q1 := (show Blk (w1.alloc _) w1.heap.size #[.int .i64 d.seq, .bool d.fire, .int .i64 d.mv.x, .int .i64 d.mv.y, .int .i64 d.mv.z, .int .i64 d.aim.x, .int .i64 d.aim.y, .int .i64 d.aim.z, .int .i64 d.time] 50 from Blk.new rfl).after hb
      replace q0 := q0.alloc.after hb
      have hb2 : Below w.heap.size w w2 := bl (by go_grown) hb
      have hne : w.heap.size < w1.heap.size := az
      clear hb a0 a1 a2 a3 a4 a5 a6 a7 a8 af az
      rw [HS.out, HE.out]
      obtain ⟨a0, a1, a2, a3, a4, a5, a6, a7, a8, af, az⟩ := q0.nine
      obtain ⟨b0, b1, b2, b3, b4, b5, b6, b7, b8, bf, bz⟩ := q1.nine
      go_wp2
      exact bodyPost_ret (v := .tuple #[.agg #[.int .i64 d.seq, .bool d.fire, .int .i64 d.mv.x, .int .i64 d.mv.y, .int .i64 d.mv.z, .int .i64 d.aim.x, .int .i64 d.aim.y, .int .i64 d.aim.z, .int .i64 d.time], .int .i64 0]) (by simp [results, Tryz.results57, go_sem, a0, a1, a2, a3, a4, a5, a6, a7, a8]) rfl ⟨rfl, by go_grown⟩
    · have ho : M.okB p = false := by unfold M.okB; rw [hp, hd, hf]; simp [hk]
      obtain rfl : M.Cmd.zero = c := by rw [← hc.out]; unfold M.decR; rw [ho]; rfl
      obtain rfl : (8 : Int) = e := by rw [← he.out]; unfold M.decE; rw [if_neg h1, ho]; rfl
      have hkk : (d.pack.toList == p.toList) = false := by simp; exact fun x => hk (M.toList_inj x)
      clear hc he hS hE hk hf hd ho
      go_enter Tryz.func57, Tryz.ntmps57
      go_wp2_with fail
      refine (pread_any p _ d HP.out HD).mono ?_
      rintro r w1 ⟨rfl, hb⟩
      have q0 := (show Blk _ w.heap.size #[.int .i64 0, .bool false, .int .i64 0, .int .i64 0, .int .i64 0, .int .i64 0, .int .i64 0, .int .i64 0, .int .i64 0] 50 from (by repeat' (first | (with_reducible assumption) | (refine Blk.new ?_; (first | (simp; done) | rfl); done) | (with_reducible refine Blk.alloc ?_) | (with_reducible refine Blk.drew ?_) | (with_reducible refine Blk.drewN ?_)))).after hb
      have hb1 : Below w.heap.size w w1 := bl (by go_grown) hb
      clear hb
      obtain ⟨a0, a1, a2, a3, a4, a5, a6, a7, a8, af, az⟩ := q0.nine
      go_wp2_with fail
      refine (pEncode_any d _).mono ?_
      rintro r w2 ⟨rfl, hb⟩
      have q1 := (show Blk (w1.alloc _) w1.heap.size #[.int .i64 d.seq, .bool d.fire, .int .i64 d.mv.x, .int .i64 d.mv.y, .int .i64 d.mv.z, .int .i64 d.aim.x, .int .i64 d.aim.y, .int .i64 d.aim.z, .int .i64 d.time] 50 from Blk.new rfl).after hb
      replace q0 := q0.alloc.after hb
      have hb2 : Below w.heap.size w w2 := bl (by go_grown) hb
      have hne : w.heap.size < w1.heap.size := az
      clear hb a0 a1 a2 a3 a4 a5 a6 a7 a8 af az
      rw [HS.out, HE.out]
      obtain ⟨a0, a1, a2, a3, a4, a5, a6, a7, a8, af, az⟩ := q0.nine
      obtain ⟨b0, b1, b2, b3, b4, b5, b6, b7, b8, bf, bz⟩ := q1.nine
      go_wp2
      exact bodyPost_ret (v := .tuple #[.agg #[.int .i64 0, .bool false, .int .i64 0, .int .i64 0, .int .i64 0, .int .i64 0, .int .i64 0, .int .i64 0, .int .i64 0], .int .i64 8]) (by simp [results, Tryz.results57, go_sem, a0, a1, a2, a3, a4, a5, a6, a7, a8]) rfl ⟨rfl, by go_grown⟩
  · have ho : M.okB p = false := by unfold M.okB; rw [hd]; simp [hf]
    have HE : Hid (M.encE d = 5) := by unfold Hid M.encE; rw [if_neg hf]
    obtain ⟨S, hS⟩ : ∃ S, M.encS d = S := ⟨_, rfl⟩
    have HS : Hid (M.encS d = S) := hS
    obtain rfl : M.Cmd.zero = c := by rw [← hc.out]; unfold M.decR; rw [ho]; rfl
    obtain rfl : (8 : Int) = e := by rw [← he.out]; unfold M.decE; rw [if_neg h1, ho]; rfl
    clear hc he hS hf hd ho
    go_enter Tryz.func57, Tryz.ntmps57
    go_wp2_with fail
    refine (pread_any p _ d HP.out HD).mono ?_
    rintro r w1 ⟨rfl, hb⟩
    have q0 := (show Blk _ w.heap.size #[.int .i64 0, .bool false, .int .i64 0, .int .i64 0, .int .i64 0, .int .i64 0, .int .i64 0, .int .i64 0, .int .i64 0] 50 from (by repeat' (first | (with_reducible assumption) | (refine Blk.new ?_; (first | (simp; done) | rfl); done) | (with_reducible refine Blk.alloc ?_) | (with_reducible refine Blk.drew ?_) | (with_reducible refine Blk.drewN ?_)))).after hb
    have hb1 : Below w.heap.size w w1 := bl (by go_grown) hb
    clear hb
    obtain ⟨a0, a1, a2, a3, a4, a5, a6, a7, a8, af, az⟩ := q0.nine
    go_wp2_with fail
    refine (pEncode_any d _).mono ?_
    rintro r w2 ⟨rfl, hb⟩
    have q1 := (show Blk (w1.alloc _) w1.heap.size #[.int .i64 d.seq, .bool d.fire, .int .i64 d.mv.x, .int .i64 d.mv.y, .int .i64 d.mv.z, .int .i64 d.aim.x, .int .i64 d.aim.y, .int .i64 d.aim.z, .int .i64 d.time] 50 from Blk.new rfl).after hb
    replace q0 := q0.alloc.after hb
    have hb2 : Below w.heap.size w w2 := bl (by go_grown) hb
    have hne : w.heap.size < w1.heap.size := az
    clear hb a0 a1 a2 a3 a4 a5 a6 a7 a8 af az
    rw [HS.out, HE.out]
    obtain ⟨a0, a1, a2, a3, a4, a5, a6, a7, a8, af, az⟩ := q0.nine
    obtain ⟨b0, b1, b2, b3, b4, b5, b6, b7, b8, bf, bz⟩ := q1.nine
    go_wp2
    exact bodyPost_ret (v := .tuple #[.agg #[.int .i64 0, .bool false, .int .i64 0, .int .i64 0, .int .i64 0, .int .i64 0, .int .i64 0, .int .i64 0, .int .i64 0], .int .i64 8]) (by simp [results, Tryz.results57, go_sem, a0, a1, a2, a3, a4, a5, a6, a7, a8]) rfl ⟨rfl, by go_grown⟩


end Go.Proofs.YtonmihojfcjmjaaGreat
