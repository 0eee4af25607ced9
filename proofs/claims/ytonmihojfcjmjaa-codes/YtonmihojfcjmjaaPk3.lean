/- Contracts of packets: fits, Encode. -/
import Derived.Test.YtonmihojfcjmjaaPk2
import Derived.Test.YtonmihojfcjmjaaBox2
namespace Go.Proofs.Ytonmihojfcjmjaa
open Go.RowKit
set_option linter.unusedVariables false
attribute [local go_sem] cell_set_off cell_set_blk

theorem Blk.nine {W : World} {b : Nat} {x0 x1 x2 x3 x4 x5 x6 x7 x8 : Value} {t : TypeId} (h : Blk W b #[x0, x1, x2, x3, x4, x5, x6, x7, x8] t) :
    W.cell? ⟨b, 0, none⟩ = some x0 ∧ W.cell? ⟨b, 1, none⟩ = some x1 ∧ W.cell? ⟨b, 2, none⟩ = some x2 ∧ W.cell? ⟨b, 3, none⟩ = some x3 ∧ W.cell? ⟨b, 4, none⟩ = some x4 ∧ W.cell? ⟨b, 5, none⟩ = some x5 ∧ W.cell? ⟨b, 6, none⟩ = some x6 ∧ W.cell? ⟨b, 7, none⟩ = some x7 ∧ W.cell? ⟨b, 8, none⟩ = some x8 ∧
    (∀ i, W.frozen? ⟨b, i, none⟩ = false) ∧ b < W.heap.size :=
  ⟨h.cell 0, h.cell 1, h.cell 2, h.cell 3, h.cell 4, h.cell 5, h.cell 6, h.cell 7, h.cell 8, h.frozen, h.lt⟩

theorem holds_small (p : M.V3) (w : World) (B : Bool) (hB : Hid (M.smallB p = B)) :
    Calls Try.prog 39 #[.agg #[.int .i64 (-128), .int .i64 (-128), .int .i64 (-128), .int .i64 127, .int .i64 127, .int .i64 127], .agg #[.int .i64 p.x, .int .i64 p.y, .int .i64 p.z]] w fun e w' => e = .returned (.bool B) ∧ Below w.heap.size w w' := by
  rw [← hB.out]
  exact holds_any ⟨-128, -128, -128⟩ ⟨127, 127, 127⟩ p w

theorem M.numB_no {c : M.Cmd} (h : c.seq < 1 ∨ 65535 < c.seq ∨ c.time < 0 ∨ 16777215 < c.time) : c.fitsB = false := by
  cases e : c.fitsB
  · rfl
  · obtain ⟨a1, a2, a3, a4, _, _⟩ := (M.fitsB_iff c).1 e
    omega

set_option maxHeartbeats 2000000 in
theorem fits_any (c : M.Cmd) (w : World) (B : Bool) (hB : Hid (c.fitsB = B)) : Calls Try.prog 73 #[.agg #[.int .i64 c.seq, .bool c.fire, .int .i64 c.mv.x, .int .i64 c.mv.y, .int .i64 c.mv.z, .int .i64 c.aim.x, .int .i64 c.aim.y, .int .i64 c.aim.z, .int .i64 c.time]] w fun e w' => e = .returned (.bool B) ∧ Below w.heap.size w w' := by
  by_cases h1 : c.seq < 1
  · have E : Hid (false = B) := by unfold Hid; rw [← hB.out, M.numB_no (.inl h1)]
    go_enter Try.func73, Try.ntmps73
    go_wp2
    go_ret
    exact ⟨ret_bool E.out, by go_grown⟩
  by_cases h2 : 65535 < c.seq
  · have E : Hid (false = B) := by unfold Hid; rw [← hB.out, M.numB_no (.inr (.inl h2))]
    go_enter Try.func73, Try.ntmps73
    go_wp2
    go_ret
    exact ⟨ret_bool E.out, by go_grown⟩
  by_cases h3 : c.time < 0
  · have E : Hid (false = B) := by unfold Hid; rw [← hB.out, M.numB_no (.inr (.inr (.inl h3)))]
    go_enter Try.func73, Try.ntmps73
    go_wp2
    go_ret
    exact ⟨ret_bool E.out, by go_grown⟩
  by_cases h4 : 16777215 < c.time
  · have E : Hid (false = B) := by unfold Hid; rw [← hB.out, M.numB_no (.inr (.inr (.inr h4)))]
    go_enter Try.func73, Try.ntmps73
    go_wp2
    go_ret
    exact ⟨ret_bool E.out, by go_grown⟩
  have hn : c.numB = true := by unfold M.Cmd.numB; simp; omega
  obtain ⟨B1, hB1⟩ : ∃ B1, M.smallB c.mv = B1 := ⟨_, rfl⟩
  obtain ⟨B2, hB2⟩ : ∃ B2, M.smallB c.aim = B2 := ⟨_, rfl⟩
  have E : Hid ((B1 && B2) = B) := by unfold Hid; rw [← hB.out]; unfold M.Cmd.fitsB; rw [hn, hB1, hB2]; rfl
  have H1 : Hid (M.smallB c.mv = B1) := hB1
  have H2 : Hid (M.smallB c.aim = B2) := hB2
  clear hB1 hB2 hn hB
  go_enter Try.func73, Try.ntmps73
  go_wp2_with fail
  refine (holds_small c.mv _ B1 H1).mono ?_
  rintro e w1 ⟨rfl, hb⟩
  have q0 := (show Blk _ w.heap.size #[.int .i64 c.seq, .bool c.fire, .int .i64 c.mv.x, .int .i64 c.mv.y, .int .i64 c.mv.z, .int .i64 c.aim.x, .int .i64 c.aim.y, .int .i64 c.aim.z, .int .i64 c.time] 50 from (by repeat' (first | (with_reducible assumption) | (refine Blk.new ?_; (first | (simp; done) | rfl); done) | (with_reducible refine Blk.alloc ?_) | (with_reducible refine Blk.drew ?_) | (with_reducible refine Blk.drewN ?_)))).after hb
  have q1 := (show Blk _ (w.heap.size + 1) #[.int .i64 (-128), .int .i64 (-128), .int .i64 (-128), .int .i64 127, .int .i64 127, .int .i64 127] 76 from (by repeat' (first | (with_reducible assumption) | (refine Blk.new ?_; (first | (simp; done) | rfl); done) | (with_reducible refine Blk.alloc ?_) | (with_reducible refine Blk.drew ?_) | (with_reducible refine Blk.drewN ?_)))).after hb
  have hb1 : Below w.heap.size w w1 := bl (by go_grown) hb
  clear hb
  obtain ⟨a0, a1, a2, a3, a4, a5, a6, a7, a8, af, az⟩ := q0.nine
  obtain ⟨b0, b1, b2, b3, b4, b5, bf, bz⟩ := q1.six
  cases B1
  · have E2 : Hid (false = B) := E.out
    go_wp2
    go_ret
    exact ⟨ret_bool E2.out, by go_grown⟩
  · have E2 : Hid (B2 = B) := E.out
    go_wp2_with fail
    refine (holds_small c.aim _ B2 H2).mono ?_
    rintro e w2 ⟨rfl, hb⟩
    have hb2 : Below w.heap.size w w2 := bl (by go_grown) hb
    clear hb
    go_wp2
    go_ret
    exact ⟨ret_bool E2.out, by go_grown⟩

/-- What Encode answers. -/
def M.encS (c : M.Cmd) : ByteArray := if c.fitsB then c.pack else ⟨#[]⟩
def M.encE (c : M.Cmd) : Int := if c.fitsB then 0 else 5

set_option maxHeartbeats 2000000 in
theorem pEncode_any (c : M.Cmd) (w : World) : Calls Try.prog 52 #[.agg #[.int .i64 c.seq, .bool c.fire, .int .i64 c.mv.x, .int .i64 c.mv.y, .int .i64 c.mv.z, .int .i64 c.aim.x, .int .i64 c.aim.y, .int .i64 c.aim.z, .int .i64 c.time]] w fun e w' => e = .returned (.tuple #[.string (M.encS c), .int .i64 (M.encE c)]) ∧ Below w.heap.size w w' := by
  obtain ⟨B, hB⟩ : ∃ B, c.fitsB = B := ⟨_, rfl⟩
  have HB : Hid (c.fitsB = B) := hB
  cases B
  · have e1 : M.encS c = ⟨#[]⟩ := by unfold M.encS; rw [hB]; rfl
    have e2 : M.encE c = 5 := by unfold M.encE; rw [hB]; rfl
    rw [e1, e2]
    clear hB e1 e2
    go_enter Try.func52, Try.ntmps52
    go_wp2_with fail
    refine (fits_any c _ false HB).mono ?_
    rintro e w1 ⟨rfl, hb⟩
    have hb1 : Below w.heap.size w w1 := bl (by go_grown) hb
    clear hb
    go_wp2
    go_ret2
    exact ⟨rfl, by go_grown⟩
  · have e1 : M.encS c = c.pack := by unfold M.encS; rw [hB]; rfl
    have e2 : M.encE c = 0 := by unfold M.encE; rw [hB]; rfl
    rw [e1, e2]
    have HF : Hid (M.Fits c) := (M.fitsB_iff c).1 hB
    clear hB e1 e2
    go_enter Try.func52, Try.ntmps52
    go_wp2_with fail
    refine (fits_any c _ true HB).mono ?_
    rintro e w1 ⟨rfl, hb⟩
    have q0 := (show Blk _ w.heap.size #[.int .i64 c.seq, .bool c.fire, .int .i64 c.mv.x, .int .i64 c.mv.y, .int .i64 c.mv.z, .int .i64 c.aim.x, .int .i64 c.aim.y, .int .i64 c.aim.z, .int .i64 c.time] 50 from (by repeat' (first | (with_reducible assumption) | (refine Blk.new ?_; (first | (simp; done) | rfl); done) | (with_reducible refine Blk.alloc ?_) | (with_reducible refine Blk.drew ?_) | (with_reducible refine Blk.drewN ?_)))).after hb
    have hb1 : Below w.heap.size w w1 := bl (by go_grown) hb
    clear hb
    obtain ⟨a0, a1, a2, a3, a4, a5, a6, a7, a8, af, az⟩ := q0.nine
    go_wp2_with fail
    refine (write_any c _ HF.out).mono ?_
    rintro e w2 ⟨rfl, hb⟩
    have hb2 : Below w.heap.size w w2 := bl (by go_grown) hb
    clear hb
    go_wp2
    go_ret2
    exact ⟨rfl, by go_grown⟩

set_option maxHeartbeats 2000000 in
theorem encode_any (c : M.Cmd) (w : World) : Calls Try.prog 28 #[.agg #[.int .i64 c.seq, .bool c.fire, .int .i64 c.mv.x, .int .i64 c.mv.y, .int .i64 c.mv.z, .int .i64 c.aim.x, .int .i64 c.aim.y, .int .i64 c.aim.z, .int .i64 c.time]] w fun e w' => e = .returned (.tuple #[.string (M.encS c), .int .i64 (M.encE c)]) ∧ Below w.heap.size w w' := by
  go_enter Try.func28, Try.ntmps28
  go_wp2_with fail
  refine (pEncode_any c _).mono ?_
  rintro e w1 ⟨rfl, hb⟩
  have hb1 : Below w.heap.size w w1 := bl (by go_grown) hb
  clear hb
  go_wp2
  go_ret2
  exact ⟨rfl, by go_grown⟩

end Go.Proofs.Ytonmihojfcjmjaa
