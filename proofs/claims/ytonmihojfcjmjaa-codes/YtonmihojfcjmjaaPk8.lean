/- Codes: the law's walk. -/
import Derived.Test.YtonmihojfcjmjaaPk7
namespace Go.Proofs.Ytonmihojfcjmjaa
open Go.RowKit
set_option linter.unusedVariables false
attribute [local go_sem] cell_set_off cell_set_blk

set_option maxHeartbeats 2000000 in
theorem codes_any (c : M.Cmd) (p : ByteArray) (w : World) (hs : p.size ≤ maxLen) : Calls Try.prog 9 #[.agg #[.int .i64 c.seq, .bool c.fire, .int .i64 c.mv.x, .int .i64 c.mv.y, .int .i64 c.mv.z, .int .i64 c.aim.x, .int .i64 c.aim.y, .int .i64 c.aim.z, .int .i64 c.time], .string p] w fun e w' => e = .returned (.bool true) ∧ Below w.heap.size w w' := by
  obtain ⟨d, hd⟩ : ∃ d, M.decR p = d := ⟨_, rfl⟩
  obtain ⟨E, hE⟩ : ∃ E, M.decE p = E := ⟨_, rfl⟩
  have HD : Hid (M.decR p = d) := hd
  have HE : Hid (M.decE p = E) := hE
  have HM : Hid (p.size ≤ maxLen) := hs
  clear hd hE hs
  go_enter Try.func9, Try.ntmps9
  go_wp2_with fail
  refine (encode_any c _).mono ?_
  rintro r w1 ⟨rfl, hb⟩
  have q0 := (show Blk _ w.heap.size #[.int .i64 c.seq, .bool c.fire, .int .i64 c.mv.x, .int .i64 c.mv.y, .int .i64 c.mv.z, .int .i64 c.aim.x, .int .i64 c.aim.y, .int .i64 c.aim.z, .int .i64 c.time] 50 from (by repeat' (first | (with_reducible assumption) | (refine Blk.new ?_; (first | (simp; done) | rfl); done) | (with_reducible refine Blk.alloc ?_) | (with_reducible refine Blk.drew ?_) | (with_reducible refine Blk.drewN ?_)))).after hb
  have hb1 : Below w.heap.size w w1 := bl (by go_grown) hb
  clear hb
  obtain ⟨a0, a1, a2, a3, a4, a5, a6, a7, a8, af, az⟩ := q0.nine
  generalize hS : M.encS c = S
  generalize hF : M.encE c = F
  go_wp2_with fail
  refine (rEncode_any c _).mono ?_
  rintro r w2 ⟨rfl, hb⟩
  rw [hS, hF]
  have hb2 : Below w.heap.size w w2 := bl (by go_grown) hb
  clear hb a0 a1 a2 a3 a4 a5 a6 a7 a8 af az q0 hb1 hS hF
  go_wp2_with fail
  refine (decode_any p _ d E HM.out HD HE).mono ?_
  rintro r w3 ⟨rfl, hb⟩
  have hb3 : Below w.heap.size w w3 := bl (by go_grown) hb
  have z3 : w.heap.size ≤ w3.heap.size := hb3.size
  clear hb hb2
  go_wp2_with fail
  refine (rDecode_any p _ d E HM.out HD HE).mono ?_
  rintro r w4 ⟨rfl, hb⟩
  have q1 := (show Blk _ w3.heap.size #[.int .i64 d.seq, .bool d.fire, .int .i64 d.mv.x, .int .i64 d.mv.y, .int .i64 d.mv.z, .int .i64 d.aim.x, .int .i64 d.aim.y, .int .i64 d.aim.z, .int .i64 d.time] 50 from (by repeat' (first | (with_reducible assumption) | (refine Blk.new ?_; (first | (simp; done) | rfl); done) | (with_reducible refine Blk.alloc ?_) | (with_reducible refine Blk.drew ?_) | (with_reducible refine Blk.drewN ?_)))).after hb
  have hb4 : Below w.heap.size w w4 := bl (by go_grown) hb
  clear hb hb3
  obtain ⟨a0, a1, a2, a3, a4, a5, a6, a7, a8, af, az⟩ := q1.nine
  go_wp2
  go_ret
  exact ⟨rfl, by go_grown⟩

end Go.Proofs.Ytonmihojfcjmjaa
