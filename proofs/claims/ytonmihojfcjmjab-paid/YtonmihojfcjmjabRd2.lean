import Derived.Test.YtonmihojfcjmjabRd1
import Derived.Deep.RegionWith
/- Contracts: Inside, Cut, countPlane. -/
namespace Go.Proofs.Ytonmihojfcjmjab
open Go.RowKit
variable {ps : Nat → Bool}
attribute [local go_sem] cell_set_off cell_set_blk

theorem plane3 {c : Int} (h : M.planeB c = true) : c = 120 ∨ c = 121 ∨ c = 122 := by unfold M.planeB at h; simp at h; omega

set_option maxHeartbeats 1000000 in
theorem inside_any (lo hi : M.V3) (c v : Int) (w : World) (hc : M.planeB c = true) (B : Bool) (hB : Hid (M.insideB lo hi c v = B)) :
    Calls Try.prog 103 #[.agg #[.int .i64 lo.x, .int .i64 lo.y, .int .i64 lo.z, .int .i64 hi.x, .int .i64 hi.y, .int .i64 hi.z], .int .u8 c, .int .i64 v] w fun e w' => e = .returned (.bool B) ∧ Below w.heap.size w w' := by
  rcases plane3 hc with rfl | rfl | rfl
  · go_enter Try.func103, Try.ntmps103
    go_wp2
    all_goals (go_ret; exact ⟨ret_bool (by rw [← hB.out]; unfold M.insideB M.getAx; (first | (simp [*]; done) | (simp; omega))), by go_grown⟩)
  · go_enter Try.func103, Try.ntmps103
    go_wp2
    all_goals (go_ret; exact ⟨ret_bool (by rw [← hB.out]; unfold M.insideB M.getAx; (first | (simp [*]; done) | (simp; omega))), by go_grown⟩)
  · go_enter Try.func103, Try.ntmps103
    go_wp2
    all_goals (go_ret; exact ⟨ret_bool (by rw [← hB.out]; unfold M.insideB M.getAx; (first | (simp [*]; done) | (simp; omega))), by go_grown⟩)

theorem setAx_x (p : M.V3) (v : Int) : M.setAx p 120 v = ⟨v, p.y, p.z⟩ := rfl
theorem setAx_y (p : M.V3) (v : Int) : M.setAx p 121 v = ⟨p.x, v, p.z⟩ := rfl
theorem setAx_z (p : M.V3) (v : Int) : M.setAx p 122 v = ⟨p.x, p.y, v⟩ := rfl

def CutPost (lo hi : M.V3) (c v : Int) (w : World) (r : Ending) (w' : World) : Prop :=
  r = .returned (.tuple #[.agg #[.int .i64 lo.x, .int .i64 lo.y, .int .i64 lo.z, .int .i64 (M.setAx hi c v).x, .int .i64 (M.setAx hi c v).y, .int .i64 (M.setAx hi c v).z],
    .agg #[.int .i64 (M.setAx lo c v).x, .int .i64 (M.setAx lo c v).y, .int .i64 (M.setAx lo c v).z, .int .i64 hi.x, .int .i64 hi.y, .int .i64 hi.z]]) ∧ Below w.heap.size w w'

set_option maxHeartbeats 1000000 in
theorem cut_x (lo hi : M.V3) (v : Int) (w : World) :
    Calls Try.prog 93 #[.agg #[.int .i64 lo.x, .int .i64 lo.y, .int .i64 lo.z, .int .i64 hi.x, .int .i64 hi.y, .int .i64 hi.z], .int .u8 120, .int .i64 v] w (CutPost lo hi 120 v w) := by
  go_enter Try.func93, Try.ntmps93
  go_wp2
  go_region
  all_goals go_wp2
  all_goals exact bodyPost_ret (v := .tuple #[.agg #[.int .i64 lo.x, .int .i64 lo.y, .int .i64 lo.z, .int .i64 v, .int .i64 hi.y, .int .i64 hi.z], .agg #[.int .i64 v, .int .i64 lo.y, .int .i64 lo.z, .int .i64 hi.x, .int .i64 hi.y, .int .i64 hi.z]]) (by simp [results, Try.results93, go_sem]) rfl ⟨rfl, by go_grown⟩

set_option maxHeartbeats 1000000 in
theorem cut_y (lo hi : M.V3) (v : Int) (w : World) :
    Calls Try.prog 93 #[.agg #[.int .i64 lo.x, .int .i64 lo.y, .int .i64 lo.z, .int .i64 hi.x, .int .i64 hi.y, .int .i64 hi.z], .int .u8 121, .int .i64 v] w (CutPost lo hi 121 v w) := by
  go_enter Try.func93, Try.ntmps93
  go_wp2
  go_region
  all_goals go_wp2
  all_goals exact bodyPost_ret (v := .tuple #[.agg #[.int .i64 lo.x, .int .i64 lo.y, .int .i64 lo.z, .int .i64 hi.x, .int .i64 v, .int .i64 hi.z], .agg #[.int .i64 lo.x, .int .i64 v, .int .i64 lo.z, .int .i64 hi.x, .int .i64 hi.y, .int .i64 hi.z]]) (by simp [results, Try.results93, go_sem]) rfl ⟨rfl, by go_grown⟩

set_option maxHeartbeats 1000000 in
theorem cut_z (lo hi : M.V3) (v : Int) (w : World) :
    Calls Try.prog 93 #[.agg #[.int .i64 lo.x, .int .i64 lo.y, .int .i64 lo.z, .int .i64 hi.x, .int .i64 hi.y, .int .i64 hi.z], .int .u8 122, .int .i64 v] w (CutPost lo hi 122 v w) := by
  go_enter Try.func93, Try.ntmps93
  go_wp2
  go_region
  all_goals go_wp2
  all_goals exact bodyPost_ret (v := .tuple #[.agg #[.int .i64 lo.x, .int .i64 lo.y, .int .i64 lo.z, .int .i64 hi.x, .int .i64 hi.y, .int .i64 v], .agg #[.int .i64 lo.x, .int .i64 lo.y, .int .i64 v, .int .i64 hi.x, .int .i64 hi.y, .int .i64 hi.z]]) (by simp [results, Try.results93, go_sem]) rfl ⟨rfl, by go_grown⟩

theorem cut_any (lo hi : M.V3) (c v : Int) (w : World) (hc : M.planeB c = true) :
    Calls Try.prog 93 #[.agg #[.int .i64 lo.x, .int .i64 lo.y, .int .i64 lo.z, .int .i64 hi.x, .int .i64 hi.y, .int .i64 hi.z], .int .u8 c, .int .i64 v] w (CutPost lo hi c v w) := by
  rcases plane3 hc with rfl | rfl | rfl
  · exact cut_x lo hi v w
  · exact cut_y lo hi v w
  · exact cut_z lo hi v w

/-- The state behind a plane has been counted. -/
def M.St.count (st : M.St) (ok : Bool) : M.St := ⟨st.place, st.planes + 1, if st.wrong < 0 ∧ ok = false then (st.planes : Int) else st.wrong, st.leaves⟩

def CntPost (ps : Nat → Bool) (R : Nat) (s : ByteArray) (st : M.St) (v : Value) (w : World) (r : Ending) (w' : World) : Prop := r = .returned (.tuple #[]) ∧ Rd ps w' R s st v ∧ Fr R v w w' v

set_option maxHeartbeats 1000000 in
theorem countPlane_any (R : Nat) (s : ByteArray) (st : M.St) (v : Value) (lo hi : M.V3) (c x : Int) (w : World) (h : Rd ps w R s st v) (hc : M.planeB c = true) (hw : -1 ≤ st.wrong) (hp : st.planes ≤ 512) :
    Calls Try.prog 92 #[.pointer (some ⟨R, 0, none⟩), .agg #[.int .i64 lo.x, .int .i64 lo.y, .int .i64 lo.z, .int .i64 hi.x, .int .i64 hi.y, .int .i64 hi.z], .int .u8 c, .int .i64 x] w (CntPost ps R s (st.count (M.insideB lo hi c x)) v w) := by
  obtain ⟨B, hB⟩ : ∃ B, M.insideB lo hi c x = B := ⟨_, rfl⟩
  rw [hB]
  have HB : Hid (M.insideB lo hi c x = B) := hB
  clear hB
  have hR := h.blk.lt
  go_enter Try.func92, Try.ntmps92
  go_wp2_with fail
  refine (inside_any lo hi c x _ hc B HB).mono ?_
  rintro r w1 ⟨rfl, hb⟩
  have H : Rd ps w1 R s st v := h.alloc.below hb
  have F : Fr R v w w1 v := ((Fr.refl R v w).alloc _).below hb
  clear hb h HB
  obtain ⟨k0, k1, k2, k3, k4, kf, kl⟩ := H.blk.five
  cases B
  · by_cases hz : st.wrong = -1
    · have e1 : (st.wrong == -1) = true := by simp [hz]
      have Hz : Hid (st.wrong = -1) := hz
      clear hz
      go_wp2
      go_end0
      refine ⟨rfl, ?_, (F.setR _).setR _⟩
      have e2 : st.count false = ⟨st.place, st.planes + 1, (st.planes : Int), st.leaves⟩ := by unfold M.St.count; rw [if_pos ⟨by rw [Hz.out]; omega, rfl⟩]
      rw [e2]
      exact H.set _ _ _ _ (((H.blk.setC 3 (.int .i64 st.planes)).setC 2 (.int .i64 (st.planes + 1 : Nat))).to (fun j _ => by match j with | 0 => rfl | 1 => rfl | 2 => rfl | 3 => rfl | 4 => rfl | j + 5 => simp [rdC])) (fun k hk => by rw [Below.heap_setCell _ _ _ _ hk, Below.heap_setCell _ _ _ _ hk])
    · have e1 : (st.wrong == -1) = false := by simp [hz]
      have e2 : st.count false = ⟨st.place, st.planes + 1, st.wrong, st.leaves⟩ := by unfold M.St.count; rw [if_neg (by omega)]
      have E2 : Hid (st.count false = ⟨st.place, st.planes + 1, st.wrong, st.leaves⟩) := e2
      clear e2 hz
      go_wp2
      go_end0
      refine ⟨rfl, ?_, F.setR _⟩
      rw [E2.out]
      exact H.set _ _ _ _ ((H.blk.setC 2 (.int .i64 (st.planes + 1 : Nat))).to (fun j _ => by match j with | 0 => rfl | 1 => rfl | 2 => rfl | 3 => rfl | 4 => rfl | j + 5 => simp [rdC])) (fun k hk => by rw [Below.heap_setCell _ _ _ _ hk])
  · have e2 : st.count true = ⟨st.place, st.planes + 1, st.wrong, st.leaves⟩ := by unfold M.St.count; rw [if_neg (by simp)]
    have E2 : Hid (st.count true = ⟨st.place, st.planes + 1, st.wrong, st.leaves⟩) := e2
    clear e2
    go_wp2
    go_end0
    refine ⟨rfl, ?_, F.setR _⟩
    rw [E2.out]
    exact H.set _ _ _ _ ((H.blk.setC 2 (.int .i64 (st.planes + 1 : Nat))).to (fun j _ => by match j with | 0 => rfl | 1 => rfl | 2 => rfl | 3 => rfl | 4 => rfl | j + 5 => simp [rdC])) (fun k hk => by rw [Below.heap_setCell _ _ _ _ hk])

end Go.Proofs.Ytonmihojfcjmjab
