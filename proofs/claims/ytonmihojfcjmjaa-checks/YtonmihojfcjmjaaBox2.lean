/- Contracts: Limits, Holds, within, Ordered. -/
import Derived.Test.YtonmihojfcjmjaaSeg
namespace Go.Proofs.Ytonmihojfcjmjaa
open Go.RowKit
attribute [local go_sem] cell_set_off cell_set_blk

set_option maxHeartbeats 400000 in
theorem limits_any (w : World) : Calls Try.prog 66 #[] w fun e w' => e = .returned (.agg #[.int .i64 (-1048576), .int .i64 (-1048576), .int .i64 (-1048576), .int .i64 1048576, .int .i64 1048576, .int .i64 1048576]) ∧ Below w.heap.size w w' := by
  go_enter Try.func66, Try.ntmps66
  go_wp2
  exact bodyPost_ret (v := .agg #[.int .i64 (-1048576), .int .i64 (-1048576), .int .i64 (-1048576), .int .i64 1048576, .int .i64 1048576, .int .i64 1048576]) (by simp [results, Try.results66, go_sem]) rfl ⟨rfl, by go_grown⟩

set_option maxHeartbeats 400000 in
theorem cube_any (w : World) : Calls Try.prog 38 #[] w fun e w' => e = .returned (.agg #[.int .i64 0, .int .i64 0, .int .i64 0, .int .i64 4096, .int .i64 4096, .int .i64 4096]) ∧ Below w.heap.size w w' := by
  go_enter Try.func38, Try.ntmps38
  go_wp2
  exact bodyPost_ret (v := .agg #[.int .i64 0, .int .i64 0, .int .i64 0, .int .i64 4096, .int .i64 4096, .int .i64 4096]) (by simp [results, Try.results38, go_sem]) rfl ⟨rfl, by go_grown⟩

/-- Does the point lie in the box? -/
def M.holdsB (lo hi p : M.V3) : Bool := decide (lo.x ≤ p.x) && decide (p.x ≤ hi.x) && decide (lo.y ≤ p.y) && decide (p.y ≤ hi.y) && decide (lo.z ≤ p.z) && decide (p.z ≤ hi.z)

set_option maxHeartbeats 1000000 in
theorem holds_any (lo hi p : M.V3) (w : World) :
    Calls Try.prog 39 #[.agg #[.int .i64 lo.x, .int .i64 lo.y, .int .i64 lo.z, .int .i64 hi.x, .int .i64 hi.y, .int .i64 hi.z], .agg #[.int .i64 p.x, .int .i64 p.y, .int .i64 p.z]] w fun e w' => e = .returned (.bool (M.holdsB lo hi p)) ∧ Below w.heap.size w w' := by
  go_enter Try.func39, Try.ntmps39
  go_wp2
  all_goals (go_ret; exact ⟨ret_bool (by unfold M.holdsB; (first | (simp [*]; done) | (simp; omega))), by go_grown⟩)

def M.ordB (lo hi : M.V3) : Bool := decide (lo.x ≤ hi.x) && decide (lo.y ≤ hi.y) && decide (lo.z ≤ hi.z)

set_option maxHeartbeats 1000000 in
theorem ordered_any (lo hi : M.V3) (w : World) :
    Calls Try.prog 44 #[.agg #[.int .i64 lo.x, .int .i64 lo.y, .int .i64 lo.z, .int .i64 hi.x, .int .i64 hi.y, .int .i64 hi.z]] w fun e w' => e = .returned (.bool (M.ordB lo hi)) ∧ Below w.heap.size w w' := by
  go_enter Try.func44, Try.ntmps44
  go_wp2
  all_goals (go_ret; exact ⟨ret_bool (by unfold M.ordB; (first | (simp [*]; done) | (simp; omega))), by go_grown⟩)

def M.lowV : M.V3 := ⟨-1048576, -1048576, -1048576⟩
def M.highV : M.V3 := ⟨1048576, 1048576, 1048576⟩
def M.nearB (p : M.V3) : Bool := M.holdsB M.lowV M.highV p
theorem M.nearB_iff (p : M.V3) : M.nearB p = true ↔ p.Near := by
  unfold M.nearB M.holdsB M.lowV M.highV
  simp
  constructor
  · rintro ⟨⟨⟨⟨⟨a, b⟩, c⟩, d⟩, e⟩, f⟩; exact ⟨a, b, c, d, e, f⟩
  · rintro ⟨a, b, c, d, e, f⟩; exact ⟨⟨⟨⟨⟨a, b⟩, c⟩, d⟩, e⟩, f⟩

theorem holds_near (p : M.V3) (w : World) (B : Bool) (hB : Hid (M.nearB p = B)) :
    Calls Try.prog 39 #[.agg #[.int .i64 (-1048576), .int .i64 (-1048576), .int .i64 (-1048576), .int .i64 1048576, .int .i64 1048576, .int .i64 1048576], .agg #[.int .i64 p.x, .int .i64 p.y, .int .i64 p.z]] w fun e w' => e = .returned (.bool B) ∧ Below w.heap.size w w' := by
  rw [← hB.out]
  exact holds_any M.lowV M.highV p w

set_option maxHeartbeats 1000000 in
theorem within_any (p q : M.V3) (w : World) (B C : Bool) (hB : Hid (M.nearB p = B)) (hC : Hid (M.nearB q = C)) :
    Calls Try.prog 43 #[.agg #[.int .i64 p.x, .int .i64 p.y, .int .i64 p.z], .agg #[.int .i64 q.x, .int .i64 q.y, .int .i64 q.z]] w fun e w' => e = .returned (.bool (B && C)) ∧ Below w.heap.size w w' := by
  go_enter Try.func43, Try.ntmps43
  go_wp2_with fail
  refine (limits_any _).mono ?_
  rintro r w1 ⟨rfl, hb⟩
  have q0 := (show Blk _ w.heap.size #[.int .i64 p.x, .int .i64 p.y, .int .i64 p.z] 27 from (by repeat' (first | (with_reducible assumption) | (refine Blk.new ?_; (first | (simp; done) | rfl); done) | (with_reducible refine Blk.alloc ?_) | (with_reducible refine Blk.drew ?_) | (with_reducible refine Blk.drewN ?_)))).after hb
  have q1 := (show Blk _ (w.heap.size + 1) #[.int .i64 q.x, .int .i64 q.y, .int .i64 q.z] 27 from (by repeat' (first | (with_reducible assumption) | (refine Blk.new ?_; (first | (simp; done) | rfl); done) | (with_reducible refine Blk.alloc ?_) | (with_reducible refine Blk.drew ?_) | (with_reducible refine Blk.drewN ?_)))).after hb
  have hb1 : Below w.heap.size w w1 := bl (by go_grown) hb
  clear hb
  obtain ⟨a0, a1, a2, af, az⟩ := q0.three
  obtain ⟨b0, b1, b2, bf, bz⟩ := q1.three
  have u4 : w.heap.size ≤ w1.heap.size := hb1.size
  go_wp2_with fail
  refine (holds_near p _ B hB).mono ?_
  rintro r w2 ⟨rfl, hb⟩
  have q3 := (show Blk (w1.alloc _) w1.heap.size #[.int .i64 (-1048576), .int .i64 (-1048576), .int .i64 (-1048576), .int .i64 1048576, .int .i64 1048576, .int .i64 1048576] 76 from Blk.new rfl).after hb
  replace q1 := q1.alloc.after hb
  have hb2 : Below w.heap.size w w2 := bl (by go_grown) hb
  clear hb hb1 a0 a1 a2 af az b0 b1 b2 bf bz q0
  obtain ⟨b0, b1, b2, bf, bz⟩ := q1.three
  obtain ⟨c0, c1, c2, c3, c4, c5, cf, cz⟩ := q3.six
  cases B
  · go_wp2
    go_ret
    exact ⟨rfl, by go_grown⟩
  · go_wp2_with fail
    refine (holds_near q _ C hC).mono ?_
    rintro r w3 ⟨rfl, hb⟩
    have hb3 : Below w.heap.size w w3 := bl (by go_grown) hb
    clear hb
    go_wp2
    go_ret
    exact ⟨ret_bool (by simp), by go_grown⟩
end Go.Proofs.Ytonmihojfcjmjaa
