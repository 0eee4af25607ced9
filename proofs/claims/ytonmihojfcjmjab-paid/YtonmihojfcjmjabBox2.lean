import Derived.Test.YtonmihojfcjmjabSeg
/- Contracts: Limits, Holds, within, Ordered. -/
namespace Go.Proofs.Ytonmihojfcjmjab
open Go.RowKit
attribute [local go_sem] cell_set_off cell_set_blk


set_option maxHeartbeats 400000 in
theorem cube_any (w : World) : Calls Try.prog 56 #[] w fun e w' => e = .returned (.agg #[.int .i64 0, .int .i64 0, .int .i64 0, .int .i64 4096, .int .i64 4096, .int .i64 4096]) ∧ Below w.heap.size w w' := by
  go_enter Try.func56, Try.ntmps56
  go_wp2
  exact bodyPost_ret (v := .agg #[.int .i64 0, .int .i64 0, .int .i64 0, .int .i64 4096, .int .i64 4096, .int .i64 4096]) (by simp [results, Try.results56, go_sem]) rfl ⟨rfl, by go_grown⟩

/-- Does the point lie in the box? -/
def M.holdsB (lo hi p : M.V3) : Bool := decide (lo.x ≤ p.x) && decide (p.x ≤ hi.x) && decide (lo.y ≤ p.y) && decide (p.y ≤ hi.y) && decide (lo.z ≤ p.z) && decide (p.z ≤ hi.z)

set_option maxHeartbeats 1000000 in
theorem holds_any (lo hi p : M.V3) (w : World) :
    Calls Try.prog 61 #[.agg #[.int .i64 lo.x, .int .i64 lo.y, .int .i64 lo.z, .int .i64 hi.x, .int .i64 hi.y, .int .i64 hi.z], .agg #[.int .i64 p.x, .int .i64 p.y, .int .i64 p.z]] w fun e w' => e = .returned (.bool (M.holdsB lo hi p)) ∧ Below w.heap.size w w' := by
  go_enter Try.func61, Try.ntmps61
  go_wp2
  all_goals (go_ret; exact ⟨ret_bool (by unfold M.holdsB; (first | (simp [*]; done) | (simp; omega))), by go_grown⟩)

def M.ordB (lo hi : M.V3) : Bool := decide (lo.x ≤ hi.x) && decide (lo.y ≤ hi.y) && decide (lo.z ≤ hi.z)


def M.lowV : M.V3 := ⟨-1048576, -1048576, -1048576⟩
def M.highV : M.V3 := ⟨1048576, 1048576, 1048576⟩
def M.nearB (p : M.V3) : Bool := M.holdsB M.lowV M.highV p
theorem M.nearB_iff (p : M.V3) : M.nearB p = true ↔ p.Near := by
  unfold M.nearB M.holdsB M.lowV M.highV
  simp
  constructor
  · rintro ⟨⟨⟨⟨⟨a, b⟩, c⟩, d⟩, e⟩, f⟩; exact ⟨a, b, c, d, e, f⟩
  · rintro ⟨a, b, c, d, e, f⟩; exact ⟨⟨⟨⟨⟨a, b⟩, c⟩, d⟩, e⟩, f⟩

theorem holds_near (p : M.V3) (w : World) (B : Bool) (hB : Hid (M.nearB p = B)) :
    Calls Try.prog 61 #[.agg #[.int .i64 (-1048576), .int .i64 (-1048576), .int .i64 (-1048576), .int .i64 1048576, .int .i64 1048576, .int .i64 1048576], .agg #[.int .i64 p.x, .int .i64 p.y, .int .i64 p.z]] w fun e w' => e = .returned (.bool B) ∧ Below w.heap.size w w' := by
  rw [← hB.out]
  exact holds_any M.lowV M.highV p w

end Go.Proofs.Ytonmihojfcjmjab
