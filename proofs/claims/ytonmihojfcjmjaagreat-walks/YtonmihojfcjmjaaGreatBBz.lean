import Derived.Test.YtonmihojfcjmjaaGreatSeg
/- Contracts: Limits, Holds, within, Ordered. -/
namespace Go.Proofs.YtonmihojfcjmjaaGreat
open Go.RowKit
attribute [local go_sem] cell_set_off cell_set_blk


set_option maxHeartbeats 400000 in
theorem cube_any (w : World) : Calls Tryz.prog 47 #[] w fun e w' => e = .returned (.agg #[.int .i64 0, .int .i64 0, .int .i64 0, .int .i64 4096, .int .i64 4096, .int .i64 4096]) ∧ Below w.heap.size w w' := by
  go_enter Tryz.func47, Tryz.ntmps47
  go_wp2
  exact bodyPost_ret (v := .agg #[.int .i64 0, .int .i64 0, .int .i64 0, .int .i64 4096, .int .i64 4096, .int .i64 4096]) (by simp [results, Tryz.results47, go_sem]) rfl ⟨rfl, by go_grown⟩

/-- Does the point lie in the box? -/
def M.holdsB (lo hi p : M.V3) : Bool := decide (lo.x ≤ p.x) && decide (p.x ≤ hi.x) && decide (lo.y ≤ p.y) && decide (p.y ≤ hi.y) && decide (lo.z ≤ p.z) && decide (p.z ≤ hi.z)

set_option maxHeartbeats 1000000 in
theorem holds_any (lo hi p : M.V3) (w : World) :
    Calls Tryz.prog 71 #[.agg #[.int .i64 lo.x, .int .i64 lo.y, .int .i64 lo.z, .int .i64 hi.x, .int .i64 hi.y, .int .i64 hi.z], .agg #[.int .i64 p.x, .int .i64 p.y, .int .i64 p.z]] w fun e w' => e = .returned (.bool (M.holdsB lo hi p)) ∧ Below w.heap.size w w' := by
  go_enter Tryz.func71, Tryz.ntmps71
  go_wp2
  all_goals (go_ret; exact ⟨ret_bool (by unfold M.holdsB; (first | (simp [*]; done) | (simp; omega))), by go_grown⟩)

def M.ordB (lo hi : M.V3) : Bool := decide (lo.x ≤ hi.x) && decide (lo.y ≤ hi.y) && decide (lo.z ≤ hi.z)


def M.lowV : M.V3 := ⟨-1048576, -1048576, -1048576⟩
def M.highV : M.V3 := ⟨1048576, 1048576, 1048576⟩
def M.nearB (p : M.V3) : Bool := M.holdsB M.lowV M.highV p
theorem M.nearB_iff (p : M.V3) : M.nearB p = true ↔ p.Near := by
  unfold M.nearB M.holdsB M.lowV M.highV
  simp
  constructor
  · rintro ⟨⟨⟨⟨⟨a, b⟩, c⟩, d⟩, e⟩, f⟩; exact ⟨a, b, c, d, e, f⟩
  · rintro ⟨a, b, c, d, e, f⟩; exact ⟨⟨⟨⟨⟨a, b⟩, c⟩, d⟩, e⟩, f⟩

theorem holds_near (p : M.V3) (w : World) (B : Bool) (hB : Hid (M.nearB p = B)) :
    Calls Tryz.prog 71 #[.agg #[.int .i64 (-1048576), .int .i64 (-1048576), .int .i64 (-1048576), .int .i64 1048576, .int .i64 1048576, .int .i64 1048576], .agg #[.int .i64 p.x, .int .i64 p.y, .int .i64 p.z]] w fun e w' => e = .returned (.bool B) ∧ Below w.heap.size w w' := by
  rw [← hB.out]
  exact holds_any M.lowV M.highV p w

end Go.Proofs.YtonmihojfcjmjaaGreat

/- Contracts: the helpers of rewindkeep. -/
namespace Go.Proofs.YtonmihojfcjmjaaGreat
open Go.RowKit
attribute [local go_sem] cell_set_off cell_set_blk

def M.V3.ax (p : M.V3) (k : Int) : Int := if k = 0 then p.x else if k = 1 then p.y else p.z




/-- Are all coordinates from lo to hi? -/
def M.fromB (p : M.V3) (lo hi : Int) : Bool := decide (lo ≤ p.x) && decide (p.x ≤ hi) && decide (lo ≤ p.y) && decide (p.y ≤ hi) && decide (lo ≤ p.z) && decide (p.z ≤ hi)
/-- The axes from k on are in. -/
def M.fromK (p : M.V3) (lo hi : Int) (k : Int) : Bool := (decide (0 < k) || (decide (lo ≤ p.x) && decide (p.x ≤ hi))) && (decide (1 < k) || (decide (lo ≤ p.y) && decide (p.y ≤ hi))) && (decide (2 < k) || (decide (lo ≤ p.z) && decide (p.z ≤ hi)))


theorem M.near_from (p : M.V3) : M.fromB p (-1048576) 1048576 = M.nearB p := rfl


/-- Does the point lie in the box at the time n/e? -/
def M.on1B (p d lo hi n e : Int) : Bool := decide (lo * e ≤ p * e + d * n) && decide (p * e + d * n ≤ hi * e)
def M.liesB (p d lo hi : M.V3) (n e : Int) : Bool := M.on1B p.x d.x lo.x hi.x n e && M.on1B p.y d.y lo.y hi.y n e && M.on1B p.z d.z lo.z hi.z n e
theorem M.liesB_iff (p d lo hi : M.V3) (n e : Int) : M.liesB p d lo hi n e = true ↔ M.lies p d lo hi n e := by
  unfold M.liesB M.lies M.on1B M.on1
  simp [and_assoc]

theorem wrap_sum {a b c d : Int} (a1 : -1048576 ≤ a) (a2 : a ≤ 1048576) (b1 : -1048576 ≤ b) (b2 : b ≤ 1048576) (c1 : -1048576 ≤ c) (c2 : c ≤ 1048576) (d1 : -1048576 ≤ d) (d2 : d ≤ 1048576) : wrap64 (a * b + c * d) = a * b + c * d := by
  have h1 := M.mul_bound a1 a2 b1 b2
  have h2 := M.mul_bound c1 c2 d1 d2
  exact IntWalk.wrap64_in _ (by omega)

end Go.Proofs.YtonmihojfcjmjaaGreat
