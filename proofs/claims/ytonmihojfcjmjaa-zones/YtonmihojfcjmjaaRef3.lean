/- Contracts of the document's answer: axis, with. -/
import Derived.Test.YtonmihojfcjmjaaRef2
import Derived.Test.YtonmihojfcjmjaaRd3
namespace Go.Proofs.Ytonmihojfcjmjaa
open Go.RowKit
set_option linter.unusedVariables false
attribute [local go_sem] cell_set_off cell_set_blk

set_option maxHeartbeats 1000000 in
theorem raxis_any (p : M.V3) (k c : Int) (w : World) (hk : k = c - 120) (hc : M.planeB c = true) :
    Calls Try.prog 63 #[.agg #[.int .i64 p.x, .int .i64 p.y, .int .i64 p.z], .int .i64 k] w fun e w' => e = .returned (.int .i64 (M.getAx p c)) ∧ Below w.heap.size w w' := by
  rcases plane3 hc with rfl | rfl | rfl
  · obtain rfl : k = 0 := by omega
    clear hk hc
    go_enter Try.func63, Try.ntmps63
    go_wp2
    go_ret
    exact ⟨rfl, by go_grown⟩
  · obtain rfl : k = 1 := by omega
    clear hk hc
    go_enter Try.func63, Try.ntmps63
    go_wp2
    go_ret
    exact ⟨rfl, by go_grown⟩
  · obtain rfl : k = 2 := by omega
    clear hk hc
    go_enter Try.func63, Try.ntmps63
    go_wp2
    go_ret
    exact ⟨rfl, by go_grown⟩

def WithPost (p : M.V3) (c v : Int) (w : World) (r : Ending) (w' : World) : Prop := r = .returned (.agg #[.int .i64 (M.setAx p c v).x, .int .i64 (M.setAx p c v).y, .int .i64 (M.setAx p c v).z]) ∧ Below w.heap.size w w'

set_option maxHeartbeats 1000000 in
theorem rwith_any (p : M.V3) (k c v : Int) (w : World) (hk : k = c - 120) (hc : M.planeB c = true) :
    Calls Try.prog 64 #[.agg #[.int .i64 p.x, .int .i64 p.y, .int .i64 p.z], .int .i64 k, .int .i64 v] w (WithPost p c v w) := by
  rcases plane3 hc with rfl | rfl | rfl
  · obtain rfl : k = 0 := by omega
    clear hk hc
    go_enter Try.func64, Try.ntmps64
    go_wp2
    exact bodyPost_ret (v := .agg #[.int .i64 v, .int .i64 p.y, .int .i64 p.z]) (by simp [results, Try.results64, go_sem]) rfl ⟨rfl, by go_grown⟩
  · obtain rfl : k = 1 := by omega
    clear hk hc
    go_enter Try.func64, Try.ntmps64
    go_wp2
    exact bodyPost_ret (v := .agg #[.int .i64 p.x, .int .i64 v, .int .i64 p.z]) (by simp [results, Try.results64, go_sem]) rfl ⟨rfl, by go_grown⟩
  · obtain rfl : k = 2 := by omega
    clear hk hc
    go_enter Try.func64, Try.ntmps64
    go_wp2
    exact bodyPost_ret (v := .agg #[.int .i64 p.x, .int .i64 p.y, .int .i64 v]) (by simp [results, Try.results64, go_sem]) rfl ⟨rfl, by go_grown⟩

/-- A stack of regions, as leaves: the next tree last. -/
def dueL (stk : List (Nat × M.V3 × M.V3)) : List M.Lf := stk.reverse.map fun t => ⟨t.2.1, t.2.2, 0⟩
theorem dueL_cons (r : Nat) (lo hi : M.V3) (stk : List (Nat × M.V3 × M.V3)) : dueL ((r, lo, hi) :: stk) = dueL stk ++ [⟨lo, hi, 0⟩] := by simp [dueL]
theorem dueL_len (stk : List (Nat × M.V3 × M.V3)) : (dueL stk).length = stk.length := by simp [dueL]

theorem infoLeaf2 : (Try.prog.info? 114).map (fun i => (i.zero, i.size, i.bytes)) = some (some (.agg #[.int .i64 0, .int .i64 0, .int .i64 0, .int .i64 0, .int .i64 0, .int .i64 0, .int .i64 0]), 7, 56) := by kernel_rfl

end Go.Proofs.Ytonmihojfcjmjaa
