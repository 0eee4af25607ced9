/- Carried over what comes in. -/
import Derived.Test.YtonmihojfcjmjaaCa2
import Derived.OpenShut
namespace Go.Proofs.Ytonmihojfcjmjaa
open Go.RowKit
theorem carried_wf (c : M.Cmd) (i v : Int) (w : World) (hi : (Lit.int .i64 i).wf = true) (hv : (Lit.int .i64 v).wf = true) : Calls Try.prog 10 #[.agg #[.int .i64 c.seq, .bool c.fire, .int .i64 c.mv.x, .int .i64 c.mv.y, .int .i64 c.mv.z, .int .i64 c.aim.x, .int .i64 c.aim.y, .int .i64 c.aim.z, .int .i64 c.time], .int .i64 i, .int .i64 v] w fun e w' => e = .returned (.bool true) ∧ Below w.heap.size w w' :=
  carried_any c i v w (Go.bounds_i64 hi).1 (Go.bounds_i64 hi).2 (Go.bounds_i64 hv).1 (Go.bounds_i64 hv).2
end Go.Proofs.Ytonmihojfcjmjaa
