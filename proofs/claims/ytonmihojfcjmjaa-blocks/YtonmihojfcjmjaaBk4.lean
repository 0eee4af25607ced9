/- Blocks, over what comes in. -/
import Derived.Test.YtonmihojfcjmjaaBk3
import Derived.OpenShut
namespace Go.Proofs.Ytonmihojfcjmjaa
open Go.RowKit

theorem blocks_wf (a b : Int) (p d : M.V3) (w : World) (h0 : (Lit.int .i64 a).wf = true) (h1 : (Lit.int .i64 b).wf = true) :
    Calls Try.prog 7 #[.int .i64 a, .int .i64 b, .agg #[.int .i64 p.x, .int .i64 p.y, .int .i64 p.z], .agg #[.int .i64 d.x, .int .i64 d.y, .int .i64 d.z]] w fun e w' => e = .returned (.bool true) ∧ Below w.heap.size w w' :=
  blocks_any a b p d w (bounds_i64 h0).1 (bounds_i64 h0).2 (bounds_i64 h1).1 (bounds_i64 h1).2

end Go.Proofs.Ytonmihojfcjmjaa
