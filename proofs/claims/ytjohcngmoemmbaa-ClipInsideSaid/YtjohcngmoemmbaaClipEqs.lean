/-
  DERIVED. Layer 12: == on vertices: of one value and itself it is true (made by mkcliplaws.py).
-/
import Derived.Test.YtjohcngmoemmbaaEqs
import Derived.Laws.StructEq
namespace Go.Proofs.Ytjohcngmoemmbaa
open Go.RowKit
set_option linter.unusedVariables false
set_option maxRecDepth 100000 in
set_option maxHeartbeats 2000000 in
theorem eqInCV (d : Nat) (v0 v1 v2 v3 v4 v5 v6 v7 : Int) (w : World) : (Op.equalIn (d + 3) 32 (.agg #[.int .i64 v0, .int .i64 v1, .int .i64 v2, .int .i64 v3, .int .i64 v4, .int .i64 v5, .int .i64 v6, .int .i64 v7]) (.agg #[.int .i64 v0, .int .i64 v1, .int .i64 v2, .int .i64 v3, .int .i64 v4, .int .i64 v5, .int .i64 v6, .int .i64 v7])).run Try.prog w = .ok true w := by
  have h := eqInV d
  rw [show d + 3 = (d + 2) + 1 from rfl]
  unfold Op.equalIn
  simp [run_underlying Try.underlying32, go_sem, part, List.forIn_cons, h]
theorem eqCV (v0 v1 v2 v3 v4 v5 v6 v7 : Int) (w : World) : (Op.equalIn 10000 32 (.agg #[.int .i64 v0, .int .i64 v1, .int .i64 v2, .int .i64 v3, .int .i64 v4, .int .i64 v5, .int .i64 v6, .int .i64 v7]) (.agg #[.int .i64 v0, .int .i64 v1, .int .i64 v2, .int .i64 v3, .int .i64 v4, .int .i64 v5, .int .i64 v6, .int .i64 v7])).run Try.prog w = .ok true w := eqInCV 9997 v0 v1 v2 v3 v4 v5 v6 v7 w
end Go.Proofs.Ytjohcngmoemmbaa
