/-
  DERIVED. '==' on vectors and matrices: of one value and itself it is true.
-/
import Derived.Test.YtjohcngmoemmbaaExt
import Derived.Laws.StructEq
namespace Go.Proofs.Ytjohcngmoemmbaa
open Go.RowKit
set_option linter.unusedVariables false

theorem eqInV (d : Nat) (a0 a1 a2 a3 : Int) (w : World) : (Op.equalIn (d + 2) 30 (.agg #[.int .i64 a0, .int .i64 a1, .int .i64 a2, .int .i64 a3]) (.agg #[.int .i64 a0, .int .i64 a1, .int .i64 a2, .int .i64 a3])).run Try.prog w = .ok true w := by
  unfold Op.equalIn
  simp [run_underlying Try.underlying30, go_sem, part, List.range', List.forIn_cons]
theorem eqV (a0 a1 a2 a3 : Int) (w : World) : (Op.equalIn 10000 30 (.agg #[.int .i64 a0, .int .i64 a1, .int .i64 a2, .int .i64 a3]) (.agg #[.int .i64 a0, .int .i64 a1, .int .i64 a2, .int .i64 a3])).run Try.prog w = .ok true w := eqInV 9998 a0 a1 a2 a3 w
end Go.Proofs.Ytjohcngmoemmbaa
