/-
  DERIVED. Indexing a vector or a matrix that is a value (an array that is no variable): the law for an index within the array.
-/
import Derived.Test.YthpobegfiflppaaExt
namespace Go.Proofs.Ythpobegfiflppaa
open Go.RowKit
set_option linter.unusedVariables false

theorem idxV (x0 x1 x2 x3 : Value) (w : World) :
    (Instr.index 23 (.agg #[x0, x1, x2, x3]) (.int .i64 0)).run Try.prog w = .ok x0 w ∧ (Instr.index 23 (.agg #[x0, x1, x2, x3]) (.int .i64 1)).run Try.prog w = .ok x1 w ∧
    (Instr.index 23 (.agg #[x0, x1, x2, x3]) (.int .i64 2)).run Try.prog w = .ok x2 w ∧ (Instr.index 23 (.agg #[x0, x1, x2, x3]) (.int .i64 3)).run Try.prog w = .ok x3 w := by
  refine ⟨?_, ?_, ?_, ?_⟩ <;> simp [Instr.index, asIntOf, run_underlying Try.underlying23, go_sem, part]

theorem idxM (x0 x1 x2 x3 y0 y1 y2 y3 z0 z1 z2 z3 t0 t1 t2 t3 : Value) (w : World) :
    (Instr.index 33 (.agg #[x0, x1, x2, x3, y0, y1, y2, y3, z0, z1, z2, z3, t0, t1, t2, t3]) (.int .i64 0)).run Try.prog w = .ok (.agg #[x0, x1, x2, x3]) w ∧
    (Instr.index 33 (.agg #[x0, x1, x2, x3, y0, y1, y2, y3, z0, z1, z2, z3, t0, t1, t2, t3]) (.int .i64 1)).run Try.prog w = .ok (.agg #[y0, y1, y2, y3]) w ∧
    (Instr.index 33 (.agg #[x0, x1, x2, x3, y0, y1, y2, y3, z0, z1, z2, z3, t0, t1, t2, t3]) (.int .i64 2)).run Try.prog w = .ok (.agg #[z0, z1, z2, z3]) w ∧
    (Instr.index 33 (.agg #[x0, x1, x2, x3, y0, y1, y2, y3, z0, z1, z2, z3, t0, t1, t2, t3]) (.int .i64 3)).run Try.prog w = .ok (.agg #[t0, t1, t2, t3]) w := by
  refine ⟨?_, ?_, ?_, ?_⟩ <;> simp [Instr.index, asIntOf, run_underlying Try.underlying33, go_sem, part]

theorem idxC (x0 x1 x2 x3 : Value) (w : World) :
    (Instr.index 36 (.agg #[x0, x1, x2, x3]) (.int .i64 0)).run Try.prog w = .ok x0 w ∧ (Instr.index 36 (.agg #[x0, x1, x2, x3]) (.int .i64 1)).run Try.prog w = .ok x1 w ∧
    (Instr.index 36 (.agg #[x0, x1, x2, x3]) (.int .i64 2)).run Try.prog w = .ok x2 w ∧ (Instr.index 36 (.agg #[x0, x1, x2, x3]) (.int .i64 3)).run Try.prog w = .ok x3 w := by
  refine ⟨?_, ?_, ?_, ?_⟩ <;> simp [Instr.index, asIntOf, run_underlying Try.underlying36, go_sem, part]

end Go.Proofs.Ythpobegfiflppaa
