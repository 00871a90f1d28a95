/-
  DERIVED. Layer 13: == on triangles: of one value and itself it is true (made by mklaw13.py).
-/
import Derived.Test.YtglehnmkdapnpaaPkFix
import Derived.Laws.StructEq
namespace Go.Proofs.Ytglehnmkdapnpaa
open Go.RowKit
set_option linter.unusedVariables false
set_option maxRecDepth 100000 in
set_option maxHeartbeats 2000000 in
theorem eqInPt13 (d : Nat) (b0 b1 : Int) (w : World) : (Op.equalIn (d + 2) 50 (.agg #[.int .i64 b0, .int .i64 b1]) (.agg #[.int .i64 b0, .int .i64 b1])).run Try.prog w = .ok true w := by
  rw [show d + 2 = (d + 1) + 1 from rfl]
  unfold Op.equalIn
  simp [run_underlying Try.underlying50, go_sem, part, List.forIn_cons]
set_option maxRecDepth 100000 in
set_option maxHeartbeats 2000000 in
theorem eqInP2i (d : Nat) (b0 b1 : Int) (w : World) : (Op.equalIn (d + 2) 37 (.agg #[.int .i64 b0, .int .i64 b1]) (.agg #[.int .i64 b0, .int .i64 b1])).run Try.prog w = .ok true w := by
  rw [show d + 2 = (d + 1) + 1 from rfl]
  unfold Op.equalIn
  simp [run_underlying Try.underlying37, go_sem, part, List.range', List.forIn_cons]
set_option maxRecDepth 100000 in
set_option maxHeartbeats 2000000 in
theorem eqInI3 (d : Nat) (b0 b1 b2 : Int) (w : World) : (Op.equalIn (d + 2) 39 (.agg #[.int .i64 b0, .int .i64 b1, .int .i64 b2]) (.agg #[.int .i64 b0, .int .i64 b1, .int .i64 b2])).run Try.prog w = .ok true w := by
  rw [show d + 2 = (d + 1) + 1 from rfl]
  unfold Op.equalIn
  simp [run_underlying Try.underlying39, go_sem, part, List.range', List.forIn_cons]
set_option maxRecDepth 100000 in
set_option maxHeartbeats 2000000 in
theorem eqInA4i (d : Nat) (b0 b1 b2 b3 : Int) (w : World) : (Op.equalIn (d + 2) 29 (.agg #[.int .i64 b0, .int .i64 b1, .int .i64 b2, .int .i64 b3]) (.agg #[.int .i64 b0, .int .i64 b1, .int .i64 b2, .int .i64 b3])).run Try.prog w = .ok true w := by
  rw [show d + 2 = (d + 1) + 1 from rfl]
  unfold Op.equalIn
  simp [run_underlying Try.underlying29, go_sem, part, List.range', List.forIn_cons]
set_option maxRecDepth 100000 in
set_option maxHeartbeats 2000000 in
theorem eqInET (d : Nat) (b0 b1 b2 b3 b4 b5 : Int) (w : World) : (Op.equalIn (d + 3) 52 (.agg #[.int .i64 b0, .int .i64 b1, .int .i64 b2, .int .i64 b3, .int .i64 b4, .int .i64 b5]) (.agg #[.int .i64 b0, .int .i64 b1, .int .i64 b2, .int .i64 b3, .int .i64 b4, .int .i64 b5])).run Try.prog w = .ok true w := by
  have h0 := eqInPt13 (d + 0)
  rw [show d + 3 = (d + 2) + 1 from rfl]
  unfold Op.equalIn
  simp [run_underlying Try.underlying52, go_sem, part, List.range', List.forIn_cons, h0]
set_option maxRecDepth 100000 in
set_option maxHeartbeats 2000000 in
theorem eqInP32 (d : Nat) (b0 b1 b2 b3 b4 b5 : Int) (w : World) : (Op.equalIn (d + 3) 38 (.agg #[.int .i64 b0, .int .i64 b1, .int .i64 b2, .int .i64 b3, .int .i64 b4, .int .i64 b5]) (.agg #[.int .i64 b0, .int .i64 b1, .int .i64 b2, .int .i64 b3, .int .i64 b4, .int .i64 b5])).run Try.prog w = .ok true w := by
  have h0 := eqInP2i (d + 0)
  rw [show d + 3 = (d + 2) + 1 from rfl]
  unfold Op.equalIn
  simp [run_underlying Try.underlying38, go_sem, part, List.range', List.forIn_cons, h0]
set_option maxRecDepth 100000 in
set_option maxHeartbeats 2000000 in
theorem eqInV3c (d : Nat) (b0 b1 b2 b3 b4 b5 b6 b7 b8 b9 b10 b11 : Int) (w : World) : (Op.equalIn (d + 3) 53 (.agg #[.int .i64 b0, .int .i64 b1, .int .i64 b2, .int .i64 b3, .int .i64 b4, .int .i64 b5, .int .i64 b6, .int .i64 b7, .int .i64 b8, .int .i64 b9, .int .i64 b10, .int .i64 b11]) (.agg #[.int .i64 b0, .int .i64 b1, .int .i64 b2, .int .i64 b3, .int .i64 b4, .int .i64 b5, .int .i64 b6, .int .i64 b7, .int .i64 b8, .int .i64 b9, .int .i64 b10, .int .i64 b11])).run Try.prog w = .ok true w := by
  have h0 := eqInV (d + 0)
  rw [show d + 3 = (d + 2) + 1 from rfl]
  unfold Op.equalIn
  simp [run_underlying Try.underlying53, go_sem, part, List.range', List.forIn_cons, h0]
set_option maxRecDepth 100000 in
set_option maxHeartbeats 2000000 in
theorem eqInA34 (d : Nat) (b0 b1 b2 b3 b4 b5 b6 b7 b8 b9 b10 b11 : Int) (w : World) : (Op.equalIn (d + 3) 40 (.agg #[.int .i64 b0, .int .i64 b1, .int .i64 b2, .int .i64 b3, .int .i64 b4, .int .i64 b5, .int .i64 b6, .int .i64 b7, .int .i64 b8, .int .i64 b9, .int .i64 b10, .int .i64 b11]) (.agg #[.int .i64 b0, .int .i64 b1, .int .i64 b2, .int .i64 b3, .int .i64 b4, .int .i64 b5, .int .i64 b6, .int .i64 b7, .int .i64 b8, .int .i64 b9, .int .i64 b10, .int .i64 b11])).run Try.prog w = .ok true w := by
  have h0 := eqInA4i (d + 0)
  rw [show d + 3 = (d + 2) + 1 from rfl]
  unfold Op.equalIn
  simp [run_underlying Try.underlying40, go_sem, part, List.range', List.forIn_cons, h0]
set_option maxRecDepth 100000 in
set_option maxHeartbeats 2000000 in
theorem eqInT55 (d : Nat) (b0 b1 b2 b3 b4 b5 b6 b7 b8 b9 b10 b11 b12 b13 b14 b15 b16 b17 b18 b19 b20 b21 b22 b23 : Int) (w : World) : (Op.equalIn (d + 4) 55 (.agg #[.int .i64 b0, .int .i64 b1, .int .i64 b2, .int .i64 b3, .int .i64 b4, .int .i64 b5, .int .i64 b6, .int .i64 b7, .int .i64 b8, .int .i64 b9, .int .i64 b10, .int .i64 b11, .int .i64 b12, .int .i64 b13, .int .i64 b14, .int .i64 b15, .int .i64 b16, .int .i64 b17, .int .i64 b18, .int .i64 b19, .int .i64 b20, .int .i64 b21, .int .i64 b22, .int .i64 b23]) (.agg #[.int .i64 b0, .int .i64 b1, .int .i64 b2, .int .i64 b3, .int .i64 b4, .int .i64 b5, .int .i64 b6, .int .i64 b7, .int .i64 b8, .int .i64 b9, .int .i64 b10, .int .i64 b11, .int .i64 b12, .int .i64 b13, .int .i64 b14, .int .i64 b15, .int .i64 b16, .int .i64 b17, .int .i64 b18, .int .i64 b19, .int .i64 b20, .int .i64 b21, .int .i64 b22, .int .i64 b23])).run Try.prog w = .ok true w := by
  have h0 := eqInET (d + 0)
  have h1 := eqInI3 (d + 1)
  have h2 := eqInV3c (d + 0)
  rw [show d + 4 = (d + 3) + 1 from rfl]
  unfold Op.equalIn
  simp [run_underlying Try.underlying55, go_sem, part, List.forIn_cons, h0, h1, h2]
set_option maxRecDepth 100000 in
set_option maxHeartbeats 2000000 in
theorem eqInT42 (d : Nat) (b0 b1 b2 b3 b4 b5 b6 b7 b8 b9 b10 b11 b12 b13 b14 b15 b16 b17 b18 b19 b20 b21 b22 b23 : Int) (w : World) : (Op.equalIn (d + 4) 42 (.agg #[.int .i64 b0, .int .i64 b1, .int .i64 b2, .int .i64 b3, .int .i64 b4, .int .i64 b5, .int .i64 b6, .int .i64 b7, .int .i64 b8, .int .i64 b9, .int .i64 b10, .int .i64 b11, .int .i64 b12, .int .i64 b13, .int .i64 b14, .int .i64 b15, .int .i64 b16, .int .i64 b17, .int .i64 b18, .int .i64 b19, .int .i64 b20, .int .i64 b21, .int .i64 b22, .int .i64 b23]) (.agg #[.int .i64 b0, .int .i64 b1, .int .i64 b2, .int .i64 b3, .int .i64 b4, .int .i64 b5, .int .i64 b6, .int .i64 b7, .int .i64 b8, .int .i64 b9, .int .i64 b10, .int .i64 b11, .int .i64 b12, .int .i64 b13, .int .i64 b14, .int .i64 b15, .int .i64 b16, .int .i64 b17, .int .i64 b18, .int .i64 b19, .int .i64 b20, .int .i64 b21, .int .i64 b22, .int .i64 b23])).run Try.prog w = .ok true w := by
  have h0 := eqInP32 (d + 0)
  have h1 := eqInI3 (d + 1)
  have h2 := eqInA34 (d + 0)
  rw [show d + 4 = (d + 3) + 1 from rfl]
  unfold Op.equalIn
  simp [run_underlying Try.underlying42, go_sem, part, List.forIn_cons, h0, h1, h2]
theorem eqT55 (b0 b1 b2 b3 b4 b5 b6 b7 b8 b9 b10 b11 b12 b13 b14 b15 b16 b17 b18 b19 b20 b21 b22 b23 : Int) (w : World) : (Op.equalIn 10000 55 (.agg #[.int .i64 b0, .int .i64 b1, .int .i64 b2, .int .i64 b3, .int .i64 b4, .int .i64 b5, .int .i64 b6, .int .i64 b7, .int .i64 b8, .int .i64 b9, .int .i64 b10, .int .i64 b11, .int .i64 b12, .int .i64 b13, .int .i64 b14, .int .i64 b15, .int .i64 b16, .int .i64 b17, .int .i64 b18, .int .i64 b19, .int .i64 b20, .int .i64 b21, .int .i64 b22, .int .i64 b23]) (.agg #[.int .i64 b0, .int .i64 b1, .int .i64 b2, .int .i64 b3, .int .i64 b4, .int .i64 b5, .int .i64 b6, .int .i64 b7, .int .i64 b8, .int .i64 b9, .int .i64 b10, .int .i64 b11, .int .i64 b12, .int .i64 b13, .int .i64 b14, .int .i64 b15, .int .i64 b16, .int .i64 b17, .int .i64 b18, .int .i64 b19, .int .i64 b20, .int .i64 b21, .int .i64 b22, .int .i64 b23])).run Try.prog w = .ok true w := eqInT55 9996 b0 b1 b2 b3 b4 b5 b6 b7 b8 b9 b10 b11 b12 b13 b14 b15 b16 b17 b18 b19 b20 b21 b22 b23 w
theorem eqT42 (b0 b1 b2 b3 b4 b5 b6 b7 b8 b9 b10 b11 b12 b13 b14 b15 b16 b17 b18 b19 b20 b21 b22 b23 : Int) (w : World) : (Op.equalIn 10000 42 (.agg #[.int .i64 b0, .int .i64 b1, .int .i64 b2, .int .i64 b3, .int .i64 b4, .int .i64 b5, .int .i64 b6, .int .i64 b7, .int .i64 b8, .int .i64 b9, .int .i64 b10, .int .i64 b11, .int .i64 b12, .int .i64 b13, .int .i64 b14, .int .i64 b15, .int .i64 b16, .int .i64 b17, .int .i64 b18, .int .i64 b19, .int .i64 b20, .int .i64 b21, .int .i64 b22, .int .i64 b23]) (.agg #[.int .i64 b0, .int .i64 b1, .int .i64 b2, .int .i64 b3, .int .i64 b4, .int .i64 b5, .int .i64 b6, .int .i64 b7, .int .i64 b8, .int .i64 b9, .int .i64 b10, .int .i64 b11, .int .i64 b12, .int .i64 b13, .int .i64 b14, .int .i64 b15, .int .i64 b16, .int .i64 b17, .int .i64 b18, .int .i64 b19, .int .i64 b20, .int .i64 b21, .int .i64 b22, .int .i64 b23])).run Try.prog w = .ok true w := eqInT42 9996 b0 b1 b2 b3 b4 b5 b6 b7 b8 b9 b10 b11 b12 b13 b14 b15 b16 b17 b18 b19 b20 b21 b22 b23 w
end Go.Proofs.Ytglehnmkdapnpaa

