/-
  DERIVED. '==' on points; small triangles: what the laws of layer 3 share.
-/
import Derived.Test.YtbhgebflknafbaaEdgeOwn
import Derived.Laws.StructEq
namespace Go.Proofs.Ytbhgebflknafbaa
open Go.RowKit
set_option linter.unusedVariables false

theorem eqP (x0 y0 x1 y1 : Int) (w : World) : (Op.equalIn 10000 23 (.agg #[.int .i64 x0, .int .i64 y0]) (.agg #[.int .i64 x1, .int .i64 y1])).run Try.prog w = .ok (x0 == x1 && y0 == y1) w := by
  show (Op.equalIn (9999 + 1) _ _ _).run Try.prog w = _
  unfold Op.equalIn
  simp [run_underlying Try.underlying23, go_sem, part]
  cases h1 : (x0 == x1) <;> cases h2 : (y0 == y1) <;> simp_all
theorem nr8 {x : Int} (h : -128 ≤ x ∧ x ≤ 127) : nr x = x := nr_id (by omega) (by omega)
theorem sd_turn (ax ay bx by' cx cy : Int) : sd bx by' cx cy ax ay = sd ax ay bx by' cx cy := Edge.side_turn _ _ _ _ _ _
theorem sd_swap (ax ay bx by' cx cy : Int) : sd ax ay cx cy bx by' = - sd ax ay bx by' cx cy := Edge.side_swap _ _ _ _ _ _
theorem sd_anti (ax ay bx by' px py : Int) : sd bx by' ax ay px py = - sd ax ay bx by' px py := Edge.side_anti _ _ _ _ _ _
theorem covB_turn (ax ay bx by' cx cy px py : Int) : covB bx by' cx cy ax ay px py = covB ax ay bx by' cx cy px py := by
  rw [Bool.eq_iff_iff, covB_iff, covB_iff]; exact Edge.cov_turn
theorem covB_no {ax ay bx by' cx cy : Int} (h : sd ax ay bx by' cx cy ≤ 0) (px py : Int) : covB ax ay bx by' cx cy px py = false := by
  unfold covB; rw [decide_eq_false (by omega)]; rfl
theorem ownB_other {ax ay bx by' : Int} (h : ¬ (nr ax = nr bx ∧ nr ay = nr by')) : ownB bx by' ax ay = !ownB ax ay bx by' := by
  have h1 := Edge.own_either h
  have h2 := ownB_iff ax ay bx by'
  have h3 := ownB_iff bx by' ax ay
  cases e1 : ownB ax ay bx by' <;> cases e2 : ownB bx by' ax ay <;> simp_all
end Go.Proofs.Ytbhgebflknafbaa
