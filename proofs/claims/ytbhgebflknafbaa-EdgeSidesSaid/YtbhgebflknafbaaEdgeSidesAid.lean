/-
  DERIVED. The law EdgeSides: its own functions; the slice that it goes through.
-/
import Derived.Test.YtbhgebflknafbaaEdgeAid
import Derived.Test.YtbhgebflknafbaaEdgeRefCovers
import Derived.Test.YtbhgebflknafbaaCalmMine
import Derived.Deep.RegionHeld3
import Derived.Deep.DeepCutAuto
import Derived.Deep.CutBlock
namespace Go.Proofs.Ytbhgebflknafbaa
open Go.RowKit
set_option linter.unusedVariables false

set_option maxHeartbeats 1000000 in
theorem lawref_any (t0 t1 t2 t3 t4 t5 : Int) (w : World) :
    Calls Try.prog 11 #[.agg #[.int .i64 t0, .int .i64 t1, .int .i64 t2, .int .i64 t3, .int .i64 t4, .int .i64 t5]] w fun e w' => e = .returned (.agg #[.int .i64 t0, .int .i64 t1, .int .i64 t2, .int .i64 t3, .int .i64 t4, .int .i64 t5]) ∧ Ext w w' := by
  go_enter Try.func11, Try.ntmps11
  go_wp2
  refine bodyPost_ret (v := .agg #[.int .i64 t0, .int .i64 t1, .int .i64 t2, .int .i64 t3, .int .i64 t4, .int .i64 t5]) (by simp [results, Try.results11, go_sem]) rfl ⟨rfl, ?_⟩
  repeat (first | exact Ext.refl _ | apply Ext.drew | apply Ext.drewN | apply Ext.alloc)
set_option maxHeartbeats 400000 in
theorem lawnear_any (a : Int) (w : World) (h : -9223372036854775808 ≤ a ∧ a ≤ 9223372036854775807) :
    Calls Try.prog 20 #[.int .i64 a] w fun e w' => e = .returned (.int .i64 (nr a)) ∧ w = w' := by
  go_enter Try.func20, Try.ntmps20
  go_wp2
  all_goals (go_ret; exact ⟨ret_int (by unfold nr; omega), rfl⟩)
theorem eqInP (d : Nat) (x y : Int) (w : World) : (Op.equalIn (d + 2) 23 (.agg #[.int .i64 x, .int .i64 y]) (.agg #[.int .i64 x, .int .i64 y])).run Try.prog w = .ok true w := by
  unfold Op.equalIn
  simp [run_underlying Try.underlying23, go_sem, part]
theorem eqInT (d : Nat) (t0 t1 t2 t3 t4 t5 : Int) (w : World) : (Op.equalIn (d + 3) 25 (.agg #[.int .i64 t0, .int .i64 t1, .int .i64 t2, .int .i64 t3, .int .i64 t4, .int .i64 t5]) (.agg #[.int .i64 t0, .int .i64 t1, .int .i64 t2, .int .i64 t3, .int .i64 t4, .int .i64 t5])).run Try.prog w = .ok true w := by
  have h := eqInP d
  rw [show d + 3 = (d + 2) + 1 from rfl]
  unfold Op.equalIn
  simp [run_underlying Try.underlying25, go_sem, part, List.range', List.forIn_cons, h]
theorem eqT (t0 t1 t2 t3 t4 t5 : Int) (w : World) : (Op.equalIn 10000 25 (.agg #[.int .i64 t0, .int .i64 t1, .int .i64 t2, .int .i64 t3, .int .i64 t4, .int .i64 t5]) (.agg #[.int .i64 t0, .int .i64 t1, .int .i64 t2, .int .i64 t3, .int .i64 t4, .int .i64 t5])).run Try.prog w = .ok true w := eqInT 9997 t0 t1 t2 t3 t4 t5 w
end Go.Proofs.Ytbhgebflknafbaa
