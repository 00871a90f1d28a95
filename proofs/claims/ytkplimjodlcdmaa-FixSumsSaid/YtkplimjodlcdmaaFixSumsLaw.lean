/-
  DERIVED. The walk of the law FixSums: it returns true, whatever the numbers.
-/
import Derived.Test.YtkplimjodlcdmaaFixAid
namespace Go.Proofs.Ytkplimjodlcdmaa
open Go.RowKit
set_option linter.unusedVariables false

set_option maxHeartbeats 400000 in
theorem fixSums_walk (a0 : Int) (a1 : Int) (a2 : Int) (a3 : Int) (w0 : (Lit.int .i64 a0).wf = true) (w1 : (Lit.int .i64 a1).wf = true) (w2 : (Lit.int .i32 a2).wf = true) (w3 : (Lit.int .i32 a3).wf = true) (w : World) :
    Calls Try.prog 3 #[.int .i64 a0, .int .i64 a1, .int .i32 a2, .int .i32 a3] w fun e w' => e = .returned (.bool true) ∧ Grown w w' := by
  obtain ⟨x1, x2⟩ := bd64 w0
  obtain ⟨y1, y2⟩ := bd64 w1
  obtain ⟨x3, x4⟩ := bd32 w2
  obtain ⟨y3, y4⟩ := bd32 w3
  clear w0 w1 w2 w3
  obtain ⟨c1, c2⟩ := clampZ_bd a0
  obtain ⟨c3, c4⟩ := clampZ_bd a1
  obtain ⟨c5, c6⟩ := clampZ_bd a2
  obtain ⟨c7, c8⟩ := clampZ_bd a3
  go_enter Try.func3, Try.ntmps3
  go_wp2_with fail
  with_reducible refine (awake_any _).mono ?_
  rintro e w' ⟨rfl, hq⟩
  go_wp2
  refine wp_loop_rounds 3 ?_
  rw [rounds_succ]
  go_wp2
  go_quiet ((go_at_call 9; exact quiet_eq (rclamp_any _ _ (by omega) (by omega))))
  go_wp2_with fail
  with_reducible refine (clamp_any _ _ (by omega) (by omega)).mono ?_
  rintro e w1 ⟨rfl, rfl⟩
  go_wp2_with fail
  with_reducible refine (add_any _ _ _ (by omega) (by omega) (by omega) (by omega)).mono ?_
  rintro e w1 ⟨rfl, rfl⟩
  go_wp2_with fail
  with_reducible refine (rclamp_any _ _ (by omega) (by omega)).mono ?_
  rintro e w1 ⟨rfl, rfl⟩
  rw [← addZ]
  go_wp2_with fail
  with_reducible refine (sub_any _ _ _ (by omega) (by omega) (by omega) (by omega)).mono ?_
  rintro e w1 ⟨rfl, rfl⟩
  go_wp2_with fail
  with_reducible refine (rclamp_any _ _ (by omega) (by omega)).mono ?_
  rintro e w1 ⟨rfl, rfl⟩
  rw [← subZ]
  go_wp2_with fail
  with_reducible refine (mul_any _ _ _ (by omega) (by omega) (by omega) (by omega)).mono ?_
  rintro e w1 ⟨rfl, n1, rfl⟩
  go_wp2_with fail
  with_reducible refine (rmul_any _ _ _ (by omega) (by omega) (by omega) (by omega)).mono ?_
  rintro e w1 ⟨rfl, rfl⟩
  rw [mulZ_clamp]
  go_wp2
  rw [rounds_succ]
  go_wp2
  go_quiet ((go_at_call 9; exact quiet_eq (rclamp_any _ _ (by omega) (by omega))))
  go_wp2_with fail
  with_reducible refine (clamp_any _ _ (by omega) (by omega)).mono ?_
  rintro e w1 ⟨rfl, rfl⟩
  go_wp2_with fail
  with_reducible refine (add_any _ _ _ (by omega) (by omega) (by omega) (by omega)).mono ?_
  rintro e w1 ⟨rfl, rfl⟩
  go_wp2_with fail
  with_reducible refine (rclamp_any _ _ (by omega) (by omega)).mono ?_
  rintro e w1 ⟨rfl, rfl⟩
  rw [← addZ]
  go_wp2_with fail
  with_reducible refine (sub_any _ _ _ (by omega) (by omega) (by omega) (by omega)).mono ?_
  rintro e w1 ⟨rfl, rfl⟩
  go_wp2_with fail
  with_reducible refine (rclamp_any _ _ (by omega) (by omega)).mono ?_
  rintro e w1 ⟨rfl, rfl⟩
  rw [← subZ]
  go_wp2_with fail
  with_reducible refine (mul_any _ _ _ (by omega) (by omega) (by omega) (by omega)).mono ?_
  rintro e w1 ⟨rfl, n2, rfl⟩
  go_wp2_with fail
  with_reducible refine (rmul_any _ _ _ (by omega) (by omega) (by omega) (by omega)).mono ?_
  rintro e w1 ⟨rfl, rfl⟩
  rw [mulZ_clamp]
  go_wp2
  rw [rounds_succ]
  go_wp2
  go_ret
  exact ⟨rfl, by repeat (first | exact hq.grown | refine grownN ?_ _ | apply Grown.alloc | apply Grown.drew)⟩

end Go.Proofs.Ytkplimjodlcdmaa
