/-
  DERIVED. THE WALKS of layer 2 (vec): Dot, and the document's own.
-/
import Derived.Test.YthpobegfiflppaaVecMeths
import Derived.Test.YthpobegfiflppaaFixSmall
import Derived.Test.YthpobegfiflppaaVecIdx
namespace Go.Proofs.Ythpobegfiflppaa
open Go.RowKit
set_option linter.unusedVariables false

def dotZ (a0 a1 a2 a3 b0 b1 b2 b3 : Int) : Int := addZ (addZ (addZ (mulZ a0 b0) (mulZ a1 b1)) (mulZ a2 b2)) (mulZ a3 b3)
theorem addZ_bd (a b : Int) : -2147483647 ≤ addZ a b ∧ addZ a b ≤ 2147483647 := clampZ_bd _
theorem mulZ_bd (a b : Int) : -2147483647 ≤ mulZ a b ∧ mulZ a b ≤ 2147483647 := clampZ_bd _
theorem dotZ_bd (a0 a1 a2 a3 b0 b1 b2 b3 : Int) : -2147483647 ≤ dotZ a0 a1 a2 a3 b0 b1 b2 b3 ∧ dotZ a0 a1 a2 a3 b0 b1 b2 b3 ≤ 2147483647 := clampZ_bd _
theorem addZ_zero_mul (a b : Int) : addZ 0 (mulZ a b) = mulZ a b := by
  have := mulZ_bd a b
  unfold addZ clampZ; omega

set_option maxHeartbeats 800000 in
theorem dot_any ( a0 a1 a2 a3 b0 b1 b2 b3 : Int)  (ha0 : -9223372036854775808 ≤ a0 ∧ a0 ≤ 9223372036854775807) (hb0 : -9223372036854775808 ≤ b0 ∧ b0 ≤ 9223372036854775807) (ha1 : -9223372036854775808 ≤ a1 ∧ a1 ≤ 9223372036854775807) (hb1 : -9223372036854775808 ≤ b1 ∧ b1 ≤ 9223372036854775807) (ha2 : -9223372036854775808 ≤ a2 ∧ a2 ≤ 9223372036854775807) (hb2 : -9223372036854775808 ≤ b2 ∧ b2 ≤ 9223372036854775807) (ha3 : -9223372036854775808 ≤ a3 ∧ a3 ≤ 9223372036854775807) (hb3 : -9223372036854775808 ≤ b3 ∧ b3 ≤ 9223372036854775807) (w : World) :
    Calls Try.prog 17 #[.agg #[.int .i64 a0, .int .i64 a1, .int .i64 a2, .int .i64 a3], .agg #[.int .i64 b0, .int .i64 b1, .int .i64 b2, .int .i64 b3]] w
      fun e w' => e = .returned (.int .i64 (dotZ a0 a1 a2 a3 b0 b1 b2 b3)) ∧ Ext w w' := by
  have m0 := mulZ_bd a0 b0
  have m1 := mulZ_bd a1 b1
  have m2 := mulZ_bd a2 b2
  have m3 := mulZ_bd a3 b3
  have s1 := addZ_bd (mulZ a0 b0) (mulZ a1 b1)
  have s2 := addZ_bd (addZ (mulZ a0 b0) (mulZ a1 b1)) (mulZ a2 b2)
  have hI := idxV
  go_enter Try.func17, Try.ntmps17
  go_wp2_with fail
  with_reducible refine (vec_mulZ _ _ _ _ _ _ _ _ (by omega) (by omega) (by omega) (by omega) (by omega) (by omega) (by omega) (by omega) _).mono ?_
  rintro e w1 ⟨rfl, hx⟩
  go_wp2
  refine wp_loop_rounds 5 ?_
  rw [rounds_succ]
  go_wp2_with fail
  with_reducible refine (add_any _ _ _ (by omega) (by omega) (by omega) (by omega)).mono ?_
  rintro e w2 ⟨rfl, rfl⟩
  rw [addZ_zero_mul]
  go_wp2
  rw [rounds_succ]
  go_wp2_with fail
  with_reducible refine (add_any _ _ _ (by omega) (by omega) (by omega) (by omega)).mono ?_
  rintro e w2 ⟨rfl, rfl⟩
  go_wp2
  rw [rounds_succ]
  go_wp2_with fail
  with_reducible refine (add_any _ _ _ (by omega) (by omega) (by omega) (by omega)).mono ?_
  rintro e w2 ⟨rfl, rfl⟩
  go_wp2
  rw [rounds_succ]
  go_wp2_with fail
  with_reducible refine (add_any _ _ _ (by omega) (by omega) (by omega) (by omega)).mono ?_
  rintro e w2 ⟨rfl, rfl⟩
  go_wp2
  rw [rounds_succ]
  go_wp2
  go_ret
  refine ⟨rfl, Ext.trans ?_ hx⟩
  repeat (first | exact Ext.refl _ | apply Ext.drew | apply Ext.drewN | apply Ext.alloc)

set_option maxHeartbeats 400000 in
theorem radd_any (a b : Int) (w : World) (h1 : -9223372036854775808 ≤ a) (h2 : a ≤ 9223372036854775807) (h3 : -9223372036854775808 ≤ b) (h4 : b ≤ 9223372036854775807) :
    Calls Try.prog 32 #[.int .i64 a, .int .i64 b] w fun e w' => e = .returned (.int .i64 (addZ a b)) ∧ w = w' := by
  obtain ⟨ca1, ca2⟩ := clampZ_bd a
  obtain ⟨cb1, cb2⟩ := clampZ_bd b
  go_enter Try.func32, Try.ntmps32
  go_wp2_with fail
  with_reducible refine (rclamp_any _ _ (by omega) (by omega)).mono ?_
  rintro e w' ⟨rfl, rfl⟩
  go_wp2_with fail
  with_reducible refine (rclamp_any _ _ (by omega) (by omega)).mono ?_
  rintro e w' ⟨rfl, rfl⟩
  go_wp2_with fail
  with_reducible refine (rclamp_any _ _ (by omega) (by omega)).mono ?_
  rintro e w' ⟨rfl, rfl⟩
  go_wp2
  go_ret
  exact ⟨rfl, rfl⟩

set_option maxHeartbeats 800000 in
theorem rdot_any ( a0 a1 a2 a3 b0 b1 b2 b3 : Int)  (ha0 : -9223372036854775808 ≤ a0 ∧ a0 ≤ 9223372036854775807) (hb0 : -9223372036854775808 ≤ b0 ∧ b0 ≤ 9223372036854775807) (ha1 : -9223372036854775808 ≤ a1 ∧ a1 ≤ 9223372036854775807) (hb1 : -9223372036854775808 ≤ b1 ∧ b1 ≤ 9223372036854775807) (ha2 : -9223372036854775808 ≤ a2 ∧ a2 ≤ 9223372036854775807) (hb2 : -9223372036854775808 ≤ b2 ∧ b2 ≤ 9223372036854775807) (ha3 : -9223372036854775808 ≤ a3 ∧ a3 ≤ 9223372036854775807) (hb3 : -9223372036854775808 ≤ b3 ∧ b3 ≤ 9223372036854775807) (w : World) :
    Calls Try.prog 18 #[.agg #[.int .i64 a0, .int .i64 a1, .int .i64 a2, .int .i64 a3], .agg #[.int .i64 b0, .int .i64 b1, .int .i64 b2, .int .i64 b3]] w
      fun e w' => e = .returned (.int .i64 (dotZ a0 a1 a2 a3 b0 b1 b2 b3)) ∧ Ext w w' := by
  have m0 := mulZ_bd a0 b0
  have m1 := mulZ_bd a1 b1
  have m2 := mulZ_bd a2 b2
  have m3 := mulZ_bd a3 b3
  have s1 := addZ_bd (mulZ a0 b0) (mulZ a1 b1)
  have s2 := addZ_bd (addZ (mulZ a0 b0) (mulZ a1 b1)) (mulZ a2 b2)
  go_enter Try.func18, Try.ntmps18
  go_wp2
  go_quiet (first | (go_at_call 16; exact quiet_eq (rmul_any _ _ _ (by omega) (by omega) (by omega) (by omega))) | (go_at_call 32; exact quiet_eq (radd_any _ _ _ (by omega) (by omega) (by omega) (by omega))))
  go_wp2
  go_ret
  refine ⟨rfl, ?_⟩
  repeat (first | exact Ext.refl _ | apply Ext.drew | apply Ext.drewN | apply Ext.alloc)

end Go.Proofs.Ythpobegfiflppaa
