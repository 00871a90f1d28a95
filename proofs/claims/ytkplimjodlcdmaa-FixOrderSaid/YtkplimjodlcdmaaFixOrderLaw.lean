/-
  DERIVED. The walk of the law FixOrder: it returns true, whatever the numbers.
-/
import Derived.Test.YtkplimjodlcdmaaFixAid
import Derived.Test.YtkplimjodlcdmaaFixSmall
namespace Go.Proofs.Ytkplimjodlcdmaa
open Go.RowKit
set_option linter.unusedVariables false

set_option maxHeartbeats 1000000 in
theorem fixOrder_lt_neg (a b c : Int) (x1 : -2147483648 ≤ a) (x2 : a ≤ 2147483647) (y1 : -2147483648 ≤ b) (y2 : b ≤ 2147483647) (z1 : -2147483648 ≤ c) (z2 : c ≤ 2147483647) (hab : a < b) (hc : c < 0) (w : World) :
    Calls Try.prog 6 #[.int .i32 a, .int .i32 b, .int .i32 c] w fun e w' => e = .returned (.bool true) ∧ Grown w w' := by
  have hc2 : c ≤ 0 := by omega
  have o1 := addZ_mono (a := a) (b := b) c (by omega)
  have o2 := subZ_mono (a := a) (b := b) c (by omega)
  have HW := Lib.hid (whole_of (q := a / 65536) (by omega) (by omega))
  obtain ⟨k1, k2⟩ := clampZ_bd (65536 * withinZ (a / 65536) 65536)
  go_enter Try.func6, Try.ntmps6
  go_wp2_with fail
  with_reducible refine (awake_any _ ).mono ?_
  rintro e w1 ⟨rfl, n1, rfl⟩
  go_wp2_with fail
  with_reducible refine (add_any _ _ _ (by omega) (by omega) (by omega) (by omega)).mono ?_
  rintro e w1 ⟨rfl, rfl⟩
  go_wp2_with fail
  with_reducible refine (add_any _ _ _ (by omega) (by omega) (by omega) (by omega)).mono ?_
  rintro e w1 ⟨rfl, rfl⟩
  go_wp2_with fail
  with_reducible refine (sub_any _ _ _ (by omega) (by omega) (by omega) (by omega)).mono ?_
  rintro e w1 ⟨rfl, rfl⟩
  go_wp2_with fail
  with_reducible refine (sub_any _ _ _ (by omega) (by omega) (by omega) (by omega)).mono ?_
  rintro e w1 ⟨rfl, rfl⟩
  go_wp2_with fail
  with_reducible refine (add_any _ _ _ (by omega) (by omega) (by omega) (by omega)).mono ?_
  rintro e w1 ⟨rfl, rfl⟩
  go_wp2_with fail
  with_reducible refine (add_any _ _ _ (by omega) (by omega) (by omega) (by omega)).mono ?_
  rintro e w1 ⟨rfl, rfl⟩
  rw [addZ_comm c a]
  go_wp2_with fail
  with_reducible refine (mul_any _ _ _ (by omega) (by omega) (by omega) (by omega)).mono ?_
  rintro e w1 ⟨rfl, n1, rfl⟩
  go_wp2_with fail
  with_reducible refine (mul_any _ _ _ (by omega) (by omega) (by omega) (by omega)).mono ?_
  rintro e w1 ⟨rfl, n1, rfl⟩
  rw [mulZ_comm c a]
  iterate 14 (first | go_values | go_skip | go_guarded | go_step | go_upon | go_back | go_simp)
  simp only [List.append_eq, List.nil_append]
  go_wp2_with fail
  with_reducible refine (mul_any _ _ _ (by omega) (by omega) (by omega) (by omega)).mono ?_
  rintro e w1 ⟨rfl, n1, rfl⟩
  rw [mulZ_one a]
  go_wp2_with fail
  with_reducible refine (clamp_any _ _ (by omega) (by omega)).mono ?_
  rintro e w1 ⟨rfl, rfl⟩
  go_wp2_with fail
  with_reducible refine (of_any _ _ (by omega) (by omega)).mono ?_
  rintro e w1 ⟨rfl, rfl⟩
  go_wp2_with fail
  with_reducible refine (whole_any _ _ (by omega) (by omega)).mono ?_
  rintro e w1 ⟨rfl, n1, rfl⟩
  rw [HW.out]
  go_wp2
  go_ret
  exact ⟨rfl, by repeat (first | exact Grown.refl _ | refine grownN ?_ _ | apply Grown.alloc | apply Grown.drew)⟩

set_option maxHeartbeats 1000000 in
theorem fixOrder_lt_zero (a b c : Int) (x1 : -2147483648 ≤ a) (x2 : a ≤ 2147483647) (y1 : -2147483648 ≤ b) (y2 : b ≤ 2147483647) (z1 : -2147483648 ≤ c) (z2 : c ≤ 2147483647) (hab : a < b) (hc : 0 ≤ c) (hc2 : c ≤ 0) (w : World) :
    Calls Try.prog 6 #[.int .i32 a, .int .i32 b, .int .i32 c] w fun e w' => e = .returned (.bool true) ∧ Grown w w' := by
  have o1 := addZ_mono (a := a) (b := b) c (by omega)
  have o2 := subZ_mono (a := a) (b := b) c (by omega)
  have o3 := mulZ_mono (a := a) (b := b) (c := c) (by omega) (by omega)
  have HW := Lib.hid (whole_of (q := a / 65536) (by omega) (by omega))
  obtain ⟨k1, k2⟩ := clampZ_bd (65536 * withinZ (a / 65536) 65536)
  go_enter Try.func6, Try.ntmps6
  go_wp2_with fail
  with_reducible refine (awake_any _ ).mono ?_
  rintro e w1 ⟨rfl, n1, rfl⟩
  go_wp2_with fail
  with_reducible refine (add_any _ _ _ (by omega) (by omega) (by omega) (by omega)).mono ?_
  rintro e w1 ⟨rfl, rfl⟩
  go_wp2_with fail
  with_reducible refine (add_any _ _ _ (by omega) (by omega) (by omega) (by omega)).mono ?_
  rintro e w1 ⟨rfl, rfl⟩
  go_wp2_with fail
  with_reducible refine (sub_any _ _ _ (by omega) (by omega) (by omega) (by omega)).mono ?_
  rintro e w1 ⟨rfl, rfl⟩
  go_wp2_with fail
  with_reducible refine (sub_any _ _ _ (by omega) (by omega) (by omega) (by omega)).mono ?_
  rintro e w1 ⟨rfl, rfl⟩
  go_wp2_with fail
  with_reducible refine (add_any _ _ _ (by omega) (by omega) (by omega) (by omega)).mono ?_
  rintro e w1 ⟨rfl, rfl⟩
  go_wp2_with fail
  with_reducible refine (add_any _ _ _ (by omega) (by omega) (by omega) (by omega)).mono ?_
  rintro e w1 ⟨rfl, rfl⟩
  rw [addZ_comm c a]
  go_wp2_with fail
  with_reducible refine (mul_any _ _ _ (by omega) (by omega) (by omega) (by omega)).mono ?_
  rintro e w1 ⟨rfl, n1, rfl⟩
  go_wp2_with fail
  with_reducible refine (mul_any _ _ _ (by omega) (by omega) (by omega) (by omega)).mono ?_
  rintro e w1 ⟨rfl, n1, rfl⟩
  rw [mulZ_comm c a]
  go_wp2_with fail
  with_reducible refine (mul_any _ _ _ (by omega) (by omega) (by omega) (by omega)).mono ?_
  rintro e w1 ⟨rfl, n1, rfl⟩
  go_wp2_with fail
  with_reducible refine (mul_any _ _ _ (by omega) (by omega) (by omega) (by omega)).mono ?_
  rintro e w1 ⟨rfl, n1, rfl⟩
  go_wp2_with fail
  with_reducible refine (mul_any _ _ _ (by omega) (by omega) (by omega) (by omega)).mono ?_
  rintro e w1 ⟨rfl, n1, rfl⟩
  rw [mulZ_one a]
  go_wp2_with fail
  with_reducible refine (clamp_any _ _ (by omega) (by omega)).mono ?_
  rintro e w1 ⟨rfl, rfl⟩
  go_wp2_with fail
  with_reducible refine (of_any _ _ (by omega) (by omega)).mono ?_
  rintro e w1 ⟨rfl, rfl⟩
  go_wp2_with fail
  with_reducible refine (whole_any _ _ (by omega) (by omega)).mono ?_
  rintro e w1 ⟨rfl, n1, rfl⟩
  rw [HW.out]
  go_wp2
  go_ret
  exact ⟨rfl, by repeat (first | exact Grown.refl _ | refine grownN ?_ _ | apply Grown.alloc | apply Grown.drew)⟩

set_option maxHeartbeats 1000000 in
theorem fixOrder_lt_pos (a b c : Int) (x1 : -2147483648 ≤ a) (x2 : a ≤ 2147483647) (y1 : -2147483648 ≤ b) (y2 : b ≤ 2147483647) (z1 : -2147483648 ≤ c) (z2 : c ≤ 2147483647) (hab : a < b) (hc : 0 < c) (w : World) :
    Calls Try.prog 6 #[.int .i32 a, .int .i32 b, .int .i32 c] w fun e w' => e = .returned (.bool true) ∧ Grown w w' := by
  have o1 := addZ_mono (a := a) (b := b) c (by omega)
  have o2 := subZ_mono (a := a) (b := b) c (by omega)
  have o3 := mulZ_mono (a := a) (b := b) (c := c) (by omega) (by omega)
  have o4 := divZ_mono (a := a) (b := b) (c := c) (by omega) (by omega)
  have HW := Lib.hid (whole_of (q := a / 65536) (by omega) (by omega))
  obtain ⟨k1, k2⟩ := clampZ_bd (65536 * withinZ (a / 65536) 65536)
  go_enter Try.func6, Try.ntmps6
  go_wp2_with fail
  with_reducible refine (awake_any _ ).mono ?_
  rintro e w1 ⟨rfl, n1, rfl⟩
  go_wp2_with fail
  with_reducible refine (add_any _ _ _ (by omega) (by omega) (by omega) (by omega)).mono ?_
  rintro e w1 ⟨rfl, rfl⟩
  go_wp2_with fail
  with_reducible refine (add_any _ _ _ (by omega) (by omega) (by omega) (by omega)).mono ?_
  rintro e w1 ⟨rfl, rfl⟩
  go_wp2_with fail
  with_reducible refine (sub_any _ _ _ (by omega) (by omega) (by omega) (by omega)).mono ?_
  rintro e w1 ⟨rfl, rfl⟩
  go_wp2_with fail
  with_reducible refine (sub_any _ _ _ (by omega) (by omega) (by omega) (by omega)).mono ?_
  rintro e w1 ⟨rfl, rfl⟩
  go_wp2_with fail
  with_reducible refine (add_any _ _ _ (by omega) (by omega) (by omega) (by omega)).mono ?_
  rintro e w1 ⟨rfl, rfl⟩
  go_wp2_with fail
  with_reducible refine (add_any _ _ _ (by omega) (by omega) (by omega) (by omega)).mono ?_
  rintro e w1 ⟨rfl, rfl⟩
  rw [addZ_comm c a]
  go_wp2_with fail
  with_reducible refine (mul_any _ _ _ (by omega) (by omega) (by omega) (by omega)).mono ?_
  rintro e w1 ⟨rfl, n1, rfl⟩
  go_wp2_with fail
  with_reducible refine (mul_any _ _ _ (by omega) (by omega) (by omega) (by omega)).mono ?_
  rintro e w1 ⟨rfl, n1, rfl⟩
  rw [mulZ_comm c a]
  go_wp2_with fail
  with_reducible refine (mul_any _ _ _ (by omega) (by omega) (by omega) (by omega)).mono ?_
  rintro e w1 ⟨rfl, n1, rfl⟩
  go_wp2_with fail
  with_reducible refine (mul_any _ _ _ (by omega) (by omega) (by omega) (by omega)).mono ?_
  rintro e w1 ⟨rfl, n1, rfl⟩
  go_wp2_with fail
  with_reducible refine (div_any _ _ _ (by omega) (by omega) (by omega) (by omega)).mono ?_
  rintro e w1 ⟨rfl, n1, rfl⟩
  go_wp2_with fail
  with_reducible refine (div_any _ _ _ (by omega) (by omega) (by omega) (by omega)).mono ?_
  rintro e w1 ⟨rfl, n1, rfl⟩
  go_wp2_with fail
  with_reducible refine (mul_any _ _ _ (by omega) (by omega) (by omega) (by omega)).mono ?_
  rintro e w1 ⟨rfl, n1, rfl⟩
  rw [mulZ_one a]
  go_wp2_with fail
  with_reducible refine (clamp_any _ _ (by omega) (by omega)).mono ?_
  rintro e w1 ⟨rfl, rfl⟩
  go_wp2_with fail
  with_reducible refine (of_any _ _ (by omega) (by omega)).mono ?_
  rintro e w1 ⟨rfl, rfl⟩
  go_wp2_with fail
  with_reducible refine (whole_any _ _ (by omega) (by omega)).mono ?_
  rintro e w1 ⟨rfl, n1, rfl⟩
  rw [HW.out]
  go_wp2
  go_ret
  exact ⟨rfl, by repeat (first | exact Grown.refl _ | refine grownN ?_ _ | apply Grown.alloc | apply Grown.drew)⟩

set_option maxHeartbeats 1000000 in
theorem fixOrder_gt_neg (a b c : Int) (x1 : -2147483648 ≤ a) (x2 : a ≤ 2147483647) (y1 : -2147483648 ≤ b) (y2 : b ≤ 2147483647) (z1 : -2147483648 ≤ c) (z2 : c ≤ 2147483647) (hab : b < a) (hc : c < 0) (w : World) :
    Calls Try.prog 6 #[.int .i32 a, .int .i32 b, .int .i32 c] w fun e w' => e = .returned (.bool true) ∧ Grown w w' := by
  have hc2 : c ≤ 0 := by omega
  have o1 := addZ_mono (a := b) (b := a) c (by omega)
  have o2 := subZ_mono (a := b) (b := a) c (by omega)
  have HW := Lib.hid (whole_of (q := b / 65536) (by omega) (by omega))
  obtain ⟨k1, k2⟩ := clampZ_bd (65536 * withinZ (b / 65536) 65536)
  go_enter Try.func6, Try.ntmps6
  go_wp2_with fail
  with_reducible refine (awake_any _ ).mono ?_
  rintro e w1 ⟨rfl, n1, rfl⟩
  go_wp2_with fail
  with_reducible refine (add_any _ _ _ (by omega) (by omega) (by omega) (by omega)).mono ?_
  rintro e w1 ⟨rfl, rfl⟩
  go_wp2_with fail
  with_reducible refine (add_any _ _ _ (by omega) (by omega) (by omega) (by omega)).mono ?_
  rintro e w1 ⟨rfl, rfl⟩
  go_wp2_with fail
  with_reducible refine (sub_any _ _ _ (by omega) (by omega) (by omega) (by omega)).mono ?_
  rintro e w1 ⟨rfl, rfl⟩
  go_wp2_with fail
  with_reducible refine (sub_any _ _ _ (by omega) (by omega) (by omega) (by omega)).mono ?_
  rintro e w1 ⟨rfl, rfl⟩
  go_wp2_with fail
  with_reducible refine (add_any _ _ _ (by omega) (by omega) (by omega) (by omega)).mono ?_
  rintro e w1 ⟨rfl, rfl⟩
  go_wp2_with fail
  with_reducible refine (add_any _ _ _ (by omega) (by omega) (by omega) (by omega)).mono ?_
  rintro e w1 ⟨rfl, rfl⟩
  rw [addZ_comm c b]
  go_wp2_with fail
  with_reducible refine (mul_any _ _ _ (by omega) (by omega) (by omega) (by omega)).mono ?_
  rintro e w1 ⟨rfl, n1, rfl⟩
  go_wp2_with fail
  with_reducible refine (mul_any _ _ _ (by omega) (by omega) (by omega) (by omega)).mono ?_
  rintro e w1 ⟨rfl, n1, rfl⟩
  rw [mulZ_comm c b]
  iterate 14 (first | go_values | go_skip | go_guarded | go_step | go_upon | go_back | go_simp)
  simp only [List.append_eq, List.nil_append]
  go_wp2_with fail
  with_reducible refine (mul_any _ _ _ (by omega) (by omega) (by omega) (by omega)).mono ?_
  rintro e w1 ⟨rfl, n1, rfl⟩
  rw [mulZ_one b]
  go_wp2_with fail
  with_reducible refine (clamp_any _ _ (by omega) (by omega)).mono ?_
  rintro e w1 ⟨rfl, rfl⟩
  go_wp2_with fail
  with_reducible refine (of_any _ _ (by omega) (by omega)).mono ?_
  rintro e w1 ⟨rfl, rfl⟩
  go_wp2_with fail
  with_reducible refine (whole_any _ _ (by omega) (by omega)).mono ?_
  rintro e w1 ⟨rfl, n1, rfl⟩
  rw [HW.out]
  go_wp2
  go_ret
  exact ⟨rfl, by repeat (first | exact Grown.refl _ | refine grownN ?_ _ | apply Grown.alloc | apply Grown.drew)⟩

set_option maxHeartbeats 1000000 in
theorem fixOrder_gt_zero (a b c : Int) (x1 : -2147483648 ≤ a) (x2 : a ≤ 2147483647) (y1 : -2147483648 ≤ b) (y2 : b ≤ 2147483647) (z1 : -2147483648 ≤ c) (z2 : c ≤ 2147483647) (hab : b < a) (hc : 0 ≤ c) (hc2 : c ≤ 0) (w : World) :
    Calls Try.prog 6 #[.int .i32 a, .int .i32 b, .int .i32 c] w fun e w' => e = .returned (.bool true) ∧ Grown w w' := by
  have o1 := addZ_mono (a := b) (b := a) c (by omega)
  have o2 := subZ_mono (a := b) (b := a) c (by omega)
  have o3 := mulZ_mono (a := b) (b := a) (c := c) (by omega) (by omega)
  have HW := Lib.hid (whole_of (q := b / 65536) (by omega) (by omega))
  obtain ⟨k1, k2⟩ := clampZ_bd (65536 * withinZ (b / 65536) 65536)
  go_enter Try.func6, Try.ntmps6
  go_wp2_with fail
  with_reducible refine (awake_any _ ).mono ?_
  rintro e w1 ⟨rfl, n1, rfl⟩
  go_wp2_with fail
  with_reducible refine (add_any _ _ _ (by omega) (by omega) (by omega) (by omega)).mono ?_
  rintro e w1 ⟨rfl, rfl⟩
  go_wp2_with fail
  with_reducible refine (add_any _ _ _ (by omega) (by omega) (by omega) (by omega)).mono ?_
  rintro e w1 ⟨rfl, rfl⟩
  go_wp2_with fail
  with_reducible refine (sub_any _ _ _ (by omega) (by omega) (by omega) (by omega)).mono ?_
  rintro e w1 ⟨rfl, rfl⟩
  go_wp2_with fail
  with_reducible refine (sub_any _ _ _ (by omega) (by omega) (by omega) (by omega)).mono ?_
  rintro e w1 ⟨rfl, rfl⟩
  go_wp2_with fail
  with_reducible refine (add_any _ _ _ (by omega) (by omega) (by omega) (by omega)).mono ?_
  rintro e w1 ⟨rfl, rfl⟩
  go_wp2_with fail
  with_reducible refine (add_any _ _ _ (by omega) (by omega) (by omega) (by omega)).mono ?_
  rintro e w1 ⟨rfl, rfl⟩
  rw [addZ_comm c b]
  go_wp2_with fail
  with_reducible refine (mul_any _ _ _ (by omega) (by omega) (by omega) (by omega)).mono ?_
  rintro e w1 ⟨rfl, n1, rfl⟩
  go_wp2_with fail
  with_reducible refine (mul_any _ _ _ (by omega) (by omega) (by omega) (by omega)).mono ?_
  rintro e w1 ⟨rfl, n1, rfl⟩
  rw [mulZ_comm c b]
  go_wp2_with fail
  with_reducible refine (mul_any _ _ _ (by omega) (by omega) (by omega) (by omega)).mono ?_
  rintro e w1 ⟨rfl, n1, rfl⟩
  go_wp2_with fail
  with_reducible refine (mul_any _ _ _ (by omega) (by omega) (by omega) (by omega)).mono ?_
  rintro e w1 ⟨rfl, n1, rfl⟩
  go_wp2_with fail
  with_reducible refine (mul_any _ _ _ (by omega) (by omega) (by omega) (by omega)).mono ?_
  rintro e w1 ⟨rfl, n1, rfl⟩
  rw [mulZ_one b]
  go_wp2_with fail
  with_reducible refine (clamp_any _ _ (by omega) (by omega)).mono ?_
  rintro e w1 ⟨rfl, rfl⟩
  go_wp2_with fail
  with_reducible refine (of_any _ _ (by omega) (by omega)).mono ?_
  rintro e w1 ⟨rfl, rfl⟩
  go_wp2_with fail
  with_reducible refine (whole_any _ _ (by omega) (by omega)).mono ?_
  rintro e w1 ⟨rfl, n1, rfl⟩
  rw [HW.out]
  go_wp2
  go_ret
  exact ⟨rfl, by repeat (first | exact Grown.refl _ | refine grownN ?_ _ | apply Grown.alloc | apply Grown.drew)⟩

set_option maxHeartbeats 1000000 in
theorem fixOrder_gt_pos (a b c : Int) (x1 : -2147483648 ≤ a) (x2 : a ≤ 2147483647) (y1 : -2147483648 ≤ b) (y2 : b ≤ 2147483647) (z1 : -2147483648 ≤ c) (z2 : c ≤ 2147483647) (hab : b < a) (hc : 0 < c) (w : World) :
    Calls Try.prog 6 #[.int .i32 a, .int .i32 b, .int .i32 c] w fun e w' => e = .returned (.bool true) ∧ Grown w w' := by
  have o1 := addZ_mono (a := b) (b := a) c (by omega)
  have o2 := subZ_mono (a := b) (b := a) c (by omega)
  have o3 := mulZ_mono (a := b) (b := a) (c := c) (by omega) (by omega)
  have o4 := divZ_mono (a := b) (b := a) (c := c) (by omega) (by omega)
  have HW := Lib.hid (whole_of (q := b / 65536) (by omega) (by omega))
  obtain ⟨k1, k2⟩ := clampZ_bd (65536 * withinZ (b / 65536) 65536)
  go_enter Try.func6, Try.ntmps6
  go_wp2_with fail
  with_reducible refine (awake_any _ ).mono ?_
  rintro e w1 ⟨rfl, n1, rfl⟩
  go_wp2_with fail
  with_reducible refine (add_any _ _ _ (by omega) (by omega) (by omega) (by omega)).mono ?_
  rintro e w1 ⟨rfl, rfl⟩
  go_wp2_with fail
  with_reducible refine (add_any _ _ _ (by omega) (by omega) (by omega) (by omega)).mono ?_
  rintro e w1 ⟨rfl, rfl⟩
  go_wp2_with fail
  with_reducible refine (sub_any _ _ _ (by omega) (by omega) (by omega) (by omega)).mono ?_
  rintro e w1 ⟨rfl, rfl⟩
  go_wp2_with fail
  with_reducible refine (sub_any _ _ _ (by omega) (by omega) (by omega) (by omega)).mono ?_
  rintro e w1 ⟨rfl, rfl⟩
  go_wp2_with fail
  with_reducible refine (add_any _ _ _ (by omega) (by omega) (by omega) (by omega)).mono ?_
  rintro e w1 ⟨rfl, rfl⟩
  go_wp2_with fail
  with_reducible refine (add_any _ _ _ (by omega) (by omega) (by omega) (by omega)).mono ?_
  rintro e w1 ⟨rfl, rfl⟩
  rw [addZ_comm c b]
  go_wp2_with fail
  with_reducible refine (mul_any _ _ _ (by omega) (by omega) (by omega) (by omega)).mono ?_
  rintro e w1 ⟨rfl, n1, rfl⟩
  go_wp2_with fail
  with_reducible refine (mul_any _ _ _ (by omega) (by omega) (by omega) (by omega)).mono ?_
  rintro e w1 ⟨rfl, n1, rfl⟩
  rw [mulZ_comm c b]
  go_wp2_with fail
  with_reducible refine (mul_any _ _ _ (by omega) (by omega) (by omega) (by omega)).mono ?_
  rintro e w1 ⟨rfl, n1, rfl⟩
  go_wp2_with fail
  with_reducible refine (mul_any _ _ _ (by omega) (by omega) (by omega) (by omega)).mono ?_
  rintro e w1 ⟨rfl, n1, rfl⟩
  go_wp2_with fail
  with_reducible refine (div_any _ _ _ (by omega) (by omega) (by omega) (by omega)).mono ?_
  rintro e w1 ⟨rfl, n1, rfl⟩
  go_wp2_with fail
  with_reducible refine (div_any _ _ _ (by omega) (by omega) (by omega) (by omega)).mono ?_
  rintro e w1 ⟨rfl, n1, rfl⟩
  go_wp2_with fail
  with_reducible refine (mul_any _ _ _ (by omega) (by omega) (by omega) (by omega)).mono ?_
  rintro e w1 ⟨rfl, n1, rfl⟩
  rw [mulZ_one b]
  go_wp2_with fail
  with_reducible refine (clamp_any _ _ (by omega) (by omega)).mono ?_
  rintro e w1 ⟨rfl, rfl⟩
  go_wp2_with fail
  with_reducible refine (of_any _ _ (by omega) (by omega)).mono ?_
  rintro e w1 ⟨rfl, rfl⟩
  go_wp2_with fail
  with_reducible refine (whole_any _ _ (by omega) (by omega)).mono ?_
  rintro e w1 ⟨rfl, n1, rfl⟩
  rw [HW.out]
  go_wp2
  go_ret
  exact ⟨rfl, by repeat (first | exact Grown.refl _ | refine grownN ?_ _ | apply Grown.alloc | apply Grown.drew)⟩

set_option maxHeartbeats 1000000 in
theorem fixOrder_eq_neg (a c : Int) (x1 : -2147483648 ≤ a) (x2 : a ≤ 2147483647) (z1 : -2147483648 ≤ c) (z2 : c ≤ 2147483647) (hc : c < 0) (w : World) :
    Calls Try.prog 6 #[.int .i32 a, .int .i32 a, .int .i32 c] w fun e w' => e = .returned (.bool true) ∧ Grown w w' := by
  have hc2 : c ≤ 0 := by omega
  have o1 := addZ_mono (a := a) (b := a) c (by omega)
  have o2 := subZ_mono (a := a) (b := a) c (by omega)
  have HW := Lib.hid (whole_of (q := a / 65536) (by omega) (by omega))
  obtain ⟨k1, k2⟩ := clampZ_bd (65536 * withinZ (a / 65536) 65536)
  go_enter Try.func6, Try.ntmps6
  go_wp2_with fail
  with_reducible refine (awake_any _ ).mono ?_
  rintro e w1 ⟨rfl, n1, rfl⟩
  go_wp2_with fail
  with_reducible refine (add_any _ _ _ (by omega) (by omega) (by omega) (by omega)).mono ?_
  rintro e w1 ⟨rfl, rfl⟩
  go_wp2_with fail
  with_reducible refine (add_any _ _ _ (by omega) (by omega) (by omega) (by omega)).mono ?_
  rintro e w1 ⟨rfl, rfl⟩
  go_wp2_with fail
  with_reducible refine (sub_any _ _ _ (by omega) (by omega) (by omega) (by omega)).mono ?_
  rintro e w1 ⟨rfl, rfl⟩
  go_wp2_with fail
  with_reducible refine (sub_any _ _ _ (by omega) (by omega) (by omega) (by omega)).mono ?_
  rintro e w1 ⟨rfl, rfl⟩
  go_wp2_with fail
  with_reducible refine (add_any _ _ _ (by omega) (by omega) (by omega) (by omega)).mono ?_
  rintro e w1 ⟨rfl, rfl⟩
  go_wp2_with fail
  with_reducible refine (add_any _ _ _ (by omega) (by omega) (by omega) (by omega)).mono ?_
  rintro e w1 ⟨rfl, rfl⟩
  rw [addZ_comm c a]
  go_wp2_with fail
  with_reducible refine (mul_any _ _ _ (by omega) (by omega) (by omega) (by omega)).mono ?_
  rintro e w1 ⟨rfl, n1, rfl⟩
  go_wp2_with fail
  with_reducible refine (mul_any _ _ _ (by omega) (by omega) (by omega) (by omega)).mono ?_
  rintro e w1 ⟨rfl, n1, rfl⟩
  rw [mulZ_comm c a]
  iterate 14 (first | go_values | go_skip | go_guarded | go_step | go_upon | go_back | go_simp)
  simp only [List.append_eq, List.nil_append]
  go_wp2_with fail
  with_reducible refine (mul_any _ _ _ (by omega) (by omega) (by omega) (by omega)).mono ?_
  rintro e w1 ⟨rfl, n1, rfl⟩
  rw [mulZ_one a]
  go_wp2_with fail
  with_reducible refine (clamp_any _ _ (by omega) (by omega)).mono ?_
  rintro e w1 ⟨rfl, rfl⟩
  go_wp2_with fail
  with_reducible refine (of_any _ _ (by omega) (by omega)).mono ?_
  rintro e w1 ⟨rfl, rfl⟩
  go_wp2_with fail
  with_reducible refine (whole_any _ _ (by omega) (by omega)).mono ?_
  rintro e w1 ⟨rfl, n1, rfl⟩
  rw [HW.out]
  go_wp2
  go_ret
  exact ⟨rfl, by repeat (first | exact Grown.refl _ | refine grownN ?_ _ | apply Grown.alloc | apply Grown.drew)⟩

set_option maxHeartbeats 1000000 in
theorem fixOrder_eq_zero (a c : Int) (x1 : -2147483648 ≤ a) (x2 : a ≤ 2147483647) (z1 : -2147483648 ≤ c) (z2 : c ≤ 2147483647) (hc : 0 ≤ c) (hc2 : c ≤ 0) (w : World) :
    Calls Try.prog 6 #[.int .i32 a, .int .i32 a, .int .i32 c] w fun e w' => e = .returned (.bool true) ∧ Grown w w' := by
  have o1 := addZ_mono (a := a) (b := a) c (by omega)
  have o2 := subZ_mono (a := a) (b := a) c (by omega)
  have o3 := mulZ_mono (a := a) (b := a) (c := c) (by omega) (by omega)
  have HW := Lib.hid (whole_of (q := a / 65536) (by omega) (by omega))
  obtain ⟨k1, k2⟩ := clampZ_bd (65536 * withinZ (a / 65536) 65536)
  go_enter Try.func6, Try.ntmps6
  go_wp2_with fail
  with_reducible refine (awake_any _ ).mono ?_
  rintro e w1 ⟨rfl, n1, rfl⟩
  go_wp2_with fail
  with_reducible refine (add_any _ _ _ (by omega) (by omega) (by omega) (by omega)).mono ?_
  rintro e w1 ⟨rfl, rfl⟩
  go_wp2_with fail
  with_reducible refine (add_any _ _ _ (by omega) (by omega) (by omega) (by omega)).mono ?_
  rintro e w1 ⟨rfl, rfl⟩
  go_wp2_with fail
  with_reducible refine (sub_any _ _ _ (by omega) (by omega) (by omega) (by omega)).mono ?_
  rintro e w1 ⟨rfl, rfl⟩
  go_wp2_with fail
  with_reducible refine (sub_any _ _ _ (by omega) (by omega) (by omega) (by omega)).mono ?_
  rintro e w1 ⟨rfl, rfl⟩
  go_wp2_with fail
  with_reducible refine (add_any _ _ _ (by omega) (by omega) (by omega) (by omega)).mono ?_
  rintro e w1 ⟨rfl, rfl⟩
  go_wp2_with fail
  with_reducible refine (add_any _ _ _ (by omega) (by omega) (by omega) (by omega)).mono ?_
  rintro e w1 ⟨rfl, rfl⟩
  rw [addZ_comm c a]
  go_wp2_with fail
  with_reducible refine (mul_any _ _ _ (by omega) (by omega) (by omega) (by omega)).mono ?_
  rintro e w1 ⟨rfl, n1, rfl⟩
  go_wp2_with fail
  with_reducible refine (mul_any _ _ _ (by omega) (by omega) (by omega) (by omega)).mono ?_
  rintro e w1 ⟨rfl, n1, rfl⟩
  rw [mulZ_comm c a]
  go_wp2_with fail
  with_reducible refine (mul_any _ _ _ (by omega) (by omega) (by omega) (by omega)).mono ?_
  rintro e w1 ⟨rfl, n1, rfl⟩
  go_wp2_with fail
  with_reducible refine (mul_any _ _ _ (by omega) (by omega) (by omega) (by omega)).mono ?_
  rintro e w1 ⟨rfl, n1, rfl⟩
  go_wp2_with fail
  with_reducible refine (mul_any _ _ _ (by omega) (by omega) (by omega) (by omega)).mono ?_
  rintro e w1 ⟨rfl, n1, rfl⟩
  rw [mulZ_one a]
  go_wp2_with fail
  with_reducible refine (clamp_any _ _ (by omega) (by omega)).mono ?_
  rintro e w1 ⟨rfl, rfl⟩
  go_wp2_with fail
  with_reducible refine (of_any _ _ (by omega) (by omega)).mono ?_
  rintro e w1 ⟨rfl, rfl⟩
  go_wp2_with fail
  with_reducible refine (whole_any _ _ (by omega) (by omega)).mono ?_
  rintro e w1 ⟨rfl, n1, rfl⟩
  rw [HW.out]
  go_wp2
  go_ret
  exact ⟨rfl, by repeat (first | exact Grown.refl _ | refine grownN ?_ _ | apply Grown.alloc | apply Grown.drew)⟩

set_option maxHeartbeats 1000000 in
theorem fixOrder_eq_pos (a c : Int) (x1 : -2147483648 ≤ a) (x2 : a ≤ 2147483647) (z1 : -2147483648 ≤ c) (z2 : c ≤ 2147483647) (hc : 0 < c) (w : World) :
    Calls Try.prog 6 #[.int .i32 a, .int .i32 a, .int .i32 c] w fun e w' => e = .returned (.bool true) ∧ Grown w w' := by
  have o1 := addZ_mono (a := a) (b := a) c (by omega)
  have o2 := subZ_mono (a := a) (b := a) c (by omega)
  have o3 := mulZ_mono (a := a) (b := a) (c := c) (by omega) (by omega)
  have o4 := divZ_mono (a := a) (b := a) (c := c) (by omega) (by omega)
  have HW := Lib.hid (whole_of (q := a / 65536) (by omega) (by omega))
  obtain ⟨k1, k2⟩ := clampZ_bd (65536 * withinZ (a / 65536) 65536)
  go_enter Try.func6, Try.ntmps6
  go_wp2_with fail
  with_reducible refine (awake_any _ ).mono ?_
  rintro e w1 ⟨rfl, n1, rfl⟩
  go_wp2_with fail
  with_reducible refine (add_any _ _ _ (by omega) (by omega) (by omega) (by omega)).mono ?_
  rintro e w1 ⟨rfl, rfl⟩
  go_wp2_with fail
  with_reducible refine (add_any _ _ _ (by omega) (by omega) (by omega) (by omega)).mono ?_
  rintro e w1 ⟨rfl, rfl⟩
  go_wp2_with fail
  with_reducible refine (sub_any _ _ _ (by omega) (by omega) (by omega) (by omega)).mono ?_
  rintro e w1 ⟨rfl, rfl⟩
  go_wp2_with fail
  with_reducible refine (sub_any _ _ _ (by omega) (by omega) (by omega) (by omega)).mono ?_
  rintro e w1 ⟨rfl, rfl⟩
  go_wp2_with fail
  with_reducible refine (add_any _ _ _ (by omega) (by omega) (by omega) (by omega)).mono ?_
  rintro e w1 ⟨rfl, rfl⟩
  go_wp2_with fail
  with_reducible refine (add_any _ _ _ (by omega) (by omega) (by omega) (by omega)).mono ?_
  rintro e w1 ⟨rfl, rfl⟩
  rw [addZ_comm c a]
  go_wp2_with fail
  with_reducible refine (mul_any _ _ _ (by omega) (by omega) (by omega) (by omega)).mono ?_
  rintro e w1 ⟨rfl, n1, rfl⟩
  go_wp2_with fail
  with_reducible refine (mul_any _ _ _ (by omega) (by omega) (by omega) (by omega)).mono ?_
  rintro e w1 ⟨rfl, n1, rfl⟩
  rw [mulZ_comm c a]
  go_wp2_with fail
  with_reducible refine (mul_any _ _ _ (by omega) (by omega) (by omega) (by omega)).mono ?_
  rintro e w1 ⟨rfl, n1, rfl⟩
  go_wp2_with fail
  with_reducible refine (mul_any _ _ _ (by omega) (by omega) (by omega) (by omega)).mono ?_
  rintro e w1 ⟨rfl, n1, rfl⟩
  go_wp2_with fail
  with_reducible refine (div_any _ _ _ (by omega) (by omega) (by omega) (by omega)).mono ?_
  rintro e w1 ⟨rfl, n1, rfl⟩
  go_wp2_with fail
  with_reducible refine (div_any _ _ _ (by omega) (by omega) (by omega) (by omega)).mono ?_
  rintro e w1 ⟨rfl, n1, rfl⟩
  go_wp2_with fail
  with_reducible refine (mul_any _ _ _ (by omega) (by omega) (by omega) (by omega)).mono ?_
  rintro e w1 ⟨rfl, n1, rfl⟩
  rw [mulZ_one a]
  go_wp2_with fail
  with_reducible refine (clamp_any _ _ (by omega) (by omega)).mono ?_
  rintro e w1 ⟨rfl, rfl⟩
  go_wp2_with fail
  with_reducible refine (of_any _ _ (by omega) (by omega)).mono ?_
  rintro e w1 ⟨rfl, rfl⟩
  go_wp2_with fail
  with_reducible refine (whole_any _ _ (by omega) (by omega)).mono ?_
  rintro e w1 ⟨rfl, n1, rfl⟩
  rw [HW.out]
  go_wp2
  go_ret
  exact ⟨rfl, by repeat (first | exact Grown.refl _ | refine grownN ?_ _ | apply Grown.alloc | apply Grown.drew)⟩

theorem fixOrder_walk (a0 : Int) (a1 : Int) (a2 : Int) (w0 : (Lit.int .i32 a0).wf = true) (w1 : (Lit.int .i32 a1).wf = true) (w2 : (Lit.int .i32 a2).wf = true) (w : World) :
    Calls Try.prog 6 #[.int .i32 a0, .int .i32 a1, .int .i32 a2] w fun e w' => e = .returned (.bool true) ∧ Grown w w' := by
  obtain ⟨x1, x2⟩ := bd32 w0
  obtain ⟨y1, y2⟩ := bd32 w1
  obtain ⟨z1, z2⟩ := bd32 w2
  by_cases h : a0 < a1
  · by_cases hn : a2 < 0
    · exact fixOrder_lt_neg a0 a1 a2 x1 x2 y1 y2 z1 z2 h hn w
    · by_cases hp : 0 < a2
      · exact fixOrder_lt_pos a0 a1 a2 x1 x2 y1 y2 z1 z2 h hp w
      · exact fixOrder_lt_zero a0 a1 a2 x1 x2 y1 y2 z1 z2 h (by omega) (by omega) w
  · by_cases he : a0 = a1
    · subst he
      by_cases hn : a2 < 0
      · exact fixOrder_eq_neg a0 a2 x1 x2 z1 z2 hn w
      · by_cases hp : 0 < a2
        · exact fixOrder_eq_pos a0 a2 x1 x2 z1 z2 hp w
        · exact fixOrder_eq_zero a0 a2 x1 x2 z1 z2 (by omega) (by omega) w
    · by_cases hn : a2 < 0
      · exact fixOrder_gt_neg a0 a1 a2 x1 x2 y1 y2 z1 z2 (by omega) hn w
      · by_cases hp : 0 < a2
        · exact fixOrder_gt_pos a0 a1 a2 x1 x2 y1 y2 z1 z2 (by omega) hp w
        · exact fixOrder_gt_zero a0 a1 a2 x1 x2 y1 y2 z1 z2 (by omega) (by omega) (by omega) w

end Go.Proofs.Ytkplimjodlcdmaa
