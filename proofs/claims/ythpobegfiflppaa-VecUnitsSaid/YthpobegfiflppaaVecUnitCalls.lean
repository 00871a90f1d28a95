/-
  DERIVED. Plain facts on dot products with units and noughts, and the calls that they serve.
-/
import Derived.Test.YthpobegfiflppaaVecAwake
import Derived.Test.YthpobegfiflppaaMinMax
namespace Go.Proofs.Ythpobegfiflppaa
open Go.RowKit
set_option linter.unusedVariables false

theorem mulZ_zero_l (a : Int) : mulZ 0 a = 0 := by
  have e : clampZ 0 = 0 := by decide +kernel
  unfold mulZ; rw [e, Int.zero_mul, flr_pos _ (by omega)]; exact e
theorem mulZ_zero_r (a : Int) : mulZ a 0 = 0 := by rw [mulZ_comm]; exact mulZ_zero_l a
theorem mulZ_one_l (a : Int) : mulZ 65536 a = clampZ a := by rw [mulZ_comm]; exact mulZ_one a

theorem dot_l0 (a b c d : Int) (h : -2147483647 ≤ a ∧ a ≤ 2147483647) : dotZ 65536 0 0 0 a b c d = a := by
  unfold dotZ; rw [mulZ_one_l, mulZ_zero_l, mulZ_zero_l, mulZ_zero_l]; unfold addZ clampZ; omega
theorem dot_r0 (a b c d : Int) (h : -2147483647 ≤ a ∧ a ≤ 2147483647) : dotZ a b c d 65536 0 0 0 = a := by
  unfold dotZ; rw [mulZ_one, mulZ_zero_r, mulZ_zero_r, mulZ_zero_r]; unfold addZ clampZ; omega
theorem dot_l1 (a b c d : Int) (h : -2147483647 ≤ b ∧ b ≤ 2147483647) : dotZ 0 65536 0 0 a b c d = b := by
  unfold dotZ; rw [mulZ_one_l, mulZ_zero_l, mulZ_zero_l, mulZ_zero_l]; unfold addZ clampZ; omega
theorem dot_r1 (a b c d : Int) (h : -2147483647 ≤ b ∧ b ≤ 2147483647) : dotZ a b c d 0 65536 0 0 = b := by
  unfold dotZ; rw [mulZ_one, mulZ_zero_r, mulZ_zero_r, mulZ_zero_r]; unfold addZ clampZ; omega
theorem dot_l2 (a b c d : Int) (h : -2147483647 ≤ c ∧ c ≤ 2147483647) : dotZ 0 0 65536 0 a b c d = c := by
  unfold dotZ; rw [mulZ_one_l, mulZ_zero_l, mulZ_zero_l, mulZ_zero_l]; unfold addZ clampZ; omega
theorem dot_r2 (a b c d : Int) (h : -2147483647 ≤ c ∧ c ≤ 2147483647) : dotZ a b c d 0 0 65536 0 = c := by
  unfold dotZ; rw [mulZ_one, mulZ_zero_r, mulZ_zero_r, mulZ_zero_r]; unfold addZ clampZ; omega
theorem dot_l3 (a b c d : Int) (h : -2147483647 ≤ d ∧ d ≤ 2147483647) : dotZ 0 0 0 65536 a b c d = d := by
  unfold dotZ; rw [mulZ_one_l, mulZ_zero_l, mulZ_zero_l, mulZ_zero_l]; unfold addZ clampZ; omega
theorem dot_r3 (a b c d : Int) (h : -2147483647 ≤ d ∧ d ≤ 2147483647) : dotZ a b c d 0 0 0 65536 = d := by
  unfold dotZ; rw [mulZ_one, mulZ_zero_r, mulZ_zero_r, mulZ_zero_r]; unfold addZ clampZ; omega
theorem dot_zero (a b c d : Int) : dotZ a b c d 0 0 0 0 = 0 := by
  unfold dotZ; rw [mulZ_zero_r, mulZ_zero_r, mulZ_zero_r, mulZ_zero_r]; decide +kernel
theorem scale_id (a : Int) (h : -2147483647 ≤ a ∧ a ≤ 2147483647) : mulZ a 65536 = a := by rw [mulZ_one]; exact clampZ_id h.1 h.2

set_option maxRecDepth 100000 in
theorem by_unit_l (m0 m1 m2 m3 m4 m5 m6 m7 m8 m9 m10 m11 m12 m13 m14 m15 : Int) (hm0 : -2147483647 ≤ m0 ∧ m0 ≤ 2147483647) (hm1 : -2147483647 ≤ m1 ∧ m1 ≤ 2147483647) (hm2 : -2147483647 ≤ m2 ∧ m2 ≤ 2147483647) (hm3 : -2147483647 ≤ m3 ∧ m3 ≤ 2147483647) (hm4 : -2147483647 ≤ m4 ∧ m4 ≤ 2147483647) (hm5 : -2147483647 ≤ m5 ∧ m5 ≤ 2147483647) (hm6 : -2147483647 ≤ m6 ∧ m6 ≤ 2147483647) (hm7 : -2147483647 ≤ m7 ∧ m7 ≤ 2147483647) (hm8 : -2147483647 ≤ m8 ∧ m8 ≤ 2147483647) (hm9 : -2147483647 ≤ m9 ∧ m9 ≤ 2147483647) (hm10 : -2147483647 ≤ m10 ∧ m10 ≤ 2147483647) (hm11 : -2147483647 ≤ m11 ∧ m11 ≤ 2147483647) (hm12 : -2147483647 ≤ m12 ∧ m12 ≤ 2147483647) (hm13 : -2147483647 ≤ m13 ∧ m13 ≤ 2147483647) (hm14 : -2147483647 ≤ m14 ∧ m14 ≤ 2147483647) (hm15 : -2147483647 ≤ m15 ∧ m15 ≤ 2147483647) (w : World) : Calls Try.prog 20 #[.agg #[.int .i64 65536, .int .i64 0, .int .i64 0, .int .i64 0, .int .i64 0, .int .i64 65536, .int .i64 0, .int .i64 0, .int .i64 0, .int .i64 0, .int .i64 65536, .int .i64 0, .int .i64 0, .int .i64 0, .int .i64 0, .int .i64 65536], .agg #[.int .i64 m0, .int .i64 m1, .int .i64 m2, .int .i64 m3, .int .i64 m4, .int .i64 m5, .int .i64 m6, .int .i64 m7, .int .i64 m8, .int .i64 m9, .int .i64 m10, .int .i64 m11, .int .i64 m12, .int .i64 m13, .int .i64 m14, .int .i64 m15]] w fun e w' => e = .returned (.agg #[.int .i64 m0, .int .i64 m1, .int .i64 m2, .int .i64 m3, .int .i64 m4, .int .i64 m5, .int .i64 m6, .int .i64 m7, .int .i64 m8, .int .i64 m9, .int .i64 m10, .int .i64 m11, .int .i64 m12, .int .i64 m13, .int .i64 m14, .int .i64 m15]) ∧ Ext w w' := by
  have e0 : dotZ 65536 0 0 0 m0 m4 m8 m12 = m0 := dot_l0 m0 m4 m8 m12 hm0
  have e1 : dotZ 65536 0 0 0 m1 m5 m9 m13 = m1 := dot_l0 m1 m5 m9 m13 hm1
  have e2 : dotZ 65536 0 0 0 m2 m6 m10 m14 = m2 := dot_l0 m2 m6 m10 m14 hm2
  have e3 : dotZ 65536 0 0 0 m3 m7 m11 m15 = m3 := dot_l0 m3 m7 m11 m15 hm3
  have e4 : dotZ 0 65536 0 0 m0 m4 m8 m12 = m4 := dot_l1 m0 m4 m8 m12 hm4
  have e5 : dotZ 0 65536 0 0 m1 m5 m9 m13 = m5 := dot_l1 m1 m5 m9 m13 hm5
  have e6 : dotZ 0 65536 0 0 m2 m6 m10 m14 = m6 := dot_l1 m2 m6 m10 m14 hm6
  have e7 : dotZ 0 65536 0 0 m3 m7 m11 m15 = m7 := dot_l1 m3 m7 m11 m15 hm7
  have e8 : dotZ 0 0 65536 0 m0 m4 m8 m12 = m8 := dot_l2 m0 m4 m8 m12 hm8
  have e9 : dotZ 0 0 65536 0 m1 m5 m9 m13 = m9 := dot_l2 m1 m5 m9 m13 hm9
  have e10 : dotZ 0 0 65536 0 m2 m6 m10 m14 = m10 := dot_l2 m2 m6 m10 m14 hm10
  have e11 : dotZ 0 0 65536 0 m3 m7 m11 m15 = m11 := dot_l2 m3 m7 m11 m15 hm11
  have e12 : dotZ 0 0 0 65536 m0 m4 m8 m12 = m12 := dot_l3 m0 m4 m8 m12 hm12
  have e13 : dotZ 0 0 0 65536 m1 m5 m9 m13 = m13 := dot_l3 m1 m5 m9 m13 hm13
  have e14 : dotZ 0 0 0 65536 m2 m6 m10 m14 = m14 := dot_l3 m2 m6 m10 m14 hm14
  have e15 : dotZ 0 0 0 65536 m3 m7 m11 m15 = m15 := dot_l3 m3 m7 m11 m15 hm15
  have h := by_any 65536 0 0 0 0 65536 0 0 0 0 65536 0 0 0 0 65536 m0 m1 m2 m3 m4 m5 m6 m7 m8 m9 m10 m11 m12 m13 m14 m15 (by omega) (by omega) (by omega) (by omega) (by omega) (by omega) (by omega) (by omega) (by omega) (by omega) (by omega) (by omega) (by omega) (by omega) (by omega) (by omega) (by omega) (by omega) (by omega) (by omega) (by omega) (by omega) (by omega) (by omega) (by omega) (by omega) (by omega) (by omega) (by omega) (by omega) (by omega) (by omega) w
  rw [e0, e1, e2, e3, e4, e5, e6, e7, e8, e9, e10, e11, e12, e13, e14, e15] at h
  exact h
set_option maxRecDepth 100000 in
theorem by_unit_r (m0 m1 m2 m3 m4 m5 m6 m7 m8 m9 m10 m11 m12 m13 m14 m15 : Int) (hm0 : -2147483647 ≤ m0 ∧ m0 ≤ 2147483647) (hm1 : -2147483647 ≤ m1 ∧ m1 ≤ 2147483647) (hm2 : -2147483647 ≤ m2 ∧ m2 ≤ 2147483647) (hm3 : -2147483647 ≤ m3 ∧ m3 ≤ 2147483647) (hm4 : -2147483647 ≤ m4 ∧ m4 ≤ 2147483647) (hm5 : -2147483647 ≤ m5 ∧ m5 ≤ 2147483647) (hm6 : -2147483647 ≤ m6 ∧ m6 ≤ 2147483647) (hm7 : -2147483647 ≤ m7 ∧ m7 ≤ 2147483647) (hm8 : -2147483647 ≤ m8 ∧ m8 ≤ 2147483647) (hm9 : -2147483647 ≤ m9 ∧ m9 ≤ 2147483647) (hm10 : -2147483647 ≤ m10 ∧ m10 ≤ 2147483647) (hm11 : -2147483647 ≤ m11 ∧ m11 ≤ 2147483647) (hm12 : -2147483647 ≤ m12 ∧ m12 ≤ 2147483647) (hm13 : -2147483647 ≤ m13 ∧ m13 ≤ 2147483647) (hm14 : -2147483647 ≤ m14 ∧ m14 ≤ 2147483647) (hm15 : -2147483647 ≤ m15 ∧ m15 ≤ 2147483647) (w : World) : Calls Try.prog 20 #[.agg #[.int .i64 m0, .int .i64 m1, .int .i64 m2, .int .i64 m3, .int .i64 m4, .int .i64 m5, .int .i64 m6, .int .i64 m7, .int .i64 m8, .int .i64 m9, .int .i64 m10, .int .i64 m11, .int .i64 m12, .int .i64 m13, .int .i64 m14, .int .i64 m15], .agg #[.int .i64 65536, .int .i64 0, .int .i64 0, .int .i64 0, .int .i64 0, .int .i64 65536, .int .i64 0, .int .i64 0, .int .i64 0, .int .i64 0, .int .i64 65536, .int .i64 0, .int .i64 0, .int .i64 0, .int .i64 0, .int .i64 65536]] w fun e w' => e = .returned (.agg #[.int .i64 m0, .int .i64 m1, .int .i64 m2, .int .i64 m3, .int .i64 m4, .int .i64 m5, .int .i64 m6, .int .i64 m7, .int .i64 m8, .int .i64 m9, .int .i64 m10, .int .i64 m11, .int .i64 m12, .int .i64 m13, .int .i64 m14, .int .i64 m15]) ∧ Ext w w' := by
  have e0 : dotZ m0 m1 m2 m3 65536 0 0 0 = m0 := dot_r0 m0 m1 m2 m3 hm0
  have e1 : dotZ m0 m1 m2 m3 0 65536 0 0 = m1 := dot_r1 m0 m1 m2 m3 hm1
  have e2 : dotZ m0 m1 m2 m3 0 0 65536 0 = m2 := dot_r2 m0 m1 m2 m3 hm2
  have e3 : dotZ m0 m1 m2 m3 0 0 0 65536 = m3 := dot_r3 m0 m1 m2 m3 hm3
  have e4 : dotZ m4 m5 m6 m7 65536 0 0 0 = m4 := dot_r0 m4 m5 m6 m7 hm4
  have e5 : dotZ m4 m5 m6 m7 0 65536 0 0 = m5 := dot_r1 m4 m5 m6 m7 hm5
  have e6 : dotZ m4 m5 m6 m7 0 0 65536 0 = m6 := dot_r2 m4 m5 m6 m7 hm6
  have e7 : dotZ m4 m5 m6 m7 0 0 0 65536 = m7 := dot_r3 m4 m5 m6 m7 hm7
  have e8 : dotZ m8 m9 m10 m11 65536 0 0 0 = m8 := dot_r0 m8 m9 m10 m11 hm8
  have e9 : dotZ m8 m9 m10 m11 0 65536 0 0 = m9 := dot_r1 m8 m9 m10 m11 hm9
  have e10 : dotZ m8 m9 m10 m11 0 0 65536 0 = m10 := dot_r2 m8 m9 m10 m11 hm10
  have e11 : dotZ m8 m9 m10 m11 0 0 0 65536 = m11 := dot_r3 m8 m9 m10 m11 hm11
  have e12 : dotZ m12 m13 m14 m15 65536 0 0 0 = m12 := dot_r0 m12 m13 m14 m15 hm12
  have e13 : dotZ m12 m13 m14 m15 0 65536 0 0 = m13 := dot_r1 m12 m13 m14 m15 hm13
  have e14 : dotZ m12 m13 m14 m15 0 0 65536 0 = m14 := dot_r2 m12 m13 m14 m15 hm14
  have e15 : dotZ m12 m13 m14 m15 0 0 0 65536 = m15 := dot_r3 m12 m13 m14 m15 hm15
  have h := by_any m0 m1 m2 m3 m4 m5 m6 m7 m8 m9 m10 m11 m12 m13 m14 m15 65536 0 0 0 0 65536 0 0 0 0 65536 0 0 0 0 65536 (by omega) (by omega) (by omega) (by omega) (by omega) (by omega) (by omega) (by omega) (by omega) (by omega) (by omega) (by omega) (by omega) (by omega) (by omega) (by omega) (by omega) (by omega) (by omega) (by omega) (by omega) (by omega) (by omega) (by omega) (by omega) (by omega) (by omega) (by omega) (by omega) (by omega) (by omega) (by omega) w
  rw [e0, e1, e2, e3, e4, e5, e6, e7, e8, e9, e10, e11, e12, e13, e14, e15] at h
  exact h
set_option maxRecDepth 100000 in
theorem times_unit (x0 x1 x2 x3 : Int) (hx0 : -2147483647 ≤ x0 ∧ x0 ≤ 2147483647) (hx1 : -2147483647 ≤ x1 ∧ x1 ≤ 2147483647) (hx2 : -2147483647 ≤ x2 ∧ x2 ≤ 2147483647) (hx3 : -2147483647 ≤ x3 ∧ x3 ≤ 2147483647) (w : World) : Calls Try.prog 19 #[.agg #[.int .i64 65536, .int .i64 0, .int .i64 0, .int .i64 0, .int .i64 0, .int .i64 65536, .int .i64 0, .int .i64 0, .int .i64 0, .int .i64 0, .int .i64 65536, .int .i64 0, .int .i64 0, .int .i64 0, .int .i64 0, .int .i64 65536], .agg #[.int .i64 x0, .int .i64 x1, .int .i64 x2, .int .i64 x3]] w fun e w' => e = .returned (.agg #[.int .i64 x0, .int .i64 x1, .int .i64 x2, .int .i64 x3]) ∧ Ext w w' := by
  have e0 : dotZ 65536 0 0 0 x0 x1 x2 x3 = x0 := dot_l0 x0 x1 x2 x3 hx0
  have e1 : dotZ 0 65536 0 0 x0 x1 x2 x3 = x1 := dot_l1 x0 x1 x2 x3 hx1
  have e2 : dotZ 0 0 65536 0 x0 x1 x2 x3 = x2 := dot_l2 x0 x1 x2 x3 hx2
  have e3 : dotZ 0 0 0 65536 x0 x1 x2 x3 = x3 := dot_l3 x0 x1 x2 x3 hx3
  have h := times_any 65536 0 0 0 0 65536 0 0 0 0 65536 0 0 0 0 65536 x0 x1 x2 x3 (by omega) (by omega) (by omega) (by omega) (by omega) (by omega) (by omega) (by omega) (by omega) (by omega) (by omega) (by omega) (by omega) (by omega) (by omega) (by omega) (by omega) (by omega) (by omega) (by omega) w
  rw [e0, e1, e2, e3] at h
  exact h
theorem dot_nought (x0 x1 x2 x3 : Int) (hx0 : -2147483647 ≤ x0 ∧ x0 ≤ 2147483647) (hx1 : -2147483647 ≤ x1 ∧ x1 ≤ 2147483647) (hx2 : -2147483647 ≤ x2 ∧ x2 ≤ 2147483647) (hx3 : -2147483647 ≤ x3 ∧ x3 ≤ 2147483647) (w : World) : Calls Try.prog 17 #[.agg #[.int .i64 x0, .int .i64 x1, .int .i64 x2, .int .i64 x3], .agg #[.int .i64 0, .int .i64 0, .int .i64 0, .int .i64 0]] w fun e w' => e = .returned (.int .i64 0) ∧ Ext w w' := by
  have h := dot_any x0 x1 x2 x3 0 0 0 0 (by omega) (by omega) (by omega) (by omega) (by omega) (by omega) (by omega) (by omega) w
  rw [dot_zero] at h
  exact h
theorem scale_unit (x0 x1 x2 x3 : Int) (hx0 : -2147483647 ≤ x0 ∧ x0 ≤ 2147483647) (hx1 : -2147483647 ≤ x1 ∧ x1 ≤ 2147483647) (hx2 : -2147483647 ≤ x2 ∧ x2 ≤ 2147483647) (hx3 : -2147483647 ≤ x3 ∧ x3 ≤ 2147483647) (w : World) : Calls Try.prog 13 #[.agg #[.int .i64 x0, .int .i64 x1, .int .i64 x2, .int .i64 x3], .int .i64 65536] w fun e w' => e = .returned (.agg #[.int .i64 x0, .int .i64 x1, .int .i64 x2, .int .i64 x3]) ∧ Ext w w' := by
  have h := vec_scale x0 x1 x2 x3 65536 (by omega) (by omega) (by omega) (by omega) (by omega) w
  rw [scale_id x0 hx0, scale_id x1 hx1, scale_id x2 hx2, scale_id x3 hx3] at h
  exact h

end Go.Proofs.Ythpobegfiflppaa
