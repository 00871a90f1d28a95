/-
  DERIVED. THE WALKS of layer 2 (vec): matrices: turned, Unit, Times, By. · THE WALKS of layer 2 (vec): Times and By.
-/
import Derived.Test.YtellfhnfifgpoaaPkVec
namespace Go.Proofs.Ytellfhnfifgpoaa
open Go.RowKit
set_option linter.unusedVariables false

end Go.Proofs.Ytellfhnfifgpoaa

namespace Go.Proofs.Ytellfhnfifgpoaa
open Go.RowKit
set_option linter.unusedVariables false

set_option maxRecDepth 100000 in
set_option maxHeartbeats 4000000 in
theorem times_any (m0 m1 m2 m3 m4 m5 m6 m7 m8 m9 m10 m11 m12 m13 m14 m15 v0 v1 v2 v3 : Int) (hm0 : -9223372036854775808 ≤ m0 ∧ m0 ≤ 9223372036854775807) (hm1 : -9223372036854775808 ≤ m1 ∧ m1 ≤ 9223372036854775807) (hm2 : -9223372036854775808 ≤ m2 ∧ m2 ≤ 9223372036854775807) (hm3 : -9223372036854775808 ≤ m3 ∧ m3 ≤ 9223372036854775807) (hm4 : -9223372036854775808 ≤ m4 ∧ m4 ≤ 9223372036854775807) (hm5 : -9223372036854775808 ≤ m5 ∧ m5 ≤ 9223372036854775807) (hm6 : -9223372036854775808 ≤ m6 ∧ m6 ≤ 9223372036854775807) (hm7 : -9223372036854775808 ≤ m7 ∧ m7 ≤ 9223372036854775807) (hm8 : -9223372036854775808 ≤ m8 ∧ m8 ≤ 9223372036854775807) (hm9 : -9223372036854775808 ≤ m9 ∧ m9 ≤ 9223372036854775807) (hm10 : -9223372036854775808 ≤ m10 ∧ m10 ≤ 9223372036854775807) (hm11 : -9223372036854775808 ≤ m11 ∧ m11 ≤ 9223372036854775807) (hm12 : -9223372036854775808 ≤ m12 ∧ m12 ≤ 9223372036854775807) (hm13 : -9223372036854775808 ≤ m13 ∧ m13 ≤ 9223372036854775807) (hm14 : -9223372036854775808 ≤ m14 ∧ m14 ≤ 9223372036854775807) (hm15 : -9223372036854775808 ≤ m15 ∧ m15 ≤ 9223372036854775807) (hv0 : -9223372036854775808 ≤ v0 ∧ v0 ≤ 9223372036854775807) (hv1 : -9223372036854775808 ≤ v1 ∧ v1 ≤ 9223372036854775807) (hv2 : -9223372036854775808 ≤ v2 ∧ v2 ≤ 9223372036854775807) (hv3 : -9223372036854775808 ≤ v3 ∧ v3 ≤ 9223372036854775807) (w : World) :
    Calls Try.prog 61 #[.agg #[.int .i64 m0, .int .i64 m1, .int .i64 m2, .int .i64 m3, .int .i64 m4, .int .i64 m5, .int .i64 m6, .int .i64 m7, .int .i64 m8, .int .i64 m9, .int .i64 m10, .int .i64 m11, .int .i64 m12, .int .i64 m13, .int .i64 m14, .int .i64 m15], .agg #[.int .i64 v0, .int .i64 v1, .int .i64 v2, .int .i64 v3]] w
      fun e w' => e = .returned (.agg #[.int .i64 (dotZ m0 m1 m2 m3 v0 v1 v2 v3), .int .i64 (dotZ m4 m5 m6 m7 v0 v1 v2 v3), .int .i64 (dotZ m8 m9 m10 m11 v0 v1 v2 v3), .int .i64 (dotZ m12 m13 m14 m15 v0 v1 v2 v3)]) ∧ Ext w w' := by
  have hM := idxM
  have hal := @World.cell?_alloc_lt
  go_enter Try.func61, Try.ntmps61
  go_wp2
  refine wp_loop_rounds 5 ?_
  rw [rounds_succ]
  go_wp2_with fail
  refine (dot_any _ _ _ _ _ _ _ _ (by omega) (by omega) (by omega) (by omega) (by omega) (by omega) (by omega) (by omega) _).mono ?_
  rintro e w1 ⟨rfl, hx1⟩
  have hz1 := hx1.size
  have za1 : w.heap.size + 1 < w1.heap.size := by simp at hz1; omega
  have zb1 : w.heap.size + 1 + 1 < w1.heap.size := by simp at hz1; omega
  have zc1 : w.heap.size < w1.heap.size := by omega
  clear hz1
  have c10 : w1.cell? ⟨w.heap.size + 1, 0, none⟩ = some (.int .i64 v0) := by rw [hx1.cell _ (by simp <;> omega)]; simp [go_sem, *]
  have c11 : w1.cell? ⟨w.heap.size + 1, 1, none⟩ = some (.int .i64 v1) := by rw [hx1.cell _ (by simp <;> omega)]; simp [go_sem, *]
  have c12 : w1.cell? ⟨w.heap.size + 1, 2, none⟩ = some (.int .i64 v2) := by rw [hx1.cell _ (by simp <;> omega)]; simp [go_sem, *]
  have c13 : w1.cell? ⟨w.heap.size + 1, 3, none⟩ = some (.int .i64 v3) := by rw [hx1.cell _ (by simp <;> omega)]; simp [go_sem, *]
  have r10 : w1.cell? ⟨w.heap.size + 1 + 1, 0, none⟩ = some (.int .i64 0) := by rw [hx1.cell _ (by simp <;> omega)]; simp [go_sem, *]
  have r11 : w1.cell? ⟨w.heap.size + 1 + 1, 1, none⟩ = some (.int .i64 0) := by rw [hx1.cell _ (by simp <;> omega)]; simp [go_sem, *]
  have r12 : w1.cell? ⟨w.heap.size + 1 + 1, 2, none⟩ = some (.int .i64 0) := by rw [hx1.cell _ (by simp <;> omega)]; simp [go_sem, *]
  have r13 : w1.cell? ⟨w.heap.size + 1 + 1, 3, none⟩ = some (.int .i64 0) := by rw [hx1.cell _ (by simp <;> omega)]; simp [go_sem, *]
  have f10 : w1.frozen? ⟨w.heap.size + 1 + 1, 0, none⟩ = false := by rw [hx1.fr _ (by simp <;> omega)]; simp [go_sem, *]
  have f11 : w1.frozen? ⟨w.heap.size + 1 + 1, 1, none⟩ = false := by rw [hx1.fr _ (by simp <;> omega)]; simp [go_sem, *]
  have f12 : w1.frozen? ⟨w.heap.size + 1 + 1, 2, none⟩ = false := by rw [hx1.fr _ (by simp <;> omega)]; simp [go_sem, *]
  have f13 : w1.frozen? ⟨w.heap.size + 1 + 1, 3, none⟩ = false := by rw [hx1.fr _ (by simp <;> omega)]; simp [go_sem, *]
  go_wp2
  rw [rounds_succ]
  go_wp2_with fail
  refine (dot_any _ _ _ _ _ _ _ _ (by omega) (by omega) (by omega) (by omega) (by omega) (by omega) (by omega) (by omega) _).mono ?_
  rintro e w2 ⟨rfl, hx2⟩
  have hz2 := hx2.size
  have za2 : w.heap.size + 1 < w2.heap.size := by simp at hz2; omega
  have zb2 : w.heap.size + 1 + 1 < w2.heap.size := by simp at hz2; omega
  have zc2 : w.heap.size < w2.heap.size := by omega
  clear hz2
  have c20 : w2.cell? ⟨w.heap.size + 1, 0, none⟩ = some (.int .i64 v0) := by rw [hx2.cell _ (by simp <;> omega)]; simp [go_sem, *]
  have c21 : w2.cell? ⟨w.heap.size + 1, 1, none⟩ = some (.int .i64 v1) := by rw [hx2.cell _ (by simp <;> omega)]; simp [go_sem, *]
  have c22 : w2.cell? ⟨w.heap.size + 1, 2, none⟩ = some (.int .i64 v2) := by rw [hx2.cell _ (by simp <;> omega)]; simp [go_sem, *]
  have c23 : w2.cell? ⟨w.heap.size + 1, 3, none⟩ = some (.int .i64 v3) := by rw [hx2.cell _ (by simp <;> omega)]; simp [go_sem, *]
  have r20 : w2.cell? ⟨w.heap.size + 1 + 1, 0, none⟩ = some (.int .i64 (dotZ m0 m1 m2 m3 v0 v1 v2 v3)) := by rw [hx2.cell _ (by simp <;> omega)]; simp [go_sem, *]
  have r21 : w2.cell? ⟨w.heap.size + 1 + 1, 1, none⟩ = some (.int .i64 0) := by rw [hx2.cell _ (by simp <;> omega)]; simp [go_sem, *]
  have r22 : w2.cell? ⟨w.heap.size + 1 + 1, 2, none⟩ = some (.int .i64 0) := by rw [hx2.cell _ (by simp <;> omega)]; simp [go_sem, *]
  have r23 : w2.cell? ⟨w.heap.size + 1 + 1, 3, none⟩ = some (.int .i64 0) := by rw [hx2.cell _ (by simp <;> omega)]; simp [go_sem, *]
  have f20 : w2.frozen? ⟨w.heap.size + 1 + 1, 0, none⟩ = false := by rw [hx2.fr _ (by simp <;> omega)]; simp [go_sem, *]
  have f21 : w2.frozen? ⟨w.heap.size + 1 + 1, 1, none⟩ = false := by rw [hx2.fr _ (by simp <;> omega)]; simp [go_sem, *]
  have f22 : w2.frozen? ⟨w.heap.size + 1 + 1, 2, none⟩ = false := by rw [hx2.fr _ (by simp <;> omega)]; simp [go_sem, *]
  have f23 : w2.frozen? ⟨w.heap.size + 1 + 1, 3, none⟩ = false := by rw [hx2.fr _ (by simp <;> omega)]; simp [go_sem, *]
  go_wp2
  rw [rounds_succ]
  go_wp2_with fail
  refine (dot_any _ _ _ _ _ _ _ _ (by omega) (by omega) (by omega) (by omega) (by omega) (by omega) (by omega) (by omega) _).mono ?_
  rintro e w3 ⟨rfl, hx3⟩
  have hz3 := hx3.size
  have za3 : w.heap.size + 1 < w3.heap.size := by simp at hz3; omega
  have zb3 : w.heap.size + 1 + 1 < w3.heap.size := by simp at hz3; omega
  have zc3 : w.heap.size < w3.heap.size := by omega
  clear hz3
  have c30 : w3.cell? ⟨w.heap.size + 1, 0, none⟩ = some (.int .i64 v0) := by rw [hx3.cell _ (by simp <;> omega)]; simp [go_sem, *]
  have c31 : w3.cell? ⟨w.heap.size + 1, 1, none⟩ = some (.int .i64 v1) := by rw [hx3.cell _ (by simp <;> omega)]; simp [go_sem, *]
  have c32 : w3.cell? ⟨w.heap.size + 1, 2, none⟩ = some (.int .i64 v2) := by rw [hx3.cell _ (by simp <;> omega)]; simp [go_sem, *]
  have c33 : w3.cell? ⟨w.heap.size + 1, 3, none⟩ = some (.int .i64 v3) := by rw [hx3.cell _ (by simp <;> omega)]; simp [go_sem, *]
  have r30 : w3.cell? ⟨w.heap.size + 1 + 1, 0, none⟩ = some (.int .i64 (dotZ m0 m1 m2 m3 v0 v1 v2 v3)) := by rw [hx3.cell _ (by simp <;> omega)]; simp [go_sem, *]
  have r31 : w3.cell? ⟨w.heap.size + 1 + 1, 1, none⟩ = some (.int .i64 (dotZ m4 m5 m6 m7 v0 v1 v2 v3)) := by rw [hx3.cell _ (by simp <;> omega)]; simp [go_sem, *]
  have r32 : w3.cell? ⟨w.heap.size + 1 + 1, 2, none⟩ = some (.int .i64 0) := by rw [hx3.cell _ (by simp <;> omega)]; simp [go_sem, *]
  have r33 : w3.cell? ⟨w.heap.size + 1 + 1, 3, none⟩ = some (.int .i64 0) := by rw [hx3.cell _ (by simp <;> omega)]; simp [go_sem, *]
  have f30 : w3.frozen? ⟨w.heap.size + 1 + 1, 0, none⟩ = false := by rw [hx3.fr _ (by simp <;> omega)]; simp [go_sem, *]
  have f31 : w3.frozen? ⟨w.heap.size + 1 + 1, 1, none⟩ = false := by rw [hx3.fr _ (by simp <;> omega)]; simp [go_sem, *]
  have f32 : w3.frozen? ⟨w.heap.size + 1 + 1, 2, none⟩ = false := by rw [hx3.fr _ (by simp <;> omega)]; simp [go_sem, *]
  have f33 : w3.frozen? ⟨w.heap.size + 1 + 1, 3, none⟩ = false := by rw [hx3.fr _ (by simp <;> omega)]; simp [go_sem, *]
  go_wp2
  rw [rounds_succ]
  go_wp2_with fail
  refine (dot_any _ _ _ _ _ _ _ _ (by omega) (by omega) (by omega) (by omega) (by omega) (by omega) (by omega) (by omega) _).mono ?_
  rintro e w4 ⟨rfl, hx4⟩
  have hz4 := hx4.size
  have za4 : w.heap.size + 1 < w4.heap.size := by simp at hz4; omega
  have zb4 : w.heap.size + 1 + 1 < w4.heap.size := by simp at hz4; omega
  have zc4 : w.heap.size < w4.heap.size := by omega
  clear hz4
  have c40 : w4.cell? ⟨w.heap.size + 1, 0, none⟩ = some (.int .i64 v0) := by rw [hx4.cell _ (by simp <;> omega)]; simp [go_sem, *]
  have c41 : w4.cell? ⟨w.heap.size + 1, 1, none⟩ = some (.int .i64 v1) := by rw [hx4.cell _ (by simp <;> omega)]; simp [go_sem, *]
  have c42 : w4.cell? ⟨w.heap.size + 1, 2, none⟩ = some (.int .i64 v2) := by rw [hx4.cell _ (by simp <;> omega)]; simp [go_sem, *]
  have c43 : w4.cell? ⟨w.heap.size + 1, 3, none⟩ = some (.int .i64 v3) := by rw [hx4.cell _ (by simp <;> omega)]; simp [go_sem, *]
  have r40 : w4.cell? ⟨w.heap.size + 1 + 1, 0, none⟩ = some (.int .i64 (dotZ m0 m1 m2 m3 v0 v1 v2 v3)) := by rw [hx4.cell _ (by simp <;> omega)]; simp [go_sem, *]
  have r41 : w4.cell? ⟨w.heap.size + 1 + 1, 1, none⟩ = some (.int .i64 (dotZ m4 m5 m6 m7 v0 v1 v2 v3)) := by rw [hx4.cell _ (by simp <;> omega)]; simp [go_sem, *]
  have r42 : w4.cell? ⟨w.heap.size + 1 + 1, 2, none⟩ = some (.int .i64 (dotZ m8 m9 m10 m11 v0 v1 v2 v3)) := by rw [hx4.cell _ (by simp <;> omega)]; simp [go_sem, *]
  have r43 : w4.cell? ⟨w.heap.size + 1 + 1, 3, none⟩ = some (.int .i64 0) := by rw [hx4.cell _ (by simp <;> omega)]; simp [go_sem, *]
  have f40 : w4.frozen? ⟨w.heap.size + 1 + 1, 0, none⟩ = false := by rw [hx4.fr _ (by simp <;> omega)]; simp [go_sem, *]
  have f41 : w4.frozen? ⟨w.heap.size + 1 + 1, 1, none⟩ = false := by rw [hx4.fr _ (by simp <;> omega)]; simp [go_sem, *]
  have f42 : w4.frozen? ⟨w.heap.size + 1 + 1, 2, none⟩ = false := by rw [hx4.fr _ (by simp <;> omega)]; simp [go_sem, *]
  have f43 : w4.frozen? ⟨w.heap.size + 1 + 1, 3, none⟩ = false := by rw [hx4.fr _ (by simp <;> omega)]; simp [go_sem, *]
  go_wp2
  rw [rounds_succ]
  go_wp2
  refine bodyPost_ret (v := .agg #[.int .i64 (dotZ m0 m1 m2 m3 v0 v1 v2 v3), .int .i64 (dotZ m4 m5 m6 m7 v0 v1 v2 v3), .int .i64 (dotZ m8 m9 m10 m11 v0 v1 v2 v3), .int .i64 (dotZ m12 m13 m14 m15 v0 v1 v2 v3)]) (by simp only [results, Try.results61]; go_simp) rfl ⟨rfl, ?_⟩
  repeat (refine Ext.setCell ?_ (by simp only; omega) _)
  refine Ext.trans ?_ hx4
  refine Ext.alloc (Ext.setCell (Ext.trans ?_ hx3) (by simp only; omega) _) _ _
  refine Ext.alloc (Ext.setCell (Ext.trans ?_ hx2) (by simp only; omega) _) _ _
  refine Ext.alloc (Ext.setCell (Ext.trans ?_ hx1) (by simp only; omega) _) _ _
  repeat (first | exact Ext.refl _ | apply Ext.drew | apply Ext.drewN | apply Ext.alloc)

end Go.Proofs.Ytellfhnfifgpoaa

