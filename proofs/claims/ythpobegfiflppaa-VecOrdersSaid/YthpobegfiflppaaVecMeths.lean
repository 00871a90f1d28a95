/-
  DERIVED. THE WALKS of layer 2 (vec): the methods of Vec: Add, Sub, Mul, Min, Max, Scale, Within.
-/
import Derived.Test.YthpobegfiflppaaVecWalks
namespace Go.Proofs.Ythpobegfiflppaa
open Go.RowKit
set_option linter.unusedVariables false

set_option maxHeartbeats 400000 in
theorem all_any (n : Int) (w : World) :
    Calls Try.prog 29 #[.int .i64 n] w fun e w' => e = .returned (.agg #[.int .i64 n, .int .i64 n, .int .i64 n, .int .i64 n]) ∧ Ext w w' := by
  go_enter Try.func29, Try.ntmps29
  go_wp2
  refine bodyPost_ret (v := .agg #[.int .i64 n, .int .i64 n, .int .i64 n, .int .i64 n]) (by simp [results, Try.results29, go_sem]) rfl ⟨rfl, ?_⟩
  repeat (first | exact Ext.refl _ | apply Ext.drew | apply Ext.drewN | apply Ext.alloc)

set_option maxHeartbeats 400000 in
theorem vec_addZ ( a0 a1 a2 a3 b0 b1 b2 b3 : Int)  (ha0 : -9223372036854775808 ≤ a0 ∧ a0 ≤ 9223372036854775807) (hb0 : -9223372036854775808 ≤ b0 ∧ b0 ≤ 9223372036854775807) (ha1 : -9223372036854775808 ≤ a1 ∧ a1 ≤ 9223372036854775807) (hb1 : -9223372036854775808 ≤ b1 ∧ b1 ≤ 9223372036854775807) (ha2 : -9223372036854775808 ≤ a2 ∧ a2 ≤ 9223372036854775807) (hb2 : -9223372036854775808 ≤ b2 ∧ b2 ≤ 9223372036854775807) (ha3 : -9223372036854775808 ≤ a3 ∧ a3 ≤ 9223372036854775807) (hb3 : -9223372036854775808 ≤ b3 ∧ b3 ≤ 9223372036854775807) (w : World) :
    Calls Try.prog 8 #[.agg #[.int .i64 a0, .int .i64 a1, .int .i64 a2, .int .i64 a3], .agg #[.int .i64 b0, .int .i64 b1, .int .i64 b2, .int .i64 b3]] w
      fun e w' => e = .returned (.agg #[.int .i64 (addZ a0 b0), .int .i64 (addZ a1 b1), .int .i64 (addZ a2 b2), .int .i64 (addZ a3 b3)]) ∧ Ext w w' := by
  go_enter Try.func8, Try.ntmps8
  go_wp2
  go_region_held3 (fun w' => w'.cell? ⟨w.heap.size, 0, none⟩ = some (.int .i64 a0) ∧ w'.cell? ⟨w.heap.size, 1, none⟩ = some (.int .i64 a1) ∧ w'.cell? ⟨w.heap.size, 2, none⟩ = some (.int .i64 a2) ∧ w'.cell? ⟨w.heap.size, 3, none⟩ = some (.int .i64 a3) ∧ w'.cell? ⟨w.heap.size + 1, 0, none⟩ = some (.int .i64 b0) ∧ w'.cell? ⟨w.heap.size + 1, 1, none⟩ = some (.int .i64 b1) ∧ w'.cell? ⟨w.heap.size + 1, 2, none⟩ = some (.int .i64 b2) ∧ w'.cell? ⟨w.heap.size + 1, 3, none⟩ = some (.int .i64 b3)) (simp [go_sem, World.cell?_alloc_lt, *])
    (first | (go_at_call 22; refine (pw_addZ _).mono ?_; rintro e w1 ⟨rfl, rfl⟩) | (go_at_call 34; refine (each_addZ _ _ _ _ _ _ _ _ (by omega) (by omega) (by omega) (by omega) (by omega) (by omega) (by omega) (by omega) _ _ ?_).mono ?_; (simp [go_sem]); rintro e w1 ⟨rfl, hx⟩; have hxc := hx.cells; have hxf := hx.fr))
  go_wp2
  refine bodyPost_ret (v := .agg #[.int .i64 (addZ a0 b0), .int .i64 (addZ a1 b1), .int .i64 (addZ a2 b2), .int .i64 (addZ a3 b3)]) (by simp [results, Try.results8, go_sem, hxc]) rfl ⟨rfl, ?_⟩
  repeat (refine Ext.setCell ?_ (by simp only; omega) _)
  refine Ext.trans ?_ hx
  repeat (first | exact Ext.refl _ | apply Ext.drew | apply Ext.drewN | apply Ext.alloc)

set_option maxHeartbeats 400000 in
theorem vec_subZ ( a0 a1 a2 a3 b0 b1 b2 b3 : Int)  (ha0 : -9223372036854775808 ≤ a0 ∧ a0 ≤ 9223372036854775807) (hb0 : -9223372036854775808 ≤ b0 ∧ b0 ≤ 9223372036854775807) (ha1 : -9223372036854775808 ≤ a1 ∧ a1 ≤ 9223372036854775807) (hb1 : -9223372036854775808 ≤ b1 ∧ b1 ≤ 9223372036854775807) (ha2 : -9223372036854775808 ≤ a2 ∧ a2 ≤ 9223372036854775807) (hb2 : -9223372036854775808 ≤ b2 ∧ b2 ≤ 9223372036854775807) (ha3 : -9223372036854775808 ≤ a3 ∧ a3 ≤ 9223372036854775807) (hb3 : -9223372036854775808 ≤ b3 ∧ b3 ≤ 9223372036854775807) (w : World) :
    Calls Try.prog 9 #[.agg #[.int .i64 a0, .int .i64 a1, .int .i64 a2, .int .i64 a3], .agg #[.int .i64 b0, .int .i64 b1, .int .i64 b2, .int .i64 b3]] w
      fun e w' => e = .returned (.agg #[.int .i64 (subZ a0 b0), .int .i64 (subZ a1 b1), .int .i64 (subZ a2 b2), .int .i64 (subZ a3 b3)]) ∧ Ext w w' := by
  go_enter Try.func9, Try.ntmps9
  go_wp2
  go_region_held3 (fun w' => w'.cell? ⟨w.heap.size, 0, none⟩ = some (.int .i64 a0) ∧ w'.cell? ⟨w.heap.size, 1, none⟩ = some (.int .i64 a1) ∧ w'.cell? ⟨w.heap.size, 2, none⟩ = some (.int .i64 a2) ∧ w'.cell? ⟨w.heap.size, 3, none⟩ = some (.int .i64 a3) ∧ w'.cell? ⟨w.heap.size + 1, 0, none⟩ = some (.int .i64 b0) ∧ w'.cell? ⟨w.heap.size + 1, 1, none⟩ = some (.int .i64 b1) ∧ w'.cell? ⟨w.heap.size + 1, 2, none⟩ = some (.int .i64 b2) ∧ w'.cell? ⟨w.heap.size + 1, 3, none⟩ = some (.int .i64 b3)) (simp [go_sem, World.cell?_alloc_lt, *])
    (first | (go_at_call 22; refine (pw_subZ _).mono ?_; rintro e w1 ⟨rfl, rfl⟩) | (go_at_call 34; refine (each_subZ _ _ _ _ _ _ _ _ (by omega) (by omega) (by omega) (by omega) (by omega) (by omega) (by omega) (by omega) _ _ ?_).mono ?_; (simp [go_sem]); rintro e w1 ⟨rfl, hx⟩; have hxc := hx.cells; have hxf := hx.fr))
  go_wp2
  refine bodyPost_ret (v := .agg #[.int .i64 (subZ a0 b0), .int .i64 (subZ a1 b1), .int .i64 (subZ a2 b2), .int .i64 (subZ a3 b3)]) (by simp [results, Try.results9, go_sem, hxc]) rfl ⟨rfl, ?_⟩
  repeat (refine Ext.setCell ?_ (by simp only; omega) _)
  refine Ext.trans ?_ hx
  repeat (first | exact Ext.refl _ | apply Ext.drew | apply Ext.drewN | apply Ext.alloc)

set_option maxHeartbeats 400000 in
theorem vec_mulZ ( a0 a1 a2 a3 b0 b1 b2 b3 : Int)  (ha0 : -9223372036854775808 ≤ a0 ∧ a0 ≤ 9223372036854775807) (hb0 : -9223372036854775808 ≤ b0 ∧ b0 ≤ 9223372036854775807) (ha1 : -9223372036854775808 ≤ a1 ∧ a1 ≤ 9223372036854775807) (hb1 : -9223372036854775808 ≤ b1 ∧ b1 ≤ 9223372036854775807) (ha2 : -9223372036854775808 ≤ a2 ∧ a2 ≤ 9223372036854775807) (hb2 : -9223372036854775808 ≤ b2 ∧ b2 ≤ 9223372036854775807) (ha3 : -9223372036854775808 ≤ a3 ∧ a3 ≤ 9223372036854775807) (hb3 : -9223372036854775808 ≤ b3 ∧ b3 ≤ 9223372036854775807) (w : World) :
    Calls Try.prog 10 #[.agg #[.int .i64 a0, .int .i64 a1, .int .i64 a2, .int .i64 a3], .agg #[.int .i64 b0, .int .i64 b1, .int .i64 b2, .int .i64 b3]] w
      fun e w' => e = .returned (.agg #[.int .i64 (mulZ a0 b0), .int .i64 (mulZ a1 b1), .int .i64 (mulZ a2 b2), .int .i64 (mulZ a3 b3)]) ∧ Ext w w' := by
  go_enter Try.func10, Try.ntmps10
  go_wp2
  go_region_held3 (fun w' => w'.cell? ⟨w.heap.size, 0, none⟩ = some (.int .i64 a0) ∧ w'.cell? ⟨w.heap.size, 1, none⟩ = some (.int .i64 a1) ∧ w'.cell? ⟨w.heap.size, 2, none⟩ = some (.int .i64 a2) ∧ w'.cell? ⟨w.heap.size, 3, none⟩ = some (.int .i64 a3) ∧ w'.cell? ⟨w.heap.size + 1, 0, none⟩ = some (.int .i64 b0) ∧ w'.cell? ⟨w.heap.size + 1, 1, none⟩ = some (.int .i64 b1) ∧ w'.cell? ⟨w.heap.size + 1, 2, none⟩ = some (.int .i64 b2) ∧ w'.cell? ⟨w.heap.size + 1, 3, none⟩ = some (.int .i64 b3)) (simp [go_sem, World.cell?_alloc_lt, *])
    (first | (go_at_call 22; refine (pw_mulZ _).mono ?_; rintro e w1 ⟨rfl, rfl⟩) | (go_at_call 34; refine (each_mulZ _ _ _ _ _ _ _ _ (by omega) (by omega) (by omega) (by omega) (by omega) (by omega) (by omega) (by omega) _ _ ?_).mono ?_; (simp [go_sem]); rintro e w1 ⟨rfl, hx⟩; have hxc := hx.cells; have hxf := hx.fr))
  go_wp2
  refine bodyPost_ret (v := .agg #[.int .i64 (mulZ a0 b0), .int .i64 (mulZ a1 b1), .int .i64 (mulZ a2 b2), .int .i64 (mulZ a3 b3)]) (by simp [results, Try.results10, go_sem, hxc]) rfl ⟨rfl, ?_⟩
  repeat (refine Ext.setCell ?_ (by simp only; omega) _)
  refine Ext.trans ?_ hx
  repeat (first | exact Ext.refl _ | apply Ext.drew | apply Ext.drewN | apply Ext.alloc)

set_option maxHeartbeats 400000 in
theorem vec_minZ ( a0 a1 a2 a3 b0 b1 b2 b3 : Int)  (ha0 : -9223372036854775808 ≤ a0 ∧ a0 ≤ 9223372036854775807) (hb0 : -9223372036854775808 ≤ b0 ∧ b0 ≤ 9223372036854775807) (ha1 : -9223372036854775808 ≤ a1 ∧ a1 ≤ 9223372036854775807) (hb1 : -9223372036854775808 ≤ b1 ∧ b1 ≤ 9223372036854775807) (ha2 : -9223372036854775808 ≤ a2 ∧ a2 ≤ 9223372036854775807) (hb2 : -9223372036854775808 ≤ b2 ∧ b2 ≤ 9223372036854775807) (ha3 : -9223372036854775808 ≤ a3 ∧ a3 ≤ 9223372036854775807) (hb3 : -9223372036854775808 ≤ b3 ∧ b3 ≤ 9223372036854775807) (w : World) :
    Calls Try.prog 11 #[.agg #[.int .i64 a0, .int .i64 a1, .int .i64 a2, .int .i64 a3], .agg #[.int .i64 b0, .int .i64 b1, .int .i64 b2, .int .i64 b3]] w
      fun e w' => e = .returned (.agg #[.int .i64 (minZ a0 b0), .int .i64 (minZ a1 b1), .int .i64 (minZ a2 b2), .int .i64 (minZ a3 b3)]) ∧ Ext w w' := by
  go_enter Try.func11, Try.ntmps11
  go_wp2_with fail
  with_reducible refine (pw_minZ _).mono ?_
  rintro e w1 ⟨rfl, rfl⟩
  go_wp2_with fail
  refine (each_minZ _ _ _ _ _ _ _ _ (by omega) (by omega) (by omega) (by omega) (by omega) (by omega) (by omega) (by omega) _ _ ?_).mono ?_
  · simp [go_sem]
  rintro e w1 ⟨rfl, hx⟩
  have hxc := hx.cells
  have hxf := hx.fr
  go_wp2
  refine bodyPost_ret (v := .agg #[.int .i64 (minZ a0 b0), .int .i64 (minZ a1 b1), .int .i64 (minZ a2 b2), .int .i64 (minZ a3 b3)]) (by simp [results, Try.results11, go_sem, hxc]) rfl ⟨rfl, ?_⟩
  repeat (refine Ext.setCell ?_ (by simp only; omega) _)
  refine Ext.trans ?_ hx
  repeat (first | exact Ext.refl _ | apply Ext.drew | apply Ext.drewN | apply Ext.alloc)

set_option maxHeartbeats 400000 in
theorem vec_maxZ ( a0 a1 a2 a3 b0 b1 b2 b3 : Int)  (ha0 : -9223372036854775808 ≤ a0 ∧ a0 ≤ 9223372036854775807) (hb0 : -9223372036854775808 ≤ b0 ∧ b0 ≤ 9223372036854775807) (ha1 : -9223372036854775808 ≤ a1 ∧ a1 ≤ 9223372036854775807) (hb1 : -9223372036854775808 ≤ b1 ∧ b1 ≤ 9223372036854775807) (ha2 : -9223372036854775808 ≤ a2 ∧ a2 ≤ 9223372036854775807) (hb2 : -9223372036854775808 ≤ b2 ∧ b2 ≤ 9223372036854775807) (ha3 : -9223372036854775808 ≤ a3 ∧ a3 ≤ 9223372036854775807) (hb3 : -9223372036854775808 ≤ b3 ∧ b3 ≤ 9223372036854775807) (w : World) :
    Calls Try.prog 12 #[.agg #[.int .i64 a0, .int .i64 a1, .int .i64 a2, .int .i64 a3], .agg #[.int .i64 b0, .int .i64 b1, .int .i64 b2, .int .i64 b3]] w
      fun e w' => e = .returned (.agg #[.int .i64 (maxZ a0 b0), .int .i64 (maxZ a1 b1), .int .i64 (maxZ a2 b2), .int .i64 (maxZ a3 b3)]) ∧ Ext w w' := by
  go_enter Try.func12, Try.ntmps12
  go_wp2_with fail
  with_reducible refine (pw_maxZ _).mono ?_
  rintro e w1 ⟨rfl, rfl⟩
  go_wp2_with fail
  refine (each_maxZ _ _ _ _ _ _ _ _ (by omega) (by omega) (by omega) (by omega) (by omega) (by omega) (by omega) (by omega) _ _ ?_).mono ?_
  · simp [go_sem]
  rintro e w1 ⟨rfl, hx⟩
  have hxc := hx.cells
  have hxf := hx.fr
  go_wp2
  refine bodyPost_ret (v := .agg #[.int .i64 (maxZ a0 b0), .int .i64 (maxZ a1 b1), .int .i64 (maxZ a2 b2), .int .i64 (maxZ a3 b3)]) (by simp [results, Try.results12, go_sem, hxc]) rfl ⟨rfl, ?_⟩
  repeat (refine Ext.setCell ?_ (by simp only; omega) _)
  refine Ext.trans ?_ hx
  repeat (first | exact Ext.refl _ | apply Ext.drew | apply Ext.drewN | apply Ext.alloc)

set_option maxHeartbeats 400000 in
theorem vec_scale ( a0 a1 a2 a3 n : Int)  (ha0 : -9223372036854775808 ≤ a0 ∧ a0 ≤ 9223372036854775807) (ha1 : -9223372036854775808 ≤ a1 ∧ a1 ≤ 9223372036854775807) (ha2 : -9223372036854775808 ≤ a2 ∧ a2 ≤ 9223372036854775807) (ha3 : -9223372036854775808 ≤ a3 ∧ a3 ≤ 9223372036854775807) (hn : -9223372036854775808 ≤ n ∧ n ≤ 9223372036854775807) (w : World) :
    Calls Try.prog 13 #[.agg #[.int .i64 a0, .int .i64 a1, .int .i64 a2, .int .i64 a3], .int .i64 n] w
      fun e w' => e = .returned (.agg #[.int .i64 (mulZ a0 n), .int .i64 (mulZ a1 n), .int .i64 (mulZ a2 n), .int .i64 (mulZ a3 n)]) ∧ Ext w w' := by
  go_enter Try.func13, Try.ntmps13
  go_wp2
  go_region_held3 (fun w' => w'.cell? ⟨w.heap.size, 0, none⟩ = some (.int .i64 a0) ∧ w'.cell? ⟨w.heap.size, 1, none⟩ = some (.int .i64 a1) ∧ w'.cell? ⟨w.heap.size, 2, none⟩ = some (.int .i64 a2) ∧ w'.cell? ⟨w.heap.size, 3, none⟩ = some (.int .i64 a3)) (simp [go_sem, World.cell?_alloc_lt, *])
    (first | (go_at_call 29; refine (all_any _ _).mono ?_; rintro e w1 ⟨rfl, hx⟩; have hxc := hx.cells; have hxf := hx.fr; have hz := hx.size; have hz0 : w.heap.size < w1.heap.size := (by simp at hz; omega); have hz1 : w.heap.size + 1 < w1.heap.size := (by simp at hz; omega)) | (go_at_call 10; refine (vec_mulZ _ _ _ _ _ _ _ _ (by omega) (by omega) (by omega) (by omega) (by omega) (by omega) (by omega) (by omega) _).mono ?_; rintro e w2 ⟨rfl, hy⟩; have hyc := hy.cells; have hyf := hy.fr))
  go_wp2
  refine bodyPost_ret (v := .agg #[.int .i64 (mulZ a0 n), .int .i64 (mulZ a1 n), .int .i64 (mulZ a2 n), .int .i64 (mulZ a3 n)]) (by simp [results, Try.results13, go_sem, hxc, hyc, hz1]) rfl ⟨rfl, ?_⟩
  repeat (refine Ext.setCell ?_ (by simp only; omega) _)
  refine Ext.trans (Ext.trans ?_ hx) hy
  repeat (first | exact Ext.refl _ | apply Ext.drew | apply Ext.drewN | apply Ext.alloc)

set_option maxHeartbeats 400000 in
theorem vec_within ( a0 a1 a2 a3 n : Int)  (ha0 : -9223372036854775808 ≤ a0 ∧ a0 ≤ 9223372036854775807) (ha1 : -9223372036854775808 ≤ a1 ∧ a1 ≤ 9223372036854775807) (ha2 : -9223372036854775808 ≤ a2 ∧ a2 ≤ 9223372036854775807) (ha3 : -9223372036854775808 ≤ a3 ∧ a3 ≤ 9223372036854775807) (hn : -9223372036854775808 ≤ n ∧ n ≤ 9223372036854775807) (w : World) :
    Calls Try.prog 14 #[.agg #[.int .i64 a0, .int .i64 a1, .int .i64 a2, .int .i64 a3], .int .i64 n] w
      fun e w' => e = .returned (.agg #[.int .i64 (withinW a0 n), .int .i64 (withinW a1 n), .int .i64 (withinW a2 n), .int .i64 (withinW a3 n)]) ∧ Ext w w' := by
  go_enter Try.func14, Try.ntmps14
  go_wp2
  go_region_held3 (fun w' => w'.cell? ⟨w.heap.size, 0, none⟩ = some (.int .i64 a0) ∧ w'.cell? ⟨w.heap.size, 1, none⟩ = some (.int .i64 a1) ∧ w'.cell? ⟨w.heap.size, 2, none⟩ = some (.int .i64 a2) ∧ w'.cell? ⟨w.heap.size, 3, none⟩ = some (.int .i64 a3)) (simp [go_sem, World.cell?_alloc_lt, *])
    (first | (go_at_call 22; refine (pw_withinW _).mono ?_; rintro e w1 ⟨rfl, rfl⟩) | (go_at_call 29; refine (all_any _ _).mono ?_; rintro e w1 ⟨rfl, hx⟩; have hxc := hx.cells; have hxf := hx.fr; have hz := hx.size; have hz0 : w.heap.size < w1.heap.size := (by simp at hz; omega); have hz1 : w.heap.size + 1 < w1.heap.size := (by simp at hz; omega)) | (go_at_call 34; refine (each_withinW _ _ _ _ _ _ _ _ (by omega) (by omega) (by omega) (by omega) (by omega) (by omega) (by omega) (by omega) _ _ ?_).mono ?_; (simp [go_sem, hxc]); rintro e w2 ⟨rfl, hy⟩; have hyc := hy.cells; have hyf := hy.fr))
  go_wp2
  refine bodyPost_ret (v := .agg #[.int .i64 (withinW a0 n), .int .i64 (withinW a1 n), .int .i64 (withinW a2 n), .int .i64 (withinW a3 n)]) (by simp [results, Try.results14, go_sem, hxc, hyc, hz1]) rfl ⟨rfl, ?_⟩
  repeat (refine Ext.setCell ?_ (by simp only; omega) _)
  refine Ext.trans (Ext.trans ?_ hx) hy
  repeat (first | exact Ext.refl _ | apply Ext.drew | apply Ext.drewN | apply Ext.alloc)

end Go.Proofs.Ythpobegfiflppaa
