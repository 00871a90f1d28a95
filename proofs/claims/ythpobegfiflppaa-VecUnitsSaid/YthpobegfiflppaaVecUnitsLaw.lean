/-
  DERIVED. The walk of the law VecUnits: it returns true, whatever the numbers.
-/
import Derived.Test.YthpobegfiflppaaVecUnitCalls
import Derived.Test.YthpobegfiflppaaVecMakes
namespace Go.Proofs.Ythpobegfiflppaa
open Go.RowKit
set_option linter.unusedVariables false

set_option maxRecDepth 100000 in
set_option maxHeartbeats 8000000 in
theorem vecUnits_row (l0 l1 l2 l3 l4 l5 l6 l7 l8 l9 l10 l11 l12 l13 l14 l15 v0 v1 v2 v3 : Int) (hl0 : -2147483648 ≤ l0 ∧ l0 ≤ 2147483647) (hl1 : -2147483648 ≤ l1 ∧ l1 ≤ 2147483647) (hl2 : -2147483648 ≤ l2 ∧ l2 ≤ 2147483647) (hl3 : -2147483648 ≤ l3 ∧ l3 ≤ 2147483647) (hl4 : -2147483648 ≤ l4 ∧ l4 ≤ 2147483647) (hl5 : -2147483648 ≤ l5 ∧ l5 ≤ 2147483647) (hl6 : -2147483648 ≤ l6 ∧ l6 ≤ 2147483647) (hl7 : -2147483648 ≤ l7 ∧ l7 ≤ 2147483647) (hl8 : -2147483648 ≤ l8 ∧ l8 ≤ 2147483647) (hl9 : -2147483648 ≤ l9 ∧ l9 ≤ 2147483647) (hl10 : -2147483648 ≤ l10 ∧ l10 ≤ 2147483647) (hl11 : -2147483648 ≤ l11 ∧ l11 ≤ 2147483647) (hl12 : -2147483648 ≤ l12 ∧ l12 ≤ 2147483647) (hl13 : -2147483648 ≤ l13 ∧ l13 ≤ 2147483647) (hl14 : -2147483648 ≤ l14 ∧ l14 ≤ 2147483647) (hl15 : -2147483648 ≤ l15 ∧ l15 ≤ 2147483647) (hv0 : -2147483648 ≤ v0 ∧ v0 ≤ 2147483647) (hv1 : -2147483648 ≤ v1 ∧ v1 ≤ 2147483647) (hv2 : -2147483648 ≤ v2 ∧ v2 ≤ 2147483647) (hv3 : -2147483648 ≤ v3 ∧ v3 ≤ 2147483647) (w : World) :
    Calls Try.prog 5 #[.agg #[.int .i32 l0, .int .i32 l1, .int .i32 l2, .int .i32 l3, .int .i32 l4, .int .i32 l5, .int .i32 l6, .int .i32 l7, .int .i32 l8, .int .i32 l9, .int .i32 l10, .int .i32 l11, .int .i32 l12, .int .i32 l13, .int .i32 l14, .int .i32 l15], .agg #[.int .i32 v0, .int .i32 v1, .int .i32 v2, .int .i32 v3]] w fun e w' => e = .returned (.bool true) ∧ Ext w w' := by
  have hE := eqV
  have hEM := eqM
  have hmx := maxI_fold
  have bl0 : -2147483647 ≤ maxI l0 (-2147483647) ∧ maxI l0 (-2147483647) ≤ 2147483647 := by rw [maxI_eq]; omega
  have bl1 : -2147483647 ≤ maxI l1 (-2147483647) ∧ maxI l1 (-2147483647) ≤ 2147483647 := by rw [maxI_eq]; omega
  have bl2 : -2147483647 ≤ maxI l2 (-2147483647) ∧ maxI l2 (-2147483647) ≤ 2147483647 := by rw [maxI_eq]; omega
  have bl3 : -2147483647 ≤ maxI l3 (-2147483647) ∧ maxI l3 (-2147483647) ≤ 2147483647 := by rw [maxI_eq]; omega
  have bl4 : -2147483647 ≤ maxI l4 (-2147483647) ∧ maxI l4 (-2147483647) ≤ 2147483647 := by rw [maxI_eq]; omega
  have bl5 : -2147483647 ≤ maxI l5 (-2147483647) ∧ maxI l5 (-2147483647) ≤ 2147483647 := by rw [maxI_eq]; omega
  have bl6 : -2147483647 ≤ maxI l6 (-2147483647) ∧ maxI l6 (-2147483647) ≤ 2147483647 := by rw [maxI_eq]; omega
  have bl7 : -2147483647 ≤ maxI l7 (-2147483647) ∧ maxI l7 (-2147483647) ≤ 2147483647 := by rw [maxI_eq]; omega
  have bl8 : -2147483647 ≤ maxI l8 (-2147483647) ∧ maxI l8 (-2147483647) ≤ 2147483647 := by rw [maxI_eq]; omega
  have bl9 : -2147483647 ≤ maxI l9 (-2147483647) ∧ maxI l9 (-2147483647) ≤ 2147483647 := by rw [maxI_eq]; omega
  have bl10 : -2147483647 ≤ maxI l10 (-2147483647) ∧ maxI l10 (-2147483647) ≤ 2147483647 := by rw [maxI_eq]; omega
  have bl11 : -2147483647 ≤ maxI l11 (-2147483647) ∧ maxI l11 (-2147483647) ≤ 2147483647 := by rw [maxI_eq]; omega
  have bl12 : -2147483647 ≤ maxI l12 (-2147483647) ∧ maxI l12 (-2147483647) ≤ 2147483647 := by rw [maxI_eq]; omega
  have bl13 : -2147483647 ≤ maxI l13 (-2147483647) ∧ maxI l13 (-2147483647) ≤ 2147483647 := by rw [maxI_eq]; omega
  have bl14 : -2147483647 ≤ maxI l14 (-2147483647) ∧ maxI l14 (-2147483647) ≤ 2147483647 := by rw [maxI_eq]; omega
  have bl15 : -2147483647 ≤ maxI l15 (-2147483647) ∧ maxI l15 (-2147483647) ≤ 2147483647 := by rw [maxI_eq]; omega
  have bv0 : -2147483647 ≤ maxI v0 (-2147483647) ∧ maxI v0 (-2147483647) ≤ 2147483647 := by rw [maxI_eq]; omega
  have bv1 : -2147483647 ≤ maxI v1 (-2147483647) ∧ maxI v1 (-2147483647) ≤ 2147483647 := by rw [maxI_eq]; omega
  have bv2 : -2147483647 ≤ maxI v2 (-2147483647) ∧ maxI v2 (-2147483647) ≤ 2147483647 := by rw [maxI_eq]; omega
  have bv3 : -2147483647 ≤ maxI v3 (-2147483647) ∧ maxI v3 (-2147483647) ≤ 2147483647 := by rw [maxI_eq]; omega
  go_enter Try.func5, Try.ntmps5
  go_wp2_with fail
  with_reducible refine (awake2_any _).mono ?_
  rintro e w1 ⟨rfl, hx1⟩
  have L1 : Blk w1 w.heap.size #[.int .i32 l0, .int .i32 l1, .int .i32 l2, .int .i32 l3, .int .i32 l4, .int .i32 l5, .int .i32 l6, .int .i32 l7, .int .i32 l8, .int .i32 l9, .int .i32 l10, .int .i32 l11, .int .i32 l12, .int .i32 l13, .int .i32 l14, .int .i32 l15] 37 := ((Blk.new w _ _).alloc _).ext hx1
  have V1 : Blk w1 (w.heap.size + 1) #[.int .i32 v0, .int .i32 v1, .int .i32 v2, .int .i32 v3] 36 := (Blk.new' (by simp) _ _).ext hx1
  have e1 : Ext w w1 := Ext.trans (((Ext.refl w).alloc _ _).alloc _ _) hx1
  clear hx1
  have hal := @World.cell?_alloc_lt
  have cL := L1.cell
  have cV := V1.cell
  have zL := L1.lt
  have zV := V1.lt
  have zL' : w.heap.size < w1.heap.size + 1 := by omega
  have zL'' : w.heap.size < w1.heap.size + 1 + 1 := by omega
  have zV' : w.heap.size + 1 < w1.heap.size + 1 := by omega
  go_wp2
  refine wp_loop_rounds 5 ?_
  rw [rounds_succ]
  go_wp2
  refine wp_loop_rounds 5 ?_
  rw [rounds_succ]
  go_wp2
  go_region
  go_wp2
  rw [rounds_succ]
  go_wp2
  go_region
  go_wp2
  rw [rounds_succ]
  go_wp2
  go_region
  go_wp2
  rw [rounds_succ]
  go_wp2
  go_region
  go_wp2
  rw [rounds_succ]
  go_wp2
  rw [rounds_succ]
  go_wp2
  refine wp_loop_rounds 5 ?_
  rw [rounds_succ]
  go_wp2
  go_region
  go_wp2
  rw [rounds_succ]
  go_wp2
  go_region
  go_wp2
  rw [rounds_succ]
  go_wp2
  go_region
  go_wp2
  rw [rounds_succ]
  go_wp2
  go_region
  go_wp2
  rw [rounds_succ]
  go_wp2
  rw [rounds_succ]
  go_wp2
  refine wp_loop_rounds 5 ?_
  rw [rounds_succ]
  go_wp2
  go_region
  go_wp2
  rw [rounds_succ]
  go_wp2
  go_region
  go_wp2
  rw [rounds_succ]
  go_wp2
  go_region
  go_wp2
  rw [rounds_succ]
  go_wp2
  go_region
  go_wp2
  rw [rounds_succ]
  go_wp2
  rw [rounds_succ]
  go_wp2
  refine wp_loop_rounds 5 ?_
  rw [rounds_succ]
  go_wp2
  go_region
  go_wp2
  rw [rounds_succ]
  go_wp2
  go_region
  go_wp2
  rw [rounds_succ]
  go_wp2
  go_region
  go_wp2
  rw [rounds_succ]
  go_wp2
  go_region
  go_wp2
  rw [rounds_succ]
  go_wp2
  rw [rounds_succ]
  go_wp2_with fail
  with_reducible refine (unit_any _).mono ?_
  rintro e w2 ⟨rfl, hx2⟩
  have M2 : Blk w2 w1.heap.size #[.int .i64 (maxI l0 (-2147483647)), .int .i64 (maxI l1 (-2147483647)), .int .i64 (maxI l2 (-2147483647)), .int .i64 (maxI l3 (-2147483647)), .int .i64 (maxI l4 (-2147483647)), .int .i64 (maxI l5 (-2147483647)), .int .i64 (maxI l6 (-2147483647)), .int .i64 (maxI l7 (-2147483647)), .int .i64 (maxI l8 (-2147483647)), .int .i64 (maxI l9 (-2147483647)), .int .i64 (maxI l10 (-2147483647)), .int .i64 (maxI l11 (-2147483647)), .int .i64 (maxI l12 (-2147483647)), .int .i64 (maxI l13 (-2147483647)), .int .i64 (maxI l14 (-2147483647)), .int .i64 (maxI l15 (-2147483647))] 33 := by
    refine Blk.ext ?_ hx2
    repeat (apply Blk.drew)
    exact (Blk.new w1 _ _).alloc _
  have X2 : Blk w2 (w1.heap.size + 1) #[.int .i64 (maxI v0 (-2147483647)), .int .i64 (maxI v1 (-2147483647)), .int .i64 (maxI v2 (-2147483647)), .int .i64 (maxI v3 (-2147483647))] 23 := by
    refine Blk.ext ?_ hx2
    repeat (apply Blk.drew)
    exact Blk.new' (by simp) _ _
  have e2 : Ext w w2 := by
    refine Ext.trans ?_ hx2
    repeat (first | exact e1 | apply Ext.drew | apply Ext.alloc)
  clear hx2 e1 cL cV zL zV zL' zL'' zV' hal
  go_wp2
  apply wp_region_reads2 _ (by kernel_rfl) (by kernel_rfl)
  case H =>
    intro x hx
    have hne : Nonempty (Wx x) := ⟨⟨x, Ext.refl x⟩⟩
    have qX := fun (y : Wx x) => ((X2.alloc _).ext (hx.trans y.ext)).cell
    have bM := fun (y : Wx x) => (M2.alloc _).ext (hx.trans y.ext)
    have bU := fun (y : Wx x) => (Blk.new w2 _ _).ext (hx.trans y.ext)
    iterate 6 (first | (go_big_quiet_want; (with_reducible refine quiet_load_blk (op := ⟨some 39, _, _, _, _, _⟩) 33 (.tmp 9) ?_ (w2.heap.size) ?_ (z := #[.int .i64 65536, .int .i64 0, .int .i64 0, .int .i64 0, .int .i64 0, .int .i64 65536, .int .i64 0, .int .i64 0, .int .i64 0, .int .i64 0, .int .i64 65536, .int .i64 0, .int .i64 0, .int .i64 0, .int .i64 0, .int .i64 65536]) (T := 33) ?_ Try.underlying33 ?_ ?_ ?_); rfl; rfl; exact (fun u hu => by obtain ⟨y, rfl⟩ := hu; exact bU y); rfl; kernel_rfl; simp only [Act.put, List.setIfInBounds_toArray, List.set_cons_succ, List.set_cons_zero]; go_big_quiet_on) | (go_big_quiet_want; (with_reducible refine quiet_load_blk (op := ⟨some 40, _, _, _, _, _⟩) 33 (.tmp 5) ?_ (w1.heap.size) ?_ (z := #[.int .i64 (maxI l0 (-2147483647)), .int .i64 (maxI l1 (-2147483647)), .int .i64 (maxI l2 (-2147483647)), .int .i64 (maxI l3 (-2147483647)), .int .i64 (maxI l4 (-2147483647)), .int .i64 (maxI l5 (-2147483647)), .int .i64 (maxI l6 (-2147483647)), .int .i64 (maxI l7 (-2147483647)), .int .i64 (maxI l8 (-2147483647)), .int .i64 (maxI l9 (-2147483647)), .int .i64 (maxI l10 (-2147483647)), .int .i64 (maxI l11 (-2147483647)), .int .i64 (maxI l12 (-2147483647)), .int .i64 (maxI l13 (-2147483647)), .int .i64 (maxI l14 (-2147483647)), .int .i64 (maxI l15 (-2147483647))]) (T := 33) ?_ Try.underlying33 ?_ ?_ ?_); rfl; rfl; exact (fun u hu => by obtain ⟨y, rfl⟩ := hu; exact bM y); rfl; kernel_rfl; simp only [Act.put, List.setIfInBounds_toArray, List.set_cons_succ, List.set_cons_zero]; go_big_quiet_on) | (go_big_quiet_want; (with_reducible refine quiet_load_blk (op := ⟨some 42, _, _, _, _, _⟩) 33 (.tmp 5) ?_ (w1.heap.size) ?_ (z := #[.int .i64 (maxI l0 (-2147483647)), .int .i64 (maxI l1 (-2147483647)), .int .i64 (maxI l2 (-2147483647)), .int .i64 (maxI l3 (-2147483647)), .int .i64 (maxI l4 (-2147483647)), .int .i64 (maxI l5 (-2147483647)), .int .i64 (maxI l6 (-2147483647)), .int .i64 (maxI l7 (-2147483647)), .int .i64 (maxI l8 (-2147483647)), .int .i64 (maxI l9 (-2147483647)), .int .i64 (maxI l10 (-2147483647)), .int .i64 (maxI l11 (-2147483647)), .int .i64 (maxI l12 (-2147483647)), .int .i64 (maxI l13 (-2147483647)), .int .i64 (maxI l14 (-2147483647)), .int .i64 (maxI l15 (-2147483647))]) (T := 33) ?_ Try.underlying33 ?_ ?_ ?_); rfl; rfl; exact (fun u hu => by obtain ⟨y, rfl⟩ := hu; exact bM y); rfl; kernel_rfl; simp only [Act.put, List.setIfInBounds_toArray, List.set_cons_succ, List.set_cons_zero]; go_big_quiet_on) | go_big_quiet_step ((go_at_call 20; exact calm_of (by_unit_l _ _ _ _ _ _ _ _ _ _ _ _ _ _ _ _ (by omega) (by omega) (by omega) (by omega) (by omega) (by omega) (by omega) (by omega) (by omega) (by omega) (by omega) (by omega) (by omega) (by omega) (by omega) (by omega) _))))
    repeat (first | (go_big_quiet_want; (with_reducible refine quiet_load_blk (op := ⟨some 45, _, _, _, _, _⟩) 33 (.tmp 5) ?_ (w1.heap.size) ?_ (z := #[.int .i64 (maxI l0 (-2147483647)), .int .i64 (maxI l1 (-2147483647)), .int .i64 (maxI l2 (-2147483647)), .int .i64 (maxI l3 (-2147483647)), .int .i64 (maxI l4 (-2147483647)), .int .i64 (maxI l5 (-2147483647)), .int .i64 (maxI l6 (-2147483647)), .int .i64 (maxI l7 (-2147483647)), .int .i64 (maxI l8 (-2147483647)), .int .i64 (maxI l9 (-2147483647)), .int .i64 (maxI l10 (-2147483647)), .int .i64 (maxI l11 (-2147483647)), .int .i64 (maxI l12 (-2147483647)), .int .i64 (maxI l13 (-2147483647)), .int .i64 (maxI l14 (-2147483647)), .int .i64 (maxI l15 (-2147483647))]) (T := 33) ?_ Try.underlying33 ?_ ?_ ?_); rfl; rfl; exact (fun u hu => by obtain ⟨y, rfl⟩ := hu; exact bM y); rfl; kernel_rfl; simp only [Act.put, List.setIfInBounds_toArray, List.set_cons_succ, List.set_cons_zero]; go_big_quiet_on) | (go_big_quiet_want; (with_reducible refine quiet_load_blk (op := ⟨some 46, _, _, _, _, _⟩) 33 (.tmp 9) ?_ (w2.heap.size) ?_ (z := #[.int .i64 65536, .int .i64 0, .int .i64 0, .int .i64 0, .int .i64 0, .int .i64 65536, .int .i64 0, .int .i64 0, .int .i64 0, .int .i64 0, .int .i64 65536, .int .i64 0, .int .i64 0, .int .i64 0, .int .i64 0, .int .i64 65536]) (T := 33) ?_ Try.underlying33 ?_ ?_ ?_); rfl; rfl; exact (fun u hu => by obtain ⟨y, rfl⟩ := hu; exact bU y); rfl; kernel_rfl; simp only [Act.put, List.setIfInBounds_toArray, List.set_cons_succ, List.set_cons_zero]; go_big_quiet_on) | (go_big_quiet_want; (with_reducible refine quiet_load_blk (op := ⟨some 48, _, _, _, _, _⟩) 33 (.tmp 5) ?_ (w1.heap.size) ?_ (z := #[.int .i64 (maxI l0 (-2147483647)), .int .i64 (maxI l1 (-2147483647)), .int .i64 (maxI l2 (-2147483647)), .int .i64 (maxI l3 (-2147483647)), .int .i64 (maxI l4 (-2147483647)), .int .i64 (maxI l5 (-2147483647)), .int .i64 (maxI l6 (-2147483647)), .int .i64 (maxI l7 (-2147483647)), .int .i64 (maxI l8 (-2147483647)), .int .i64 (maxI l9 (-2147483647)), .int .i64 (maxI l10 (-2147483647)), .int .i64 (maxI l11 (-2147483647)), .int .i64 (maxI l12 (-2147483647)), .int .i64 (maxI l13 (-2147483647)), .int .i64 (maxI l14 (-2147483647)), .int .i64 (maxI l15 (-2147483647))]) (T := 33) ?_ Try.underlying33 ?_ ?_ ?_); rfl; rfl; exact (fun u hu => by obtain ⟨y, rfl⟩ := hu; exact bM y); rfl; kernel_rfl; simp only [Act.put, List.setIfInBounds_toArray, List.set_cons_succ, List.set_cons_zero]; go_big_quiet_on) | (go_big_quiet_want; (with_reducible refine quiet_load_blk (op := ⟨some 52, _, _, _, _, _⟩) 33 (.tmp 9) ?_ (w2.heap.size) ?_ (z := #[.int .i64 65536, .int .i64 0, .int .i64 0, .int .i64 0, .int .i64 0, .int .i64 65536, .int .i64 0, .int .i64 0, .int .i64 0, .int .i64 0, .int .i64 65536, .int .i64 0, .int .i64 0, .int .i64 0, .int .i64 0, .int .i64 65536]) (T := 33) ?_ Try.underlying33 ?_ ?_ ?_); rfl; rfl; exact (fun u hu => by obtain ⟨y, rfl⟩ := hu; exact bU y); rfl; kernel_rfl; simp only [Act.put, List.setIfInBounds_toArray, List.set_cons_succ, List.set_cons_zero]; go_big_quiet_on) | go_big_quiet_step (first
      | (go_at_call 20; exact calm_of (by_unit_r _ _ _ _ _ _ _ _ _ _ _ _ _ _ _ _ (by omega) (by omega) (by omega) (by omega) (by omega) (by omega) (by omega) (by omega) (by omega) (by omega) (by omega) (by omega) (by omega) (by omega) (by omega) (by omega) _))
      | (go_at_call 19; exact calm_of (times_unit _ _ _ _ (by omega) (by omega) (by omega) (by omega) _))
      | (go_at_call 17; exact calm_of (dot_nought _ _ _ _ (by omega) (by omega) (by omega) (by omega) _))
      | (go_at_call 13; exact calm_of (scale_unit _ _ _ _ (by omega) (by omega) (by omega) (by omega) _))))
    exact wpQuiet_nil rfl
  intro w3 hx3
  go_wp2
  go_ret
  exact ⟨rfl, (e2.alloc _ _).trans hx3⟩

end Go.Proofs.Ythpobegfiflppaa
