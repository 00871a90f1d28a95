/-
  DERIVED. The walk of the law VecOrders: it returns true, whatever the vectors and numbers.
-/
import Derived.Test.YthpobegfiflppaaVecAwake
import Derived.Test.YthpobegfiflppaaMinMax
import Derived.Test.YthpobegfiflppaaVecMakes
namespace Go.Proofs.Ythpobegfiflppaa
open Go.RowKit
set_option linter.unusedVariables false

theorem minZ_bd (a b : Int) : -2147483647 ≤ minZ a b ∧ minZ a b ≤ 2147483647 := by
  have h1 := clampZ_bd a
  have h2 := clampZ_bd b
  unfold minZ; omega
theorem maxZ_bd (a b : Int) : -2147483647 ≤ maxZ a b ∧ maxZ a b ≤ 2147483647 := by
  have h1 := clampZ_bd a
  have h2 := clampZ_bd b
  unfold maxZ; omega
theorem minZ_comm (a b : Int) : minZ a b = minZ b a := by unfold minZ; omega
theorem maxZ_comm (a b : Int) : maxZ a b = maxZ b a := by unfold maxZ; omega
theorem clampZ_min (a b : Int) : clampZ (minZ a b) = minZ a b := clampZ_id (minZ_bd a b).1 (minZ_bd a b).2
theorem clampZ_max (a b : Int) : clampZ (maxZ a b) = maxZ a b := clampZ_id (maxZ_bd a b).1 (maxZ_bd a b).2
theorem add_min_max (a b : Int) : addZ (minZ a b) (maxZ a b) = addZ a b := by
  unfold addZ
  rw [clampZ_min, clampZ_max]
  have e : minZ a b + maxZ a b = clampZ a + clampZ b := by unfold minZ maxZ; omega
  rw [e]
theorem min_min_max (a b : Int) : minZ (minZ a b) (maxZ a b) = minZ a b := by
  have e : minZ (minZ a b) (maxZ a b) = min (minZ a b) (maxZ a b) := by
    rw [minZ, clampZ_min, clampZ_max]
  rw [e]; unfold minZ maxZ; omega
theorem subZ_self (a : Int) : subZ a a = 0 := by
  unfold subZ; rw [Int.sub_self]; decide +kernel
theorem dotZ_comm (a0 a1 a2 a3 b0 b1 b2 b3 : Int) : dotZ b0 b1 b2 b3 a0 a1 a2 a3 = dotZ a0 a1 a2 a3 b0 b1 b2 b3 := by
  unfold dotZ; rw [mulZ_comm b0, mulZ_comm b1, mulZ_comm b2, mulZ_comm b3]
theorem quarter (c : Int) (h : -2147483648 ≤ c ∧ c ≤ 2147483647) : ∃ y : Int, c.tdiv 4 = y ∧ -536870912 ≤ y ∧ y ≤ 536870912 := by
  refine ⟨_, rfl, ?_⟩
  have h1 : (c.tdiv 4).natAbs = c.natAbs / (4 : Int).natAbs := Int.natAbs_tdiv c 4
  have h2 : (4 : Int).natAbs = 4 := rfl
  rw [h2] at h1
  omega
theorem twice_less (y : Int) (h1 : -536870912 ≤ y) (h2 : y ≤ 536870912) : subZ (addZ y y) y = y := by unfold subZ addZ clampZ; omega
theorem within_id (y : Int) (h1 : -536870912 ≤ y) (h2 : y ≤ 536870912) : withinW y 2147483647 = y := by unfold withinW withinZ; omega

set_option maxRecDepth 100000 in
set_option maxHeartbeats 8000000 in
theorem vecOrders_row (a0 a1 a2 a3 b0 b1 b2 b3 c0 c1 c2 c3 : Int) (ha0 : -9223372036854775808 ≤ a0 ∧ a0 ≤ 9223372036854775807) (ha1 : -9223372036854775808 ≤ a1 ∧ a1 ≤ 9223372036854775807) (ha2 : -9223372036854775808 ≤ a2 ∧ a2 ≤ 9223372036854775807) (ha3 : -9223372036854775808 ≤ a3 ∧ a3 ≤ 9223372036854775807) (hb0 : -9223372036854775808 ≤ b0 ∧ b0 ≤ 9223372036854775807) (hb1 : -9223372036854775808 ≤ b1 ∧ b1 ≤ 9223372036854775807) (hb2 : -9223372036854775808 ≤ b2 ∧ b2 ≤ 9223372036854775807) (hb3 : -9223372036854775808 ≤ b3 ∧ b3 ≤ 9223372036854775807) (hc0 : -2147483648 ≤ c0 ∧ c0 ≤ 2147483647) (hc1 : -2147483648 ≤ c1 ∧ c1 ≤ 2147483647) (hc2 : -2147483648 ≤ c2 ∧ c2 ≤ 2147483647) (hc3 : -2147483648 ≤ c3 ∧ c3 ≤ 2147483647) (w : World) :
    Calls Try.prog 6 #[.agg #[.int .i64 a0, .int .i64 a1, .int .i64 a2, .int .i64 a3], .agg #[.int .i64 b0, .int .i64 b1, .int .i64 b2, .int .i64 b3], .agg #[.int .i32 c0, .int .i32 c1, .int .i32 c2, .int .i32 c3]] w fun e w' => e = .returned (.bool true) ∧ Ext w w' := by
  have hE := eqV
  have hI := idxC
  obtain ⟨y0, hy0, ly0, uy0⟩ := quarter c0 hc0
  have zy0 : -9223372036854775808 ≤ y0 ∧ y0 ≤ 9223372036854775807 := by omega
  have kn0 := minZ_bd a0 b0
  have kx0 := maxZ_bd a0 b0
  have ky0 := addZ_bd y0 y0
  have rn0 : minZ b0 a0 = minZ a0 b0 := minZ_comm _ _
  have rx0 : maxZ b0 a0 = maxZ a0 b0 := maxZ_comm _ _
  have ra0 : addZ b0 a0 = addZ a0 b0 := addZ_comm _ _
  have rt0 := twice_less y0 ly0 uy0
  have rw0 := within_id y0 ly0 uy0
  have rd0 : decide (maxZ a0 b0 < minZ a0 b0) = false := by
    have : minZ a0 b0 ≤ maxZ a0 b0 := by unfold minZ maxZ; omega
    simpa using this
  obtain ⟨y1, hy1, ly1, uy1⟩ := quarter c1 hc1
  have zy1 : -9223372036854775808 ≤ y1 ∧ y1 ≤ 9223372036854775807 := by omega
  have kn1 := minZ_bd a1 b1
  have kx1 := maxZ_bd a1 b1
  have ky1 := addZ_bd y1 y1
  have rn1 : minZ b1 a1 = minZ a1 b1 := minZ_comm _ _
  have rx1 : maxZ b1 a1 = maxZ a1 b1 := maxZ_comm _ _
  have ra1 : addZ b1 a1 = addZ a1 b1 := addZ_comm _ _
  have rt1 := twice_less y1 ly1 uy1
  have rw1 := within_id y1 ly1 uy1
  have rd1 : decide (maxZ a1 b1 < minZ a1 b1) = false := by
    have : minZ a1 b1 ≤ maxZ a1 b1 := by unfold minZ maxZ; omega
    simpa using this
  obtain ⟨y2, hy2, ly2, uy2⟩ := quarter c2 hc2
  have zy2 : -9223372036854775808 ≤ y2 ∧ y2 ≤ 9223372036854775807 := by omega
  have kn2 := minZ_bd a2 b2
  have kx2 := maxZ_bd a2 b2
  have ky2 := addZ_bd y2 y2
  have rn2 : minZ b2 a2 = minZ a2 b2 := minZ_comm _ _
  have rx2 : maxZ b2 a2 = maxZ a2 b2 := maxZ_comm _ _
  have ra2 : addZ b2 a2 = addZ a2 b2 := addZ_comm _ _
  have rt2 := twice_less y2 ly2 uy2
  have rw2 := within_id y2 ly2 uy2
  have rd2 : decide (maxZ a2 b2 < minZ a2 b2) = false := by
    have : minZ a2 b2 ≤ maxZ a2 b2 := by unfold minZ maxZ; omega
    simpa using this
  obtain ⟨y3, hy3, ly3, uy3⟩ := quarter c3 hc3
  have zy3 : -9223372036854775808 ≤ y3 ∧ y3 ≤ 9223372036854775807 := by omega
  have kn3 := minZ_bd a3 b3
  have kx3 := maxZ_bd a3 b3
  have ky3 := addZ_bd y3 y3
  have rn3 : minZ b3 a3 = minZ a3 b3 := minZ_comm _ _
  have rx3 : maxZ b3 a3 = maxZ a3 b3 := maxZ_comm _ _
  have ra3 : addZ b3 a3 = addZ a3 b3 := addZ_comm _ _
  have rt3 := twice_less y3 ly3 uy3
  have rw3 := within_id y3 ly3 uy3
  have rd3 : decide (maxZ a3 b3 < minZ a3 b3) = false := by
    have : minZ a3 b3 ≤ maxZ a3 b3 := by unfold minZ maxZ; omega
    simpa using this
  have hmm := add_min_max
  have hmi := min_min_max
  have hss := subZ_self
  have hdd := dotZ_comm a0 a1 a2 a3 b0 b1 b2 b3
  go_enter Try.func6, Try.ntmps6
  go_wp2_with fail
  with_reducible refine (awake2_any _).mono ?_
  rintro e w1 ⟨rfl, hx1⟩
  have A1 : Blk w1 w.heap.size #[.int .i64 a0, .int .i64 a1, .int .i64 a2, .int .i64 a3] 23 := (((Blk.new w _ _).alloc _).alloc _).ext hx1
  have B1 : Blk w1 (w.heap.size + 1) #[.int .i64 b0, .int .i64 b1, .int .i64 b2, .int .i64 b3] 23 := ((Blk.new' (by simp) _ _).alloc _).ext hx1
  have C1 : Blk w1 (w.heap.size + 1 + 1) #[.int .i32 c0, .int .i32 c1, .int .i32 c2, .int .i32 c3] 36 := (Blk.new' (by simp) _ _).ext hx1
  have e1 : Ext w w1 := Ext.trans ((((Ext.refl w).alloc _ _).alloc _ _).alloc _ _) hx1
  clear hx1
  go_wp2
  apply wp_region_vars [false, false, false, false, false, false, true, true, true, true] [] [⟨some 6, 7, 0, some 8, 23, #[.int .i64 0, .int .i64 0, .int .i64 0, .int .i64 0], #[.int .i64 (minZ a0 b0), .int .i64 (minZ a1 b1), .int .i64 (minZ a2 b2), .int .i64 (minZ a3 b3)]⟩, ⟨some 7, 8, 0, some 9, 23, #[.int .i64 0, .int .i64 0, .int .i64 0, .int .i64 0], #[.int .i64 (maxZ a0 b0), .int .i64 (maxZ a1 b1), .int .i64 (maxZ a2 b2), .int .i64 (maxZ a3 b3)]⟩] _ (by kernel_rfl) (by kernel_rfl) (by kernel_rfl)
  case H =>
    intro x hx
    have hne : Nonempty (Wx x) := ⟨⟨x, Ext.refl x⟩⟩
    have q0 := fun (y : Wx x) => ((A1.calm hx (by simp)).ext y.ext).cell
    have q1 := fun (y : Wx x) => ((B1.calm hx (by simp)).ext y.ext).cell
    simp only [eraseM]
    repeat (go_big_quiet_step (first
      | (go_at_call 11; exact calm_of (vec_minZ _ _ _ _ _ _ _ _ (by omega) (by omega) (by omega) (by omega) (by omega) (by omega) (by omega) (by omega) _))
      | (go_at_call 12; exact calm_of (vec_maxZ _ _ _ _ _ _ _ _ (by omega) (by omega) (by omega) (by omega) (by omega) (by omega) (by omega) (by omega) _))))
    exact wpQuiet_nil rfl
  case hok =>
    simp only [List.forall_mem_cons, List.not_mem_nil, false_implies, implies_true, and_true]
    refine ⟨tgt_fresh (by simp) rfl rfl mkV rfl rfl rfl rfl (by kernel_rfl) (by kernel_rfl) rfl, tgt_fresh (by simp) rfl rfl mkV rfl rfl rfl rfl (by kernel_rfl) (by kernel_rfl) rfl⟩
  case hdis =>
    intro k k' t t' hk hk' _ ha
    exfalso
    have := List.mem_of_getElem? hk
    simp only [List.mem_cons, List.not_mem_nil, or_false] at this
    rcases this with rfl | rfl <;> cases ha
  rintro w2 f hw ⟨k0, l0, d0, -, k1, l1, d1, -, -⟩
  have hx2 := hw.ext
  clear hw
  have A2 := A1.ext hx2
  have B2 := B1.ext hx2
  have C2 := C1.ext hx2
  have N2 : Blk w2 (f 0) #[.int .i64 (minZ a0 b0), .int .i64 (minZ a1 b1), .int .i64 (minZ a2 b2), .int .i64 (minZ a3 b3)] 23 := d0
  have X2 : Blk w2 (f 1) #[.int .i64 (maxZ a0 b0), .int .i64 (maxZ a1 b1), .int .i64 (maxZ a2 b2), .int .i64 (maxZ a3 b3)] 23 := d1
  clear A1 B1 C1 k0 l0 d0 k1 l1 d1
  simp only [pairs, putAll, Option.isSome_some, if_true]
  generalize f 0 = g0 at *
  generalize f 1 = g1 at *
  clear f
  have e2 := e1.trans hx2
  clear e1 hx2
  have cC := C2.cell
  have zC := C2.lt
  have hal := @World.cell?_alloc_lt
  go_wp2
  refine wp_loop_rounds 5 ?_
  rw [rounds_succ]
  go_wp2
  rw [rounds_succ]
  go_wp2
  rw [rounds_succ]
  go_wp2
  rw [rounds_succ]
  go_wp2
  rw [rounds_succ]
  go_wp2
  have A3 := A2.alloc (.cells #[.int .i64 y0, .int .i64 y1, .int .i64 y2, .int .i64 y3] 23)
  have B3 := B2.alloc (.cells #[.int .i64 y0, .int .i64 y1, .int .i64 y2, .int .i64 y3] 23)
  have N3 := N2.alloc (.cells #[.int .i64 y0, .int .i64 y1, .int .i64 y2, .int .i64 y3] 23)
  have X3 := X2.alloc (.cells #[.int .i64 y0, .int .i64 y1, .int .i64 y2, .int .i64 y3] 23)
  have Y3 : Blk (w2.alloc (.cells #[.int .i64 y0, .int .i64 y1, .int .i64 y2, .int .i64 y3] 23)) w2.heap.size #[.int .i64 y0, .int .i64 y1, .int .i64 y2, .int .i64 y3] 23 := Blk.new w2 _ _
  have e3 := e2.alloc #[.int .i64 y0, .int .i64 y1, .int .i64 y2, .int .i64 y3] 23
  clear A2 B2 C2 N2 X2 e2 cC zC hal
  generalize w2.alloc (.cells #[.int .i64 y0, .int .i64 y1, .int .i64 y2, .int .i64 y3] 23) = w3 at *
  generalize w2.heap.size = g9 at *
  clear w2
  have cA3 := A3.cell
  have cB3 := B3.cell
  have cN3 := N3.cell
  have cX3 := X3.cell
  have cY3 := Y3.cell
  refine wp_loop_rounds 5 ?_
  rw [rounds_succ]
  go_wp2
  apply wp_region_reads2 _ (by kernel_rfl) (by kernel_rfl)
  case H =>
    intro x hx
    have hne : Nonempty (Wx x) := ⟨⟨x, Ext.refl x⟩⟩
    have qN := fun (y : Wx x) => (N3.ext (hx.trans y.ext)).cell
    have qX := fun (y : Wx x) => (X3.ext (hx.trans y.ext)).cell
    try simp only [List.append_eq, List.cons_append, List.nil_append]
    repeat (go_big_quiet_step (fail))
    exact wpQuiet_nil rfl
  intro w4 hx4
  have A4 := A3.ext hx4
  have cA4 := A4.cell
  have B4 := B3.ext hx4
  have cB4 := B4.cell
  have N4 := N3.ext hx4
  have cN4 := N4.cell
  have X4 := X3.ext hx4
  have cX4 := X4.cell
  have Y4 := Y3.ext hx4
  have cY4 := Y4.cell
  clear A3 cA3 B3 cB3 N3 cN3 X3 cX3 Y3 cY3
  have e4 := e3.trans hx4
  clear e3 hx4
  go_wp2
  rw [rounds_succ]
  go_wp2
  apply wp_region_reads2 _ (by kernel_rfl) (by kernel_rfl)
  case H =>
    intro x hx
    have hne : Nonempty (Wx x) := ⟨⟨x, Ext.refl x⟩⟩
    have qN := fun (y : Wx x) => (N4.ext (hx.trans y.ext)).cell
    have qX := fun (y : Wx x) => (X4.ext (hx.trans y.ext)).cell
    try simp only [List.append_eq, List.cons_append, List.nil_append]
    repeat (go_big_quiet_step (fail))
    exact wpQuiet_nil rfl
  intro w5 hx5
  have A5 := A4.ext hx5
  have cA5 := A5.cell
  have B5 := B4.ext hx5
  have cB5 := B5.cell
  have N5 := N4.ext hx5
  have cN5 := N5.cell
  have X5 := X4.ext hx5
  have cX5 := X5.cell
  have Y5 := Y4.ext hx5
  have cY5 := Y5.cell
  clear A4 cA4 B4 cB4 N4 cN4 X4 cX4 Y4 cY4
  have e5 := e4.trans hx5
  clear e4 hx5
  go_wp2
  rw [rounds_succ]
  go_wp2
  apply wp_region_reads2 _ (by kernel_rfl) (by kernel_rfl)
  case H =>
    intro x hx
    have hne : Nonempty (Wx x) := ⟨⟨x, Ext.refl x⟩⟩
    have qN := fun (y : Wx x) => (N5.ext (hx.trans y.ext)).cell
    have qX := fun (y : Wx x) => (X5.ext (hx.trans y.ext)).cell
    try simp only [List.append_eq, List.cons_append, List.nil_append]
    repeat (go_big_quiet_step (fail))
    exact wpQuiet_nil rfl
  intro w6 hx6
  have A6 := A5.ext hx6
  have cA6 := A6.cell
  have B6 := B5.ext hx6
  have cB6 := B6.cell
  have N6 := N5.ext hx6
  have cN6 := N6.cell
  have X6 := X5.ext hx6
  have cX6 := X6.cell
  have Y6 := Y5.ext hx6
  have cY6 := Y6.cell
  clear A5 cA5 B5 cB5 N5 cN5 X5 cX5 Y5 cY5
  have e6 := e5.trans hx6
  clear e5 hx6
  go_wp2
  rw [rounds_succ]
  go_wp2
  apply wp_region_reads2 _ (by kernel_rfl) (by kernel_rfl)
  case H =>
    intro x hx
    have hne : Nonempty (Wx x) := ⟨⟨x, Ext.refl x⟩⟩
    have qN := fun (y : Wx x) => (N6.ext (hx.trans y.ext)).cell
    have qX := fun (y : Wx x) => (X6.ext (hx.trans y.ext)).cell
    try simp only [List.append_eq, List.cons_append, List.nil_append]
    repeat (go_big_quiet_step (fail))
    exact wpQuiet_nil rfl
  intro w7 hx7
  have A7 := A6.ext hx7
  have cA7 := A7.cell
  have B7 := B6.ext hx7
  have cB7 := B7.cell
  have N7 := N6.ext hx7
  have cN7 := N7.cell
  have X7 := X6.ext hx7
  have cX7 := X7.cell
  have Y7 := Y6.ext hx7
  have cY7 := Y7.cell
  clear A6 cA6 B6 cB6 N6 cN6 X6 cX6 Y6 cY6
  have e7 := e6.trans hx7
  clear e6 hx7
  go_wp2
  rw [rounds_succ]
  go_wp2
  apply wp_region_reads2 _ (by kernel_rfl) (by kernel_rfl)
  case H =>
    intro x hx
    have hne : Nonempty (Wx x) := ⟨⟨x, Ext.refl x⟩⟩
    have qA := fun (y : Wx x) => (A7.ext (hx.trans y.ext)).cell
    have qB := fun (y : Wx x) => (B7.ext (hx.trans y.ext)).cell
    have qN := fun (y : Wx x) => (N7.ext (hx.trans y.ext)).cell
    have qX := fun (y : Wx x) => (X7.ext (hx.trans y.ext)).cell
    have qY := fun (y : Wx x) => (Y7.ext (hx.trans y.ext)).cell
    try simp only [List.append_eq, List.cons_append, List.nil_append]
    repeat (go_big_quiet_step (first
      | (go_at_call 8; exact calm_of (vec_addZ _ _ _ _ _ _ _ _ (by omega) (by omega) (by omega) (by omega) (by omega) (by omega) (by omega) (by omega) _))
      | (go_at_call 9; exact calm_of (vec_subZ _ _ _ _ _ _ _ _ (by omega) (by omega) (by omega) (by omega) (by omega) (by omega) (by omega) (by omega) _))
      | (go_at_call 11; exact calm_of (vec_minZ _ _ _ _ _ _ _ _ (by omega) (by omega) (by omega) (by omega) (by omega) (by omega) (by omega) (by omega) _))
      | (go_at_call 12; exact calm_of (vec_maxZ _ _ _ _ _ _ _ _ (by omega) (by omega) (by omega) (by omega) (by omega) (by omega) (by omega) (by omega) _))
      | (go_at_call 17; exact calm_of (dot_any _ _ _ _ _ _ _ _ (by omega) (by omega) (by omega) (by omega) (by omega) (by omega) (by omega) (by omega) _))
      | (go_at_call 14; exact calm_of (vec_within _ _ _ _ _ (by omega) (by omega) (by omega) (by omega) (by omega) _))))
    exact wpQuiet_nil rfl
  intro w8 hx8
  go_wp2
  go_ret
  exact ⟨rfl, e7.trans hx8⟩

end Go.Proofs.Ythpobegfiflppaa
