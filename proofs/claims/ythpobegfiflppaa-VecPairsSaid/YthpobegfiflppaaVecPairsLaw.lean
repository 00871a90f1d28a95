/-
  DERIVED. The walk of the law VecPairs: it returns true, whatever the vectors and numbers.
-/
import Derived.Test.YthpobegfiflppaaVecAwake
import Derived.Test.YthpobegfiflppaaMinMax
namespace Go.Proofs.Ythpobegfiflppaa
open Go.RowKit
set_option linter.unusedVariables false

theorem mkV (u : World) : (Instr.alloc 23 true (.tuple #[])).run Try.prog u = .ok (.pointer (some ⟨u.heap.size, 0, none⟩)) (u.alloc (.cells #[.int .i64 0, .int .i64 0, .int .i64 0, .int .i64 0] 23)) := by
  simp [go_sem]

set_option maxRecDepth 100000 in
set_option maxHeartbeats 8000000 in
theorem vecPairs_pos (a0 a1 a2 a3 b0 b1 b2 b3 n most : Int) (ha0 : -9223372036854775808 ≤ a0 ∧ a0 ≤ 9223372036854775807) (ha1 : -9223372036854775808 ≤ a1 ∧ a1 ≤ 9223372036854775807) (ha2 : -9223372036854775808 ≤ a2 ∧ a2 ≤ 9223372036854775807) (ha3 : -9223372036854775808 ≤ a3 ∧ a3 ≤ 9223372036854775807) (hb0 : -9223372036854775808 ≤ b0 ∧ b0 ≤ 9223372036854775807) (hb1 : -9223372036854775808 ≤ b1 ∧ b1 ≤ 9223372036854775807) (hb2 : -9223372036854775808 ≤ b2 ∧ b2 ≤ 9223372036854775807) (hb3 : -9223372036854775808 ≤ b3 ∧ b3 ≤ 9223372036854775807) (hpos : 0 ≤ most) (hn : -9223372036854775808 ≤ n ∧ n ≤ 9223372036854775807) (hm : -9223372036854775808 ≤ most ∧ most ≤ 9223372036854775807) (w : World) :
    Calls Try.prog 3 #[.agg #[.int .i64 a0, .int .i64 a1, .int .i64 a2, .int .i64 a3], .agg #[.int .i64 b0, .int .i64 b1, .int .i64 b2, .int .i64 b3], .int .i64 n, .int .i64 most] w fun e w' => e = .returned (.bool true) ∧ Ext w w' := by
  have ka0 := clampZ_bd a0
  have ka1 := clampZ_bd a1
  have ka2 := clampZ_bd a2
  have ka3 := clampZ_bd a3
  have kb0 := clampZ_bd b0
  have kb1 := clampZ_bd b1
  have kb2 := clampZ_bd b2
  have kb3 := clampZ_bd b3
  have hmx := maxI_fold
  have hmi := minI_fold
  have hmn : ∀ x y : Int, minI (clampZ x) (clampZ y) = minZ x y := fun x y => by rw [minI_eq]; rfl
  have had : ∀ x y : Int, clampZ (clampZ x + clampZ y) = addZ x y := fun _ _ => rfl
  have hsb : ∀ x y : Int, clampZ (clampZ x - clampZ y) = subZ x y := fun _ _ => rfl
  have hml : ∀ x y : Int, mulZ (clampZ x) y = mulZ x y := fun x y => by unfold mulZ; rw [clampZ_clampZ]
  have hmr : ∀ x y : Int, mulZ x (clampZ y) = mulZ x y := fun x y => by unfold mulZ; rw [clampZ_clampZ]
  have hmm : ∀ x y : Int, maxI (clampZ x) (clampZ y) = maxZ x y := fun x y => by rw [maxI_eq]; rfl
  have hp : decide (0 ≤ most) = true := by simpa using hpos
  have hq : maxI most 0 = most := by unfold maxI; omega
  have hk : ∀ x : Int, minI (maxI x (-most)) most = withinW x most := fun x => by unfold minI maxI withinW withinZ; omega
  go_enter Try.func3, Try.ntmps3
  go_wp2_with fail
  with_reducible refine (awake2_any _).mono ?_
  rintro e w1 ⟨rfl, hx1⟩
  have A1 : Blk w1 w.heap.size #[.int .i64 a0, .int .i64 a1, .int .i64 a2, .int .i64 a3] 23 := ((Blk.new w _ _).alloc _).ext hx1
  have B1 : Blk w1 (w.heap.size + 1) #[.int .i64 b0, .int .i64 b1, .int .i64 b2, .int .i64 b3] 23 := (Blk.new' (by simp) _ _).ext hx1
  have e1 : Ext w w1 := Ext.trans (((Ext.refl w).alloc _ _).alloc _ _) hx1
  clear hx1
  go_wp2
  apply wp_region_vars [false, false, false, false, false, false, false, false, false, false, false, false, false, false, false, false, false, false, false, false, false, true, true, true, true, true, true, true, true, true, true, true, true, true, true] [] [⟨some 21, 9, 0, some 28, 23, #[.int .i64 0, .int .i64 0, .int .i64 0, .int .i64 0], #[.int .i64 (addZ a0 b0), .int .i64 (addZ a1 b1), .int .i64 (addZ a2 b2), .int .i64 (addZ a3 b3)]⟩, ⟨some 22, 10, 0, some 29, 23, #[.int .i64 0, .int .i64 0, .int .i64 0, .int .i64 0], #[.int .i64 (subZ a0 b0), .int .i64 (subZ a1 b1), .int .i64 (subZ a2 b2), .int .i64 (subZ a3 b3)]⟩, ⟨some 23, 11, 0, some 30, 23, #[.int .i64 0, .int .i64 0, .int .i64 0, .int .i64 0], #[.int .i64 (mulZ a0 b0), .int .i64 (mulZ a1 b1), .int .i64 (mulZ a2 b2), .int .i64 (mulZ a3 b3)]⟩, ⟨some 24, 12, 0, some 31, 23, #[.int .i64 0, .int .i64 0, .int .i64 0, .int .i64 0], #[.int .i64 (minZ a0 b0), .int .i64 (minZ a1 b1), .int .i64 (minZ a2 b2), .int .i64 (minZ a3 b3)]⟩, ⟨some 25, 13, 0, some 32, 23, #[.int .i64 0, .int .i64 0, .int .i64 0, .int .i64 0], #[.int .i64 (maxZ a0 b0), .int .i64 (maxZ a1 b1), .int .i64 (maxZ a2 b2), .int .i64 (maxZ a3 b3)]⟩, ⟨some 26, 14, 0, some 33, 23, #[.int .i64 0, .int .i64 0, .int .i64 0, .int .i64 0], #[.int .i64 (mulZ a0 n), .int .i64 (mulZ a1 n), .int .i64 (mulZ a2 n), .int .i64 (mulZ a3 n)]⟩, ⟨some 27, 15, 0, some 34, 23, #[.int .i64 0, .int .i64 0, .int .i64 0, .int .i64 0], #[.int .i64 (withinW a0 most), .int .i64 (withinW a1 most), .int .i64 (withinW a2 most), .int .i64 (withinW a3 most)]⟩] _ (by kernel_rfl) (by kernel_rfl) (by kernel_rfl)
  case H =>
    intro x hx
    have q0 := fun (y : Wx x) => ((A1.calm hx (by simp)).ext y.ext).cell
    have q1 := fun (y : Wx x) => ((B1.calm hx (by simp)).ext y.ext).cell
    have hne : Nonempty (Wx x) := ⟨⟨x, Ext.refl x⟩⟩
    simp only [eraseM]
    repeat (go_big_quiet_step (first
      | (go_at_call 8; exact calm_of (vec_addZ _ _ _ _ _ _ _ _ (by omega) (by omega) (by omega) (by omega) (by omega) (by omega) (by omega) (by omega) _))
      | (go_at_call 9; exact calm_of (vec_subZ _ _ _ _ _ _ _ _ (by omega) (by omega) (by omega) (by omega) (by omega) (by omega) (by omega) (by omega) _))
      | (go_at_call 10; exact calm_of (vec_mulZ _ _ _ _ _ _ _ _ (by omega) (by omega) (by omega) (by omega) (by omega) (by omega) (by omega) (by omega) _))
      | (go_at_call 11; exact calm_of (vec_minZ _ _ _ _ _ _ _ _ (by omega) (by omega) (by omega) (by omega) (by omega) (by omega) (by omega) (by omega) _))
      | (go_at_call 12; exact calm_of (vec_maxZ _ _ _ _ _ _ _ _ (by omega) (by omega) (by omega) (by omega) (by omega) (by omega) (by omega) (by omega) _))
      | (go_at_call 13; exact calm_of (vec_scale _ _ _ _ _ (by omega) (by omega) (by omega) (by omega) (by omega) _))
      | (go_at_call 14; exact calm_of (vec_within _ _ _ _ _ (by omega) (by omega) (by omega) (by omega) (by omega) _))))
    exact wpQuiet_nil rfl
  case hok =>
    simp only [List.forall_mem_cons, List.not_mem_nil, false_implies, implies_true, and_true]
    refine ⟨tgt_fresh (by simp) rfl rfl mkV rfl rfl rfl rfl (by kernel_rfl) (by kernel_rfl) rfl, tgt_fresh (by simp) rfl rfl mkV rfl rfl rfl rfl (by kernel_rfl) (by kernel_rfl) rfl, tgt_fresh (by simp) rfl rfl mkV rfl rfl rfl rfl (by kernel_rfl) (by kernel_rfl) rfl, tgt_fresh (by simp) rfl rfl mkV rfl rfl rfl rfl (by kernel_rfl) (by kernel_rfl) rfl, tgt_fresh (by simp) rfl rfl mkV rfl rfl rfl rfl (by kernel_rfl) (by kernel_rfl) rfl, tgt_fresh (by simp) rfl rfl mkV rfl rfl rfl rfl (by kernel_rfl) (by kernel_rfl) rfl, tgt_fresh (by simp) rfl rfl mkV rfl rfl rfl rfl (by kernel_rfl) (by kernel_rfl) rfl⟩
  case hdis =>
    intro k k' t t' hk hk' _ ha
    exfalso
    have := List.mem_of_getElem? hk
    simp only [List.mem_cons, List.not_mem_nil, or_false] at this
    rcases this with rfl | rfl | rfl | rfl | rfl | rfl | rfl <;> cases ha
  rintro w2 f hw ⟨k0, l0, d0, -, k1, l1, d1, -, k2, l2, d2, -, k3, l3, d3, -, k4, l4, d4, -, k5, l5, d5, -, k6, l6, d6, -, -⟩
  have hx2 := hw.ext
  clear hw
  have A2 := A1.ext hx2
  have B2 := B1.ext hx2
  have C02 : Blk w2 (f 0) #[.int .i64 (addZ a0 b0), .int .i64 (addZ a1 b1), .int .i64 (addZ a2 b2), .int .i64 (addZ a3 b3)] 23 := d0
  have C12 : Blk w2 (f 1) #[.int .i64 (subZ a0 b0), .int .i64 (subZ a1 b1), .int .i64 (subZ a2 b2), .int .i64 (subZ a3 b3)] 23 := d1
  have C22 : Blk w2 (f 2) #[.int .i64 (mulZ a0 b0), .int .i64 (mulZ a1 b1), .int .i64 (mulZ a2 b2), .int .i64 (mulZ a3 b3)] 23 := d2
  have C32 : Blk w2 (f 3) #[.int .i64 (minZ a0 b0), .int .i64 (minZ a1 b1), .int .i64 (minZ a2 b2), .int .i64 (minZ a3 b3)] 23 := d3
  have C42 : Blk w2 (f 4) #[.int .i64 (maxZ a0 b0), .int .i64 (maxZ a1 b1), .int .i64 (maxZ a2 b2), .int .i64 (maxZ a3 b3)] 23 := d4
  have C52 : Blk w2 (f 5) #[.int .i64 (mulZ a0 n), .int .i64 (mulZ a1 n), .int .i64 (mulZ a2 n), .int .i64 (mulZ a3 n)] 23 := d5
  have C62 : Blk w2 (f 6) #[.int .i64 (withinW a0 most), .int .i64 (withinW a1 most), .int .i64 (withinW a2 most), .int .i64 (withinW a3 most)] 23 := d6
  clear A1 B1 k0 l0 d0 k1 l1 d1 k2 l2 d2 k3 l3 d3 k4 l4 d4 k5 l5 d5 k6 l6 d6
  simp only [pairs, putAll, Option.isSome_some, if_true]
  generalize f 0 = g0 at *
  generalize f 1 = g1 at *
  generalize f 2 = g2 at *
  generalize f 3 = g3 at *
  generalize f 4 = g4 at *
  generalize f 5 = g5 at *
  generalize f 6 = g6 at *
  clear f
  have e2 := e1.trans hx2
  clear e1 hx2
  have cA2 := A2.cell
  have cB2 := B2.cell
  have cC02 := C02.cell
  have cC12 := C12.cell
  have cC22 := C22.cell
  have cC32 := C32.cell
  have cC42 := C42.cell
  have cC52 := C52.cell
  have cC62 := C62.cell
  go_wp2
  refine wp_loop_rounds 5 ?_
  rw [rounds_succ]
  go_wp2
  apply wp_region_reads2 _ (by kernel_rfl) (by kernel_rfl)
  case H =>
    intro x hx
    have hne : Nonempty (Wx x) := ⟨⟨x, Ext.refl x⟩⟩
    have qA := fun (y : Wx x) => (A2.ext (hx.trans y.ext)).cell
    have qB := fun (y : Wx x) => (B2.ext (hx.trans y.ext)).cell
    have qC0 := fun (y : Wx x) => (C02.ext (hx.trans y.ext)).cell
    have qC1 := fun (y : Wx x) => (C12.ext (hx.trans y.ext)).cell
    have qC2 := fun (y : Wx x) => (C22.ext (hx.trans y.ext)).cell
    have qC3 := fun (y : Wx x) => (C32.ext (hx.trans y.ext)).cell
    have qC4 := fun (y : Wx x) => (C42.ext (hx.trans y.ext)).cell
    have qC5 := fun (y : Wx x) => (C52.ext (hx.trans y.ext)).cell
    have qC6 := fun (y : Wx x) => (C62.ext (hx.trans y.ext)).cell
    try simp only [List.append_eq, List.cons_append, List.nil_append]
    repeat (go_big_quiet_step ((go_at_call 15; exact calm_eq (rclamp_any _ _ (by omega) (by omega)))))
    exact wpQuiet_nil rfl
  intro w3 hx3
  have A3 := A2.ext hx3
  have cA3 := A3.cell
  have B3 := B2.ext hx3
  have cB3 := B3.cell
  have C03 := C02.ext hx3
  have cC03 := C03.cell
  have C13 := C12.ext hx3
  have cC13 := C13.cell
  have C23 := C22.ext hx3
  have cC23 := C23.cell
  have C33 := C32.ext hx3
  have cC33 := C33.cell
  have C43 := C42.ext hx3
  have cC43 := C43.cell
  have C53 := C52.ext hx3
  have cC53 := C53.cell
  have C63 := C62.ext hx3
  have cC63 := C63.cell
  clear A2 cA2 B2 cB2 C02 cC02 C12 cC12 C22 cC22 C32 cC32 C42 cC42 C52 cC52 C62 cC62
  have e3 := e2.trans hx3
  clear e2 hx3
  go_wp2
  apply wp_region_reads2 _ (by kernel_rfl) (by kernel_rfl)
  case H =>
    intro x hx
    have hne : Nonempty (Wx x) := ⟨⟨x, Ext.refl x⟩⟩
    have qA := fun (y : Wx x) => (A3.ext (hx.trans y.ext)).cell
    have qB := fun (y : Wx x) => (B3.ext (hx.trans y.ext)).cell
    have qC0 := fun (y : Wx x) => (C03.ext (hx.trans y.ext)).cell
    have qC1 := fun (y : Wx x) => (C13.ext (hx.trans y.ext)).cell
    have qC2 := fun (y : Wx x) => (C23.ext (hx.trans y.ext)).cell
    have qC3 := fun (y : Wx x) => (C33.ext (hx.trans y.ext)).cell
    have qC4 := fun (y : Wx x) => (C43.ext (hx.trans y.ext)).cell
    have qC5 := fun (y : Wx x) => (C53.ext (hx.trans y.ext)).cell
    have qC6 := fun (y : Wx x) => (C63.ext (hx.trans y.ext)).cell
    try simp only [List.append_eq, List.cons_append, List.nil_append]
    repeat (go_big_quiet_step (first
      | (go_at_call 15; exact calm_eq (rclamp_any _ _ (by omega) (by omega)))
      | (go_at_call 16; exact calm_eq (rmul_any _ _ _ (by omega) (by omega) (by omega) (by omega)))))
    exact wpQuiet_nil rfl
  intro w4 hx4
  have A4 := A3.ext hx4
  have cA4 := A4.cell
  have B4 := B3.ext hx4
  have cB4 := B4.cell
  have C04 := C03.ext hx4
  have cC04 := C04.cell
  have C14 := C13.ext hx4
  have cC14 := C14.cell
  have C24 := C23.ext hx4
  have cC24 := C24.cell
  have C34 := C33.ext hx4
  have cC34 := C34.cell
  have C44 := C43.ext hx4
  have cC44 := C44.cell
  have C54 := C53.ext hx4
  have cC54 := C54.cell
  have C64 := C63.ext hx4
  have cC64 := C64.cell
  clear A3 cA3 B3 cB3 C03 cC03 C13 cC13 C23 cC23 C33 cC33 C43 cC43 C53 cC53 C63 cC63
  have e4 := e3.trans hx4
  clear e3 hx4
  go_wp2
  rw [rounds_succ]
  go_wp2
  apply wp_region_reads2 _ (by kernel_rfl) (by kernel_rfl)
  case H =>
    intro x hx
    have hne : Nonempty (Wx x) := ⟨⟨x, Ext.refl x⟩⟩
    have qA := fun (y : Wx x) => (A4.ext (hx.trans y.ext)).cell
    have qB := fun (y : Wx x) => (B4.ext (hx.trans y.ext)).cell
    have qC0 := fun (y : Wx x) => (C04.ext (hx.trans y.ext)).cell
    have qC1 := fun (y : Wx x) => (C14.ext (hx.trans y.ext)).cell
    have qC2 := fun (y : Wx x) => (C24.ext (hx.trans y.ext)).cell
    have qC3 := fun (y : Wx x) => (C34.ext (hx.trans y.ext)).cell
    have qC4 := fun (y : Wx x) => (C44.ext (hx.trans y.ext)).cell
    have qC5 := fun (y : Wx x) => (C54.ext (hx.trans y.ext)).cell
    have qC6 := fun (y : Wx x) => (C64.ext (hx.trans y.ext)).cell
    try simp only [List.append_eq, List.cons_append, List.nil_append]
    repeat (go_big_quiet_step ((go_at_call 15; exact calm_eq (rclamp_any _ _ (by omega) (by omega)))))
    exact wpQuiet_nil rfl
  intro w5 hx5
  have A5 := A4.ext hx5
  have cA5 := A5.cell
  have B5 := B4.ext hx5
  have cB5 := B5.cell
  have C05 := C04.ext hx5
  have cC05 := C05.cell
  have C15 := C14.ext hx5
  have cC15 := C15.cell
  have C25 := C24.ext hx5
  have cC25 := C25.cell
  have C35 := C34.ext hx5
  have cC35 := C35.cell
  have C45 := C44.ext hx5
  have cC45 := C45.cell
  have C55 := C54.ext hx5
  have cC55 := C55.cell
  have C65 := C64.ext hx5
  have cC65 := C65.cell
  clear A4 cA4 B4 cB4 C04 cC04 C14 cC14 C24 cC24 C34 cC34 C44 cC44 C54 cC54 C64 cC64
  have e5 := e4.trans hx5
  clear e4 hx5
  go_wp2
  apply wp_region_reads2 _ (by kernel_rfl) (by kernel_rfl)
  case H =>
    intro x hx
    have hne : Nonempty (Wx x) := ⟨⟨x, Ext.refl x⟩⟩
    have qA := fun (y : Wx x) => (A5.ext (hx.trans y.ext)).cell
    have qB := fun (y : Wx x) => (B5.ext (hx.trans y.ext)).cell
    have qC0 := fun (y : Wx x) => (C05.ext (hx.trans y.ext)).cell
    have qC1 := fun (y : Wx x) => (C15.ext (hx.trans y.ext)).cell
    have qC2 := fun (y : Wx x) => (C25.ext (hx.trans y.ext)).cell
    have qC3 := fun (y : Wx x) => (C35.ext (hx.trans y.ext)).cell
    have qC4 := fun (y : Wx x) => (C45.ext (hx.trans y.ext)).cell
    have qC5 := fun (y : Wx x) => (C55.ext (hx.trans y.ext)).cell
    have qC6 := fun (y : Wx x) => (C65.ext (hx.trans y.ext)).cell
    try simp only [List.append_eq, List.cons_append, List.nil_append]
    repeat (go_big_quiet_step (first
      | (go_at_call 15; exact calm_eq (rclamp_any _ _ (by omega) (by omega)))
      | (go_at_call 16; exact calm_eq (rmul_any _ _ _ (by omega) (by omega) (by omega) (by omega)))))
    exact wpQuiet_nil rfl
  intro w6 hx6
  have A6 := A5.ext hx6
  have cA6 := A6.cell
  have B6 := B5.ext hx6
  have cB6 := B6.cell
  have C06 := C05.ext hx6
  have cC06 := C06.cell
  have C16 := C15.ext hx6
  have cC16 := C16.cell
  have C26 := C25.ext hx6
  have cC26 := C26.cell
  have C36 := C35.ext hx6
  have cC36 := C36.cell
  have C46 := C45.ext hx6
  have cC46 := C46.cell
  have C56 := C55.ext hx6
  have cC56 := C56.cell
  have C66 := C65.ext hx6
  have cC66 := C66.cell
  clear A5 cA5 B5 cB5 C05 cC05 C15 cC15 C25 cC25 C35 cC35 C45 cC45 C55 cC55 C65 cC65
  have e6 := e5.trans hx6
  clear e5 hx6
  go_wp2
  rw [rounds_succ]
  go_wp2
  apply wp_region_reads2 _ (by kernel_rfl) (by kernel_rfl)
  case H =>
    intro x hx
    have hne : Nonempty (Wx x) := ⟨⟨x, Ext.refl x⟩⟩
    have qA := fun (y : Wx x) => (A6.ext (hx.trans y.ext)).cell
    have qB := fun (y : Wx x) => (B6.ext (hx.trans y.ext)).cell
    have qC0 := fun (y : Wx x) => (C06.ext (hx.trans y.ext)).cell
    have qC1 := fun (y : Wx x) => (C16.ext (hx.trans y.ext)).cell
    have qC2 := fun (y : Wx x) => (C26.ext (hx.trans y.ext)).cell
    have qC3 := fun (y : Wx x) => (C36.ext (hx.trans y.ext)).cell
    have qC4 := fun (y : Wx x) => (C46.ext (hx.trans y.ext)).cell
    have qC5 := fun (y : Wx x) => (C56.ext (hx.trans y.ext)).cell
    have qC6 := fun (y : Wx x) => (C66.ext (hx.trans y.ext)).cell
    try simp only [List.append_eq, List.cons_append, List.nil_append]
    repeat (go_big_quiet_step ((go_at_call 15; exact calm_eq (rclamp_any _ _ (by omega) (by omega)))))
    exact wpQuiet_nil rfl
  intro w7 hx7
  have A7 := A6.ext hx7
  have cA7 := A7.cell
  have B7 := B6.ext hx7
  have cB7 := B7.cell
  have C07 := C06.ext hx7
  have cC07 := C07.cell
  have C17 := C16.ext hx7
  have cC17 := C17.cell
  have C27 := C26.ext hx7
  have cC27 := C27.cell
  have C37 := C36.ext hx7
  have cC37 := C37.cell
  have C47 := C46.ext hx7
  have cC47 := C47.cell
  have C57 := C56.ext hx7
  have cC57 := C57.cell
  have C67 := C66.ext hx7
  have cC67 := C67.cell
  clear A6 cA6 B6 cB6 C06 cC06 C16 cC16 C26 cC26 C36 cC36 C46 cC46 C56 cC56 C66 cC66
  have e7 := e6.trans hx7
  clear e6 hx7
  go_wp2
  apply wp_region_reads2 _ (by kernel_rfl) (by kernel_rfl)
  case H =>
    intro x hx
    have hne : Nonempty (Wx x) := ⟨⟨x, Ext.refl x⟩⟩
    have qA := fun (y : Wx x) => (A7.ext (hx.trans y.ext)).cell
    have qB := fun (y : Wx x) => (B7.ext (hx.trans y.ext)).cell
    have qC0 := fun (y : Wx x) => (C07.ext (hx.trans y.ext)).cell
    have qC1 := fun (y : Wx x) => (C17.ext (hx.trans y.ext)).cell
    have qC2 := fun (y : Wx x) => (C27.ext (hx.trans y.ext)).cell
    have qC3 := fun (y : Wx x) => (C37.ext (hx.trans y.ext)).cell
    have qC4 := fun (y : Wx x) => (C47.ext (hx.trans y.ext)).cell
    have qC5 := fun (y : Wx x) => (C57.ext (hx.trans y.ext)).cell
    have qC6 := fun (y : Wx x) => (C67.ext (hx.trans y.ext)).cell
    try simp only [List.append_eq, List.cons_append, List.nil_append]
    repeat (go_big_quiet_step (first
      | (go_at_call 15; exact calm_eq (rclamp_any _ _ (by omega) (by omega)))
      | (go_at_call 16; exact calm_eq (rmul_any _ _ _ (by omega) (by omega) (by omega) (by omega)))))
    exact wpQuiet_nil rfl
  intro w8 hx8
  have A8 := A7.ext hx8
  have cA8 := A8.cell
  have B8 := B7.ext hx8
  have cB8 := B8.cell
  have C08 := C07.ext hx8
  have cC08 := C08.cell
  have C18 := C17.ext hx8
  have cC18 := C18.cell
  have C28 := C27.ext hx8
  have cC28 := C28.cell
  have C38 := C37.ext hx8
  have cC38 := C38.cell
  have C48 := C47.ext hx8
  have cC48 := C48.cell
  have C58 := C57.ext hx8
  have cC58 := C58.cell
  have C68 := C67.ext hx8
  have cC68 := C68.cell
  clear A7 cA7 B7 cB7 C07 cC07 C17 cC17 C27 cC27 C37 cC37 C47 cC47 C57 cC57 C67 cC67
  have e8 := e7.trans hx8
  clear e7 hx8
  go_wp2
  rw [rounds_succ]
  go_wp2
  apply wp_region_reads2 _ (by kernel_rfl) (by kernel_rfl)
  case H =>
    intro x hx
    have hne : Nonempty (Wx x) := ⟨⟨x, Ext.refl x⟩⟩
    have qA := fun (y : Wx x) => (A8.ext (hx.trans y.ext)).cell
    have qB := fun (y : Wx x) => (B8.ext (hx.trans y.ext)).cell
    have qC0 := fun (y : Wx x) => (C08.ext (hx.trans y.ext)).cell
    have qC1 := fun (y : Wx x) => (C18.ext (hx.trans y.ext)).cell
    have qC2 := fun (y : Wx x) => (C28.ext (hx.trans y.ext)).cell
    have qC3 := fun (y : Wx x) => (C38.ext (hx.trans y.ext)).cell
    have qC4 := fun (y : Wx x) => (C48.ext (hx.trans y.ext)).cell
    have qC5 := fun (y : Wx x) => (C58.ext (hx.trans y.ext)).cell
    have qC6 := fun (y : Wx x) => (C68.ext (hx.trans y.ext)).cell
    try simp only [List.append_eq, List.cons_append, List.nil_append]
    repeat (go_big_quiet_step ((go_at_call 15; exact calm_eq (rclamp_any _ _ (by omega) (by omega)))))
    exact wpQuiet_nil rfl
  intro w9 hx9
  have A9 := A8.ext hx9
  have cA9 := A9.cell
  have B9 := B8.ext hx9
  have cB9 := B9.cell
  have C09 := C08.ext hx9
  have cC09 := C09.cell
  have C19 := C18.ext hx9
  have cC19 := C19.cell
  have C29 := C28.ext hx9
  have cC29 := C29.cell
  have C39 := C38.ext hx9
  have cC39 := C39.cell
  have C49 := C48.ext hx9
  have cC49 := C49.cell
  have C59 := C58.ext hx9
  have cC59 := C59.cell
  have C69 := C68.ext hx9
  have cC69 := C69.cell
  clear A8 cA8 B8 cB8 C08 cC08 C18 cC18 C28 cC28 C38 cC38 C48 cC48 C58 cC58 C68 cC68
  have e9 := e8.trans hx9
  clear e8 hx9
  go_wp2
  apply wp_region_reads2 _ (by kernel_rfl) (by kernel_rfl)
  case H =>
    intro x hx
    have hne : Nonempty (Wx x) := ⟨⟨x, Ext.refl x⟩⟩
    have qA := fun (y : Wx x) => (A9.ext (hx.trans y.ext)).cell
    have qB := fun (y : Wx x) => (B9.ext (hx.trans y.ext)).cell
    have qC0 := fun (y : Wx x) => (C09.ext (hx.trans y.ext)).cell
    have qC1 := fun (y : Wx x) => (C19.ext (hx.trans y.ext)).cell
    have qC2 := fun (y : Wx x) => (C29.ext (hx.trans y.ext)).cell
    have qC3 := fun (y : Wx x) => (C39.ext (hx.trans y.ext)).cell
    have qC4 := fun (y : Wx x) => (C49.ext (hx.trans y.ext)).cell
    have qC5 := fun (y : Wx x) => (C59.ext (hx.trans y.ext)).cell
    have qC6 := fun (y : Wx x) => (C69.ext (hx.trans y.ext)).cell
    try simp only [List.append_eq, List.cons_append, List.nil_append]
    repeat (go_big_quiet_step (first
      | (go_at_call 15; exact calm_eq (rclamp_any _ _ (by omega) (by omega)))
      | (go_at_call 16; exact calm_eq (rmul_any _ _ _ (by omega) (by omega) (by omega) (by omega)))))
    exact wpQuiet_nil rfl
  intro w10 hx10
  have A10 := A9.ext hx10
  have cA10 := A10.cell
  have B10 := B9.ext hx10
  have cB10 := B10.cell
  have C010 := C09.ext hx10
  have cC010 := C010.cell
  have C110 := C19.ext hx10
  have cC110 := C110.cell
  have C210 := C29.ext hx10
  have cC210 := C210.cell
  have C310 := C39.ext hx10
  have cC310 := C310.cell
  have C410 := C49.ext hx10
  have cC410 := C410.cell
  have C510 := C59.ext hx10
  have cC510 := C510.cell
  have C610 := C69.ext hx10
  have cC610 := C610.cell
  clear A9 cA9 B9 cB9 C09 cC09 C19 cC19 C29 cC29 C39 cC39 C49 cC49 C59 cC59 C69 cC69
  have e10 := e9.trans hx10
  clear e9 hx10
  go_wp2
  rw [rounds_succ]
  go_wp2
  apply wp_region_reads2 _ (by kernel_rfl) (by kernel_rfl)
  case H =>
    intro x hx
    have hne : Nonempty (Wx x) := ⟨⟨x, Ext.refl x⟩⟩
    have qA := fun (y : Wx x) => (A10.ext (hx.trans y.ext)).cell
    have qB := fun (y : Wx x) => (B10.ext (hx.trans y.ext)).cell
    try simp only [List.append_eq, List.cons_append, List.nil_append]
    repeat (go_big_quiet_step (first | (go_at_call 17; exact calm_of (dot_any _ _ _ _ _ _ _ _ (by omega) (by omega) (by omega) (by omega) (by omega) (by omega) (by omega) (by omega) _)) | (go_at_call 18; exact calm_of (rdot_any _ _ _ _ _ _ _ _ (by omega) (by omega) (by omega) (by omega) (by omega) (by omega) (by omega) (by omega) _))))
    exact wpQuiet_nil rfl
  intro w11 hx11
  go_wp2
  go_ret
  exact ⟨rfl, e10.trans hx11⟩

set_option maxRecDepth 100000 in
set_option maxHeartbeats 8000000 in
theorem vecPairs_neg (a0 a1 a2 a3 b0 b1 b2 b3 n most : Int) (ha0 : -9223372036854775808 ≤ a0 ∧ a0 ≤ 9223372036854775807) (ha1 : -9223372036854775808 ≤ a1 ∧ a1 ≤ 9223372036854775807) (ha2 : -9223372036854775808 ≤ a2 ∧ a2 ≤ 9223372036854775807) (ha3 : -9223372036854775808 ≤ a3 ∧ a3 ≤ 9223372036854775807) (hb0 : -9223372036854775808 ≤ b0 ∧ b0 ≤ 9223372036854775807) (hb1 : -9223372036854775808 ≤ b1 ∧ b1 ≤ 9223372036854775807) (hb2 : -9223372036854775808 ≤ b2 ∧ b2 ≤ 9223372036854775807) (hb3 : -9223372036854775808 ≤ b3 ∧ b3 ≤ 9223372036854775807) (hpos : ¬ 0 ≤ most) (hn : -9223372036854775808 ≤ n ∧ n ≤ 9223372036854775807) (hm : -9223372036854775808 ≤ most ∧ most ≤ 9223372036854775807) (w : World) :
    Calls Try.prog 3 #[.agg #[.int .i64 a0, .int .i64 a1, .int .i64 a2, .int .i64 a3], .agg #[.int .i64 b0, .int .i64 b1, .int .i64 b2, .int .i64 b3], .int .i64 n, .int .i64 most] w fun e w' => e = .returned (.bool true) ∧ Ext w w' := by
  have ka0 := clampZ_bd a0
  have ka1 := clampZ_bd a1
  have ka2 := clampZ_bd a2
  have ka3 := clampZ_bd a3
  have kb0 := clampZ_bd b0
  have kb1 := clampZ_bd b1
  have kb2 := clampZ_bd b2
  have kb3 := clampZ_bd b3
  have hmx := maxI_fold
  have hmi := minI_fold
  have hmn : ∀ x y : Int, minI (clampZ x) (clampZ y) = minZ x y := fun x y => by rw [minI_eq]; rfl
  have had : ∀ x y : Int, clampZ (clampZ x + clampZ y) = addZ x y := fun _ _ => rfl
  have hsb : ∀ x y : Int, clampZ (clampZ x - clampZ y) = subZ x y := fun _ _ => rfl
  have hml : ∀ x y : Int, mulZ (clampZ x) y = mulZ x y := fun x y => by unfold mulZ; rw [clampZ_clampZ]
  have hmr : ∀ x y : Int, mulZ x (clampZ y) = mulZ x y := fun x y => by unfold mulZ; rw [clampZ_clampZ]
  have hmm : ∀ x y : Int, maxI (clampZ x) (clampZ y) = maxZ x y := fun x y => by rw [maxI_eq]; rfl
  have hp : decide (0 ≤ most) = false := by simpa using hpos
  have hq : maxI most 0 = 0 := by unfold maxI; omega
  go_enter Try.func3, Try.ntmps3
  go_wp2_with fail
  with_reducible refine (awake2_any _).mono ?_
  rintro e w1 ⟨rfl, hx1⟩
  have A1 : Blk w1 w.heap.size #[.int .i64 a0, .int .i64 a1, .int .i64 a2, .int .i64 a3] 23 := ((Blk.new w _ _).alloc _).ext hx1
  have B1 : Blk w1 (w.heap.size + 1) #[.int .i64 b0, .int .i64 b1, .int .i64 b2, .int .i64 b3] 23 := (Blk.new' (by simp) _ _).ext hx1
  have e1 : Ext w w1 := Ext.trans (((Ext.refl w).alloc _ _).alloc _ _) hx1
  clear hx1
  go_wp2
  apply wp_region_vars [false, false, false, false, false, false, false, false, false, false, false, false, false, false, false, false, false, false, false, false, false, true, true, true, true, true, true, true, true, true, true, true, true, true, true] [] [⟨some 21, 9, 0, some 28, 23, #[.int .i64 0, .int .i64 0, .int .i64 0, .int .i64 0], #[.int .i64 (addZ a0 b0), .int .i64 (addZ a1 b1), .int .i64 (addZ a2 b2), .int .i64 (addZ a3 b3)]⟩, ⟨some 22, 10, 0, some 29, 23, #[.int .i64 0, .int .i64 0, .int .i64 0, .int .i64 0], #[.int .i64 (subZ a0 b0), .int .i64 (subZ a1 b1), .int .i64 (subZ a2 b2), .int .i64 (subZ a3 b3)]⟩, ⟨some 23, 11, 0, some 30, 23, #[.int .i64 0, .int .i64 0, .int .i64 0, .int .i64 0], #[.int .i64 (mulZ a0 b0), .int .i64 (mulZ a1 b1), .int .i64 (mulZ a2 b2), .int .i64 (mulZ a3 b3)]⟩, ⟨some 24, 12, 0, some 31, 23, #[.int .i64 0, .int .i64 0, .int .i64 0, .int .i64 0], #[.int .i64 (minZ a0 b0), .int .i64 (minZ a1 b1), .int .i64 (minZ a2 b2), .int .i64 (minZ a3 b3)]⟩, ⟨some 25, 13, 0, some 32, 23, #[.int .i64 0, .int .i64 0, .int .i64 0, .int .i64 0], #[.int .i64 (maxZ a0 b0), .int .i64 (maxZ a1 b1), .int .i64 (maxZ a2 b2), .int .i64 (maxZ a3 b3)]⟩, ⟨some 26, 14, 0, some 33, 23, #[.int .i64 0, .int .i64 0, .int .i64 0, .int .i64 0], #[.int .i64 (mulZ a0 n), .int .i64 (mulZ a1 n), .int .i64 (mulZ a2 n), .int .i64 (mulZ a3 n)]⟩, ⟨some 27, 15, 0, some 34, 23, #[.int .i64 0, .int .i64 0, .int .i64 0, .int .i64 0], #[.int .i64 (withinW a0 most), .int .i64 (withinW a1 most), .int .i64 (withinW a2 most), .int .i64 (withinW a3 most)]⟩] _ (by kernel_rfl) (by kernel_rfl) (by kernel_rfl)
  case H =>
    intro x hx
    have q0 := fun (y : Wx x) => ((A1.calm hx (by simp)).ext y.ext).cell
    have q1 := fun (y : Wx x) => ((B1.calm hx (by simp)).ext y.ext).cell
    have hne : Nonempty (Wx x) := ⟨⟨x, Ext.refl x⟩⟩
    simp only [eraseM]
    repeat (go_big_quiet_step (first
      | (go_at_call 8; exact calm_of (vec_addZ _ _ _ _ _ _ _ _ (by omega) (by omega) (by omega) (by omega) (by omega) (by omega) (by omega) (by omega) _))
      | (go_at_call 9; exact calm_of (vec_subZ _ _ _ _ _ _ _ _ (by omega) (by omega) (by omega) (by omega) (by omega) (by omega) (by omega) (by omega) _))
      | (go_at_call 10; exact calm_of (vec_mulZ _ _ _ _ _ _ _ _ (by omega) (by omega) (by omega) (by omega) (by omega) (by omega) (by omega) (by omega) _))
      | (go_at_call 11; exact calm_of (vec_minZ _ _ _ _ _ _ _ _ (by omega) (by omega) (by omega) (by omega) (by omega) (by omega) (by omega) (by omega) _))
      | (go_at_call 12; exact calm_of (vec_maxZ _ _ _ _ _ _ _ _ (by omega) (by omega) (by omega) (by omega) (by omega) (by omega) (by omega) (by omega) _))
      | (go_at_call 13; exact calm_of (vec_scale _ _ _ _ _ (by omega) (by omega) (by omega) (by omega) (by omega) _))
      | (go_at_call 14; exact calm_of (vec_within _ _ _ _ _ (by omega) (by omega) (by omega) (by omega) (by omega) _))))
    exact wpQuiet_nil rfl
  case hok =>
    simp only [List.forall_mem_cons, List.not_mem_nil, false_implies, implies_true, and_true]
    refine ⟨tgt_fresh (by simp) rfl rfl mkV rfl rfl rfl rfl (by kernel_rfl) (by kernel_rfl) rfl, tgt_fresh (by simp) rfl rfl mkV rfl rfl rfl rfl (by kernel_rfl) (by kernel_rfl) rfl, tgt_fresh (by simp) rfl rfl mkV rfl rfl rfl rfl (by kernel_rfl) (by kernel_rfl) rfl, tgt_fresh (by simp) rfl rfl mkV rfl rfl rfl rfl (by kernel_rfl) (by kernel_rfl) rfl, tgt_fresh (by simp) rfl rfl mkV rfl rfl rfl rfl (by kernel_rfl) (by kernel_rfl) rfl, tgt_fresh (by simp) rfl rfl mkV rfl rfl rfl rfl (by kernel_rfl) (by kernel_rfl) rfl, tgt_fresh (by simp) rfl rfl mkV rfl rfl rfl rfl (by kernel_rfl) (by kernel_rfl) rfl⟩
  case hdis =>
    intro k k' t t' hk hk' _ ha
    exfalso
    have := List.mem_of_getElem? hk
    simp only [List.mem_cons, List.not_mem_nil, or_false] at this
    rcases this with rfl | rfl | rfl | rfl | rfl | rfl | rfl <;> cases ha
  rintro w2 f hw ⟨k0, l0, d0, -, k1, l1, d1, -, k2, l2, d2, -, k3, l3, d3, -, k4, l4, d4, -, k5, l5, d5, -, k6, l6, d6, -, -⟩
  have hx2 := hw.ext
  clear hw
  have A2 := A1.ext hx2
  have B2 := B1.ext hx2
  have C02 : Blk w2 (f 0) #[.int .i64 (addZ a0 b0), .int .i64 (addZ a1 b1), .int .i64 (addZ a2 b2), .int .i64 (addZ a3 b3)] 23 := d0
  have C12 : Blk w2 (f 1) #[.int .i64 (subZ a0 b0), .int .i64 (subZ a1 b1), .int .i64 (subZ a2 b2), .int .i64 (subZ a3 b3)] 23 := d1
  have C22 : Blk w2 (f 2) #[.int .i64 (mulZ a0 b0), .int .i64 (mulZ a1 b1), .int .i64 (mulZ a2 b2), .int .i64 (mulZ a3 b3)] 23 := d2
  have C32 : Blk w2 (f 3) #[.int .i64 (minZ a0 b0), .int .i64 (minZ a1 b1), .int .i64 (minZ a2 b2), .int .i64 (minZ a3 b3)] 23 := d3
  have C42 : Blk w2 (f 4) #[.int .i64 (maxZ a0 b0), .int .i64 (maxZ a1 b1), .int .i64 (maxZ a2 b2), .int .i64 (maxZ a3 b3)] 23 := d4
  have C52 : Blk w2 (f 5) #[.int .i64 (mulZ a0 n), .int .i64 (mulZ a1 n), .int .i64 (mulZ a2 n), .int .i64 (mulZ a3 n)] 23 := d5
  have C62 : Blk w2 (f 6) #[.int .i64 (withinW a0 most), .int .i64 (withinW a1 most), .int .i64 (withinW a2 most), .int .i64 (withinW a3 most)] 23 := d6
  clear A1 B1 k0 l0 d0 k1 l1 d1 k2 l2 d2 k3 l3 d3 k4 l4 d4 k5 l5 d5 k6 l6 d6
  simp only [pairs, putAll, Option.isSome_some, if_true]
  generalize f 0 = g0 at *
  generalize f 1 = g1 at *
  generalize f 2 = g2 at *
  generalize f 3 = g3 at *
  generalize f 4 = g4 at *
  generalize f 5 = g5 at *
  generalize f 6 = g6 at *
  clear f
  have e2 := e1.trans hx2
  clear e1 hx2
  have cA2 := A2.cell
  have cB2 := B2.cell
  have cC02 := C02.cell
  have cC12 := C12.cell
  have cC22 := C22.cell
  have cC32 := C32.cell
  have cC42 := C42.cell
  have cC52 := C52.cell
  have cC62 := C62.cell
  go_wp2
  refine wp_loop_rounds 5 ?_
  rw [rounds_succ]
  go_wp2
  apply wp_region_reads2 _ (by kernel_rfl) (by kernel_rfl)
  case H =>
    intro x hx
    have hne : Nonempty (Wx x) := ⟨⟨x, Ext.refl x⟩⟩
    have qA := fun (y : Wx x) => (A2.ext (hx.trans y.ext)).cell
    have qB := fun (y : Wx x) => (B2.ext (hx.trans y.ext)).cell
    have qC0 := fun (y : Wx x) => (C02.ext (hx.trans y.ext)).cell
    have qC1 := fun (y : Wx x) => (C12.ext (hx.trans y.ext)).cell
    have qC2 := fun (y : Wx x) => (C22.ext (hx.trans y.ext)).cell
    have qC3 := fun (y : Wx x) => (C32.ext (hx.trans y.ext)).cell
    have qC4 := fun (y : Wx x) => (C42.ext (hx.trans y.ext)).cell
    have qC5 := fun (y : Wx x) => (C52.ext (hx.trans y.ext)).cell
    have qC6 := fun (y : Wx x) => (C62.ext (hx.trans y.ext)).cell
    try simp only [List.append_eq, List.cons_append, List.nil_append]
    repeat (go_big_quiet_step ((go_at_call 15; exact calm_eq (rclamp_any _ _ (by omega) (by omega)))))
    exact wpQuiet_nil rfl
  intro w3 hx3
  have A3 := A2.ext hx3
  have cA3 := A3.cell
  have B3 := B2.ext hx3
  have cB3 := B3.cell
  have C03 := C02.ext hx3
  have cC03 := C03.cell
  have C13 := C12.ext hx3
  have cC13 := C13.cell
  have C23 := C22.ext hx3
  have cC23 := C23.cell
  have C33 := C32.ext hx3
  have cC33 := C33.cell
  have C43 := C42.ext hx3
  have cC43 := C43.cell
  have C53 := C52.ext hx3
  have cC53 := C53.cell
  have C63 := C62.ext hx3
  have cC63 := C63.cell
  clear A2 cA2 B2 cB2 C02 cC02 C12 cC12 C22 cC22 C32 cC32 C42 cC42 C52 cC52 C62 cC62
  have e3 := e2.trans hx3
  clear e2 hx3
  go_wp2
  apply wp_region_reads2 _ (by kernel_rfl) (by kernel_rfl)
  case H =>
    intro x hx
    have hne : Nonempty (Wx x) := ⟨⟨x, Ext.refl x⟩⟩
    have qA := fun (y : Wx x) => (A3.ext (hx.trans y.ext)).cell
    have qB := fun (y : Wx x) => (B3.ext (hx.trans y.ext)).cell
    have qC0 := fun (y : Wx x) => (C03.ext (hx.trans y.ext)).cell
    have qC1 := fun (y : Wx x) => (C13.ext (hx.trans y.ext)).cell
    have qC2 := fun (y : Wx x) => (C23.ext (hx.trans y.ext)).cell
    have qC3 := fun (y : Wx x) => (C33.ext (hx.trans y.ext)).cell
    have qC4 := fun (y : Wx x) => (C43.ext (hx.trans y.ext)).cell
    have qC5 := fun (y : Wx x) => (C53.ext (hx.trans y.ext)).cell
    have qC6 := fun (y : Wx x) => (C63.ext (hx.trans y.ext)).cell
    try simp only [List.append_eq, List.cons_append, List.nil_append]
    repeat (go_big_quiet_step (first
      | (go_at_call 15; exact calm_eq (rclamp_any _ _ (by omega) (by omega)))
      | (go_at_call 16; exact calm_eq (rmul_any _ _ _ (by omega) (by omega) (by omega) (by omega)))))
    exact wpQuiet_nil rfl
  intro w4 hx4
  have A4 := A3.ext hx4
  have cA4 := A4.cell
  have B4 := B3.ext hx4
  have cB4 := B4.cell
  have C04 := C03.ext hx4
  have cC04 := C04.cell
  have C14 := C13.ext hx4
  have cC14 := C14.cell
  have C24 := C23.ext hx4
  have cC24 := C24.cell
  have C34 := C33.ext hx4
  have cC34 := C34.cell
  have C44 := C43.ext hx4
  have cC44 := C44.cell
  have C54 := C53.ext hx4
  have cC54 := C54.cell
  have C64 := C63.ext hx4
  have cC64 := C64.cell
  clear A3 cA3 B3 cB3 C03 cC03 C13 cC13 C23 cC23 C33 cC33 C43 cC43 C53 cC53 C63 cC63
  have e4 := e3.trans hx4
  clear e3 hx4
  go_wp2
  rw [rounds_succ]
  go_wp2
  apply wp_region_reads2 _ (by kernel_rfl) (by kernel_rfl)
  case H =>
    intro x hx
    have hne : Nonempty (Wx x) := ⟨⟨x, Ext.refl x⟩⟩
    have qA := fun (y : Wx x) => (A4.ext (hx.trans y.ext)).cell
    have qB := fun (y : Wx x) => (B4.ext (hx.trans y.ext)).cell
    have qC0 := fun (y : Wx x) => (C04.ext (hx.trans y.ext)).cell
    have qC1 := fun (y : Wx x) => (C14.ext (hx.trans y.ext)).cell
    have qC2 := fun (y : Wx x) => (C24.ext (hx.trans y.ext)).cell
    have qC3 := fun (y : Wx x) => (C34.ext (hx.trans y.ext)).cell
    have qC4 := fun (y : Wx x) => (C44.ext (hx.trans y.ext)).cell
    have qC5 := fun (y : Wx x) => (C54.ext (hx.trans y.ext)).cell
    have qC6 := fun (y : Wx x) => (C64.ext (hx.trans y.ext)).cell
    try simp only [List.append_eq, List.cons_append, List.nil_append]
    repeat (go_big_quiet_step ((go_at_call 15; exact calm_eq (rclamp_any _ _ (by omega) (by omega)))))
    exact wpQuiet_nil rfl
  intro w5 hx5
  have A5 := A4.ext hx5
  have cA5 := A5.cell
  have B5 := B4.ext hx5
  have cB5 := B5.cell
  have C05 := C04.ext hx5
  have cC05 := C05.cell
  have C15 := C14.ext hx5
  have cC15 := C15.cell
  have C25 := C24.ext hx5
  have cC25 := C25.cell
  have C35 := C34.ext hx5
  have cC35 := C35.cell
  have C45 := C44.ext hx5
  have cC45 := C45.cell
  have C55 := C54.ext hx5
  have cC55 := C55.cell
  have C65 := C64.ext hx5
  have cC65 := C65.cell
  clear A4 cA4 B4 cB4 C04 cC04 C14 cC14 C24 cC24 C34 cC34 C44 cC44 C54 cC54 C64 cC64
  have e5 := e4.trans hx5
  clear e4 hx5
  go_wp2
  apply wp_region_reads2 _ (by kernel_rfl) (by kernel_rfl)
  case H =>
    intro x hx
    have hne : Nonempty (Wx x) := ⟨⟨x, Ext.refl x⟩⟩
    have qA := fun (y : Wx x) => (A5.ext (hx.trans y.ext)).cell
    have qB := fun (y : Wx x) => (B5.ext (hx.trans y.ext)).cell
    have qC0 := fun (y : Wx x) => (C05.ext (hx.trans y.ext)).cell
    have qC1 := fun (y : Wx x) => (C15.ext (hx.trans y.ext)).cell
    have qC2 := fun (y : Wx x) => (C25.ext (hx.trans y.ext)).cell
    have qC3 := fun (y : Wx x) => (C35.ext (hx.trans y.ext)).cell
    have qC4 := fun (y : Wx x) => (C45.ext (hx.trans y.ext)).cell
    have qC5 := fun (y : Wx x) => (C55.ext (hx.trans y.ext)).cell
    have qC6 := fun (y : Wx x) => (C65.ext (hx.trans y.ext)).cell
    try simp only [List.append_eq, List.cons_append, List.nil_append]
    repeat (go_big_quiet_step (first
      | (go_at_call 15; exact calm_eq (rclamp_any _ _ (by omega) (by omega)))
      | (go_at_call 16; exact calm_eq (rmul_any _ _ _ (by omega) (by omega) (by omega) (by omega)))))
    exact wpQuiet_nil rfl
  intro w6 hx6
  have A6 := A5.ext hx6
  have cA6 := A6.cell
  have B6 := B5.ext hx6
  have cB6 := B6.cell
  have C06 := C05.ext hx6
  have cC06 := C06.cell
  have C16 := C15.ext hx6
  have cC16 := C16.cell
  have C26 := C25.ext hx6
  have cC26 := C26.cell
  have C36 := C35.ext hx6
  have cC36 := C36.cell
  have C46 := C45.ext hx6
  have cC46 := C46.cell
  have C56 := C55.ext hx6
  have cC56 := C56.cell
  have C66 := C65.ext hx6
  have cC66 := C66.cell
  clear A5 cA5 B5 cB5 C05 cC05 C15 cC15 C25 cC25 C35 cC35 C45 cC45 C55 cC55 C65 cC65
  have e6 := e5.trans hx6
  clear e5 hx6
  go_wp2
  rw [rounds_succ]
  go_wp2
  apply wp_region_reads2 _ (by kernel_rfl) (by kernel_rfl)
  case H =>
    intro x hx
    have hne : Nonempty (Wx x) := ⟨⟨x, Ext.refl x⟩⟩
    have qA := fun (y : Wx x) => (A6.ext (hx.trans y.ext)).cell
    have qB := fun (y : Wx x) => (B6.ext (hx.trans y.ext)).cell
    have qC0 := fun (y : Wx x) => (C06.ext (hx.trans y.ext)).cell
    have qC1 := fun (y : Wx x) => (C16.ext (hx.trans y.ext)).cell
    have qC2 := fun (y : Wx x) => (C26.ext (hx.trans y.ext)).cell
    have qC3 := fun (y : Wx x) => (C36.ext (hx.trans y.ext)).cell
    have qC4 := fun (y : Wx x) => (C46.ext (hx.trans y.ext)).cell
    have qC5 := fun (y : Wx x) => (C56.ext (hx.trans y.ext)).cell
    have qC6 := fun (y : Wx x) => (C66.ext (hx.trans y.ext)).cell
    try simp only [List.append_eq, List.cons_append, List.nil_append]
    repeat (go_big_quiet_step ((go_at_call 15; exact calm_eq (rclamp_any _ _ (by omega) (by omega)))))
    exact wpQuiet_nil rfl
  intro w7 hx7
  have A7 := A6.ext hx7
  have cA7 := A7.cell
  have B7 := B6.ext hx7
  have cB7 := B7.cell
  have C07 := C06.ext hx7
  have cC07 := C07.cell
  have C17 := C16.ext hx7
  have cC17 := C17.cell
  have C27 := C26.ext hx7
  have cC27 := C27.cell
  have C37 := C36.ext hx7
  have cC37 := C37.cell
  have C47 := C46.ext hx7
  have cC47 := C47.cell
  have C57 := C56.ext hx7
  have cC57 := C57.cell
  have C67 := C66.ext hx7
  have cC67 := C67.cell
  clear A6 cA6 B6 cB6 C06 cC06 C16 cC16 C26 cC26 C36 cC36 C46 cC46 C56 cC56 C66 cC66
  have e7 := e6.trans hx7
  clear e6 hx7
  go_wp2
  apply wp_region_reads2 _ (by kernel_rfl) (by kernel_rfl)
  case H =>
    intro x hx
    have hne : Nonempty (Wx x) := ⟨⟨x, Ext.refl x⟩⟩
    have qA := fun (y : Wx x) => (A7.ext (hx.trans y.ext)).cell
    have qB := fun (y : Wx x) => (B7.ext (hx.trans y.ext)).cell
    have qC0 := fun (y : Wx x) => (C07.ext (hx.trans y.ext)).cell
    have qC1 := fun (y : Wx x) => (C17.ext (hx.trans y.ext)).cell
    have qC2 := fun (y : Wx x) => (C27.ext (hx.trans y.ext)).cell
    have qC3 := fun (y : Wx x) => (C37.ext (hx.trans y.ext)).cell
    have qC4 := fun (y : Wx x) => (C47.ext (hx.trans y.ext)).cell
    have qC5 := fun (y : Wx x) => (C57.ext (hx.trans y.ext)).cell
    have qC6 := fun (y : Wx x) => (C67.ext (hx.trans y.ext)).cell
    try simp only [List.append_eq, List.cons_append, List.nil_append]
    repeat (go_big_quiet_step (first
      | (go_at_call 15; exact calm_eq (rclamp_any _ _ (by omega) (by omega)))
      | (go_at_call 16; exact calm_eq (rmul_any _ _ _ (by omega) (by omega) (by omega) (by omega)))))
    exact wpQuiet_nil rfl
  intro w8 hx8
  have A8 := A7.ext hx8
  have cA8 := A8.cell
  have B8 := B7.ext hx8
  have cB8 := B8.cell
  have C08 := C07.ext hx8
  have cC08 := C08.cell
  have C18 := C17.ext hx8
  have cC18 := C18.cell
  have C28 := C27.ext hx8
  have cC28 := C28.cell
  have C38 := C37.ext hx8
  have cC38 := C38.cell
  have C48 := C47.ext hx8
  have cC48 := C48.cell
  have C58 := C57.ext hx8
  have cC58 := C58.cell
  have C68 := C67.ext hx8
  have cC68 := C68.cell
  clear A7 cA7 B7 cB7 C07 cC07 C17 cC17 C27 cC27 C37 cC37 C47 cC47 C57 cC57 C67 cC67
  have e8 := e7.trans hx8
  clear e7 hx8
  go_wp2
  rw [rounds_succ]
  go_wp2
  apply wp_region_reads2 _ (by kernel_rfl) (by kernel_rfl)
  case H =>
    intro x hx
    have hne : Nonempty (Wx x) := ⟨⟨x, Ext.refl x⟩⟩
    have qA := fun (y : Wx x) => (A8.ext (hx.trans y.ext)).cell
    have qB := fun (y : Wx x) => (B8.ext (hx.trans y.ext)).cell
    have qC0 := fun (y : Wx x) => (C08.ext (hx.trans y.ext)).cell
    have qC1 := fun (y : Wx x) => (C18.ext (hx.trans y.ext)).cell
    have qC2 := fun (y : Wx x) => (C28.ext (hx.trans y.ext)).cell
    have qC3 := fun (y : Wx x) => (C38.ext (hx.trans y.ext)).cell
    have qC4 := fun (y : Wx x) => (C48.ext (hx.trans y.ext)).cell
    have qC5 := fun (y : Wx x) => (C58.ext (hx.trans y.ext)).cell
    have qC6 := fun (y : Wx x) => (C68.ext (hx.trans y.ext)).cell
    try simp only [List.append_eq, List.cons_append, List.nil_append]
    repeat (go_big_quiet_step ((go_at_call 15; exact calm_eq (rclamp_any _ _ (by omega) (by omega)))))
    exact wpQuiet_nil rfl
  intro w9 hx9
  have A9 := A8.ext hx9
  have cA9 := A9.cell
  have B9 := B8.ext hx9
  have cB9 := B9.cell
  have C09 := C08.ext hx9
  have cC09 := C09.cell
  have C19 := C18.ext hx9
  have cC19 := C19.cell
  have C29 := C28.ext hx9
  have cC29 := C29.cell
  have C39 := C38.ext hx9
  have cC39 := C39.cell
  have C49 := C48.ext hx9
  have cC49 := C49.cell
  have C59 := C58.ext hx9
  have cC59 := C59.cell
  have C69 := C68.ext hx9
  have cC69 := C69.cell
  clear A8 cA8 B8 cB8 C08 cC08 C18 cC18 C28 cC28 C38 cC38 C48 cC48 C58 cC58 C68 cC68
  have e9 := e8.trans hx9
  clear e8 hx9
  go_wp2
  apply wp_region_reads2 _ (by kernel_rfl) (by kernel_rfl)
  case H =>
    intro x hx
    have hne : Nonempty (Wx x) := ⟨⟨x, Ext.refl x⟩⟩
    have qA := fun (y : Wx x) => (A9.ext (hx.trans y.ext)).cell
    have qB := fun (y : Wx x) => (B9.ext (hx.trans y.ext)).cell
    have qC0 := fun (y : Wx x) => (C09.ext (hx.trans y.ext)).cell
    have qC1 := fun (y : Wx x) => (C19.ext (hx.trans y.ext)).cell
    have qC2 := fun (y : Wx x) => (C29.ext (hx.trans y.ext)).cell
    have qC3 := fun (y : Wx x) => (C39.ext (hx.trans y.ext)).cell
    have qC4 := fun (y : Wx x) => (C49.ext (hx.trans y.ext)).cell
    have qC5 := fun (y : Wx x) => (C59.ext (hx.trans y.ext)).cell
    have qC6 := fun (y : Wx x) => (C69.ext (hx.trans y.ext)).cell
    try simp only [List.append_eq, List.cons_append, List.nil_append]
    repeat (go_big_quiet_step (first
      | (go_at_call 15; exact calm_eq (rclamp_any _ _ (by omega) (by omega)))
      | (go_at_call 16; exact calm_eq (rmul_any _ _ _ (by omega) (by omega) (by omega) (by omega)))))
    exact wpQuiet_nil rfl
  intro w10 hx10
  have A10 := A9.ext hx10
  have cA10 := A10.cell
  have B10 := B9.ext hx10
  have cB10 := B10.cell
  have C010 := C09.ext hx10
  have cC010 := C010.cell
  have C110 := C19.ext hx10
  have cC110 := C110.cell
  have C210 := C29.ext hx10
  have cC210 := C210.cell
  have C310 := C39.ext hx10
  have cC310 := C310.cell
  have C410 := C49.ext hx10
  have cC410 := C410.cell
  have C510 := C59.ext hx10
  have cC510 := C510.cell
  have C610 := C69.ext hx10
  have cC610 := C610.cell
  clear A9 cA9 B9 cB9 C09 cC09 C19 cC19 C29 cC29 C39 cC39 C49 cC49 C59 cC59 C69 cC69
  have e10 := e9.trans hx10
  clear e9 hx10
  go_wp2
  rw [rounds_succ]
  go_wp2
  apply wp_region_reads2 _ (by kernel_rfl) (by kernel_rfl)
  case H =>
    intro x hx
    have hne : Nonempty (Wx x) := ⟨⟨x, Ext.refl x⟩⟩
    have qA := fun (y : Wx x) => (A10.ext (hx.trans y.ext)).cell
    have qB := fun (y : Wx x) => (B10.ext (hx.trans y.ext)).cell
    try simp only [List.append_eq, List.cons_append, List.nil_append]
    repeat (go_big_quiet_step (first | (go_at_call 17; exact calm_of (dot_any _ _ _ _ _ _ _ _ (by omega) (by omega) (by omega) (by omega) (by omega) (by omega) (by omega) (by omega) _)) | (go_at_call 18; exact calm_of (rdot_any _ _ _ _ _ _ _ _ (by omega) (by omega) (by omega) (by omega) (by omega) (by omega) (by omega) (by omega) _))))
    exact wpQuiet_nil rfl
  intro w11 hx11
  go_wp2
  go_ret
  exact ⟨rfl, e10.trans hx11⟩

theorem vecPairs_row (a0 a1 a2 a3 b0 b1 b2 b3 n most : Int) (ha0 : -9223372036854775808 ≤ a0 ∧ a0 ≤ 9223372036854775807) (ha1 : -9223372036854775808 ≤ a1 ∧ a1 ≤ 9223372036854775807) (ha2 : -9223372036854775808 ≤ a2 ∧ a2 ≤ 9223372036854775807) (ha3 : -9223372036854775808 ≤ a3 ∧ a3 ≤ 9223372036854775807) (hb0 : -9223372036854775808 ≤ b0 ∧ b0 ≤ 9223372036854775807) (hb1 : -9223372036854775808 ≤ b1 ∧ b1 ≤ 9223372036854775807) (hb2 : -9223372036854775808 ≤ b2 ∧ b2 ≤ 9223372036854775807) (hb3 : -9223372036854775808 ≤ b3 ∧ b3 ≤ 9223372036854775807) (hn : -9223372036854775808 ≤ n ∧ n ≤ 9223372036854775807) (hm : -9223372036854775808 ≤ most ∧ most ≤ 9223372036854775807) (w : World) :
    Calls Try.prog 3 #[.agg #[.int .i64 a0, .int .i64 a1, .int .i64 a2, .int .i64 a3], .agg #[.int .i64 b0, .int .i64 b1, .int .i64 b2, .int .i64 b3], .int .i64 n, .int .i64 most] w fun e w' => e = .returned (.bool true) ∧ Ext w w' := by
  by_cases h : 0 ≤ most
  · exact vecPairs_pos _ _ _ _ _ _ _ _ _ _ ha0 ha1 ha2 ha3 hb0 hb1 hb2 hb3 h hn hm w
  · exact vecPairs_neg _ _ _ _ _ _ _ _ _ _ ha0 ha1 ha2 ha3 hb0 hb1 hb2 hb3 h hn hm w

end Go.Proofs.Ythpobegfiflppaa
