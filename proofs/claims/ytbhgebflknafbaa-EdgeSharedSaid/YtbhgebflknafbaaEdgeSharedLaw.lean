/-
  DERIVED. The walk of the law EdgeShared, where both triangles are right; the law.
-/
import Derived.Test.YtbhgebflknafbaaEdgeSharedEarly
namespace Go.Proofs.Ytbhgebflknafbaa
open Go.RowKit
set_option linter.unusedVariables false

set_option maxRecDepth 100000 in
set_option maxHeartbeats 8000000 in
theorem edgeShared_late (a0 a1 b0 b1 c0 c1 d0 d1 x y : Int) (ha0 : -128 ≤ a0 ∧ a0 ≤ 127) (ha1 : -128 ≤ a1 ∧ a1 ≤ 127) (hb0 : -128 ≤ b0 ∧ b0 ≤ 127) (hb1 : -128 ≤ b1 ∧ b1 ≤ 127) (hc0 : -128 ≤ c0 ∧ c0 ≤ 127) (hc1 : -128 ≤ c1 ∧ c1 ≤ 127) (hd0 : -128 ≤ d0 ∧ d0 ≤ 127) (hd1 : -128 ≤ d1 ∧ d1 ≤ 127) (hx : -128 ≤ x ∧ x ≤ 127) (hy : -128 ≤ y ∧ y ≤ 127) (p0 : 0 < sd a0 a1 b0 b1 c0 c1) (p1 : 0 < sd b0 b1 a0 a1 d0 d1) (w : World) :
    Calls Try.prog 4 #[.agg #[.int .i8 a0, .int .i8 a1], .agg #[.int .i8 b0, .int .i8 b1], .agg #[.int .i8 c0, .int .i8 c1], .agg #[.int .i8 d0, .int .i8 d1], .int .i8 x, .int .i8 y] w fun e w' => e = .returned (.bool true) ∧ Ext w w' := by
  obtain ⟨u, hu, lu, uu⟩ := half8 (a0 + b0) (by omega)
  obtain ⟨v, hv, lv, uv⟩ := half8 (a1 + b1) (by omega)
  have j0 : decide (sd a0 a1 b0 b1 c0 c1 ≤ 0) = false := by simpa using p0
  have j1 : decide (sd b0 b1 a0 a1 d0 d1 ≤ 0) = false := by simpa using p1
  go_enter Try.func4, Try.ntmps4
  go_wp2_with fail
  with_reducible refine (awake3_any _).mono ?_
  rintro e w1 ⟨rfl, hx1⟩
  have A1 : Blk w1 w.heap.size #[.int .i8 a0, .int .i8 a1] 27 := ((((Blk.new w _ _).alloc _).alloc _).alloc _).ext hx1
  have B1 : Blk w1 (w.heap.size + 1) #[.int .i8 b0, .int .i8 b1] 27 := (((Blk.new' (by simp) _ _).alloc _).alloc _).ext hx1
  have C1 : Blk w1 (w.heap.size + 1 + 1) #[.int .i8 c0, .int .i8 c1] 27 := ((Blk.new' (by simp) _ _).alloc _).ext hx1
  have D1 : Blk w1 (w.heap.size + 1 + 1 + 1) #[.int .i8 d0, .int .i8 d1] 27 := (Blk.new' (by simp) _ _).ext hx1
  have e1 : Ext w w1 := Ext.trans (((((Ext.refl w).alloc _ _).alloc _ _).alloc _ _).alloc _ _) hx1
  clear hx1
  go_wp2
  apply wp_region_vars [false, false, false, false, false, false, false, false, false, false, false, false, false, false, false, false, false, false, false, false, true, true, true, true] [] [⟨some 20, 14, 0, some 22, 25, #[.int .i64 0, .int .i64 0, .int .i64 0, .int .i64 0, .int .i64 0, .int .i64 0], #[.int .i64 a0, .int .i64 a1, .int .i64 b0, .int .i64 b1, .int .i64 c0, .int .i64 c1]⟩, ⟨some 21, 15, 0, some 23, 25, #[.int .i64 0, .int .i64 0, .int .i64 0, .int .i64 0, .int .i64 0, .int .i64 0], #[.int .i64 b0, .int .i64 b1, .int .i64 a0, .int .i64 a1, .int .i64 d0, .int .i64 d1]⟩] _ (by kernel_rfl) (by kernel_rfl) (by kernel_rfl)
  case H =>
    intro x' hx
    have hne : Nonempty (Wx x') := ⟨⟨x', Ext.refl x'⟩⟩
    have q0 := fun (y : Wx x') => ((A1.calm hx (by simp)).ext y.ext).cell
    have q1 := fun (y : Wx x') => ((B1.calm hx (by simp)).ext y.ext).cell
    have q2 := fun (y : Wx x') => ((C1.calm hx (by simp)).ext y.ext).cell
    have q3 := fun (y : Wx x') => ((D1.calm hx (by simp)).ext y.ext).cell
    simp only [eraseM]
    repeat (go_big_quiet_step ((go_at_call 22; exact calm_of (at_any _ _ (by omega) (by omega) _))))
    exact wpQuiet_nil rfl
  case hok =>
    simp only [List.forall_mem_cons, List.not_mem_nil, false_implies, implies_true, and_true]
    refine ⟨tgt_fresh (by simp) rfl rfl mkT rfl rfl rfl rfl (by kernel_rfl) (by kernel_rfl) rfl, tgt_fresh (by simp) rfl rfl mkT rfl rfl rfl rfl (by kernel_rfl) (by kernel_rfl) rfl⟩
  case hdis =>
    intro k k' t t' hk hk' _ ha
    exfalso
    have := List.mem_of_getElem? hk
    simp only [List.mem_cons, List.not_mem_nil, or_false] at this
    rcases this with rfl | rfl <;> cases ha
  rintro w2 f hw ⟨k0, l0, d0', -, k1, l1, d1', -, -⟩
  have hx2 := hw.ext
  clear hw
  have A2 := A1.ext hx2
  have B2 := B1.ext hx2
  have S2 : Blk w2 (f 0) #[.int .i64 a0, .int .i64 a1, .int .i64 b0, .int .i64 b1, .int .i64 c0, .int .i64 c1] 25 := d0'
  have T2 : Blk w2 (f 1) #[.int .i64 b0, .int .i64 b1, .int .i64 a0, .int .i64 a1, .int .i64 d0, .int .i64 d1] 25 := d1'
  clear A1 B1 C1 D1 k0 l0 d0' k1 l1 d1'
  simp only [pairs, putAll, Option.isSome_some, if_true]
  generalize f 0 = g0 at *
  generalize f 1 = g1 at *
  clear f
  have e2 := e1.trans hx2
  clear e1 hx2
  have cA2 := A2.cell
  have cB2 := B2.cell
  have cS2 := S2.cell
  have cT2 := T2.cell
  go_wp2_with fail
  refine (area_any _ _ _ _ _ _ (by omega) (by omega) (by omega) (by omega) (by omega) (by omega) _).mono ?_
  rintro e w3 ⟨rfl, hx3⟩
  have A3 := A2.ext hx3
  have cA3 := A3.cell
  have B3 := B2.ext hx3
  have cB3 := B3.cell
  have S3 := S2.ext hx3
  have cS3 := S3.cell
  have T3 := T2.ext hx3
  have cT3 := T3.cell
  clear A2 cA2 B2 cB2 S2 cS2 T2 cT2
  have e3 := e2.trans hx3
  clear e2 hx3
  go_wp2_with fail
  refine (area_any _ _ _ _ _ _ (by omega) (by omega) (by omega) (by omega) (by omega) (by omega) _).mono ?_
  rintro e w4 ⟨rfl, hx4⟩
  have A4 := A3.ext hx4
  have cA4 := A4.cell
  have B4 := B3.ext hx4
  have cB4 := B4.cell
  have S4 := S3.ext hx4
  have cS4 := S4.cell
  have T4 := T3.ext hx4
  have cT4 := T4.cell
  clear A3 cA3 B3 cB3 S3 cS3 T3 cT3
  have e4 := e3.trans hx4
  clear e3 hx4
  go_wp2
  have A5 := A4.alloc (.cells #[.int .i64 x, .int .i64 y, .int .i64 u, .int .i64 v] 23)
  have B5 := B4.alloc (.cells #[.int .i64 x, .int .i64 y, .int .i64 u, .int .i64 v] 23)
  have S5 := S4.alloc (.cells #[.int .i64 x, .int .i64 y, .int .i64 u, .int .i64 v] 23)
  have T5 := T4.alloc (.cells #[.int .i64 x, .int .i64 y, .int .i64 u, .int .i64 v] 23)
  have L5 : Blk (w4.alloc (.cells #[.int .i64 x, .int .i64 y, .int .i64 u, .int .i64 v] 23)) w4.heap.size #[.int .i64 x, .int .i64 y, .int .i64 u, .int .i64 v] 23 := Blk.new w4 _ _
  have e5 := e4.alloc #[.int .i64 x, .int .i64 y, .int .i64 u, .int .i64 v] 23
  clear A4 B4 S4 T4 e4 cA4 cB4 cS4 cT4
  generalize w4.alloc (.cells #[.int .i64 x, .int .i64 y, .int .i64 u, .int .i64 v] 23) = w5 at *
  generalize w4.heap.size = g4 at *
  clear w4
  have cA5 := A5.cell
  have cB5 := B5.cell
  have cS5 := S5.cell
  have cT5 := T5.cell
  have cL5 := L5.cell
  refine wp_loop_rounds 3 ?_
  rw [rounds_succ]
  go_upto_region 10 with fail
  have A6 := A5.alloc (.cells #[.int .i64 x, .int .i64 y] 23)
  have B6 := B5.alloc (.cells #[.int .i64 x, .int .i64 y] 23)
  have S6 := S5.alloc (.cells #[.int .i64 x, .int .i64 y] 23)
  have T6 := T5.alloc (.cells #[.int .i64 x, .int .i64 y] 23)
  have L6 := L5.alloc (.cells #[.int .i64 x, .int .i64 y] 23)
  have P6 : Blk (w5.alloc (.cells #[.int .i64 x, .int .i64 y] 23)) w5.heap.size #[.int .i64 x, .int .i64 y] 23 := Blk.new w5 _ _
  have e6 := e5.alloc #[.int .i64 x, .int .i64 y] 23
  clear A5 cA5 B5 cB5 S5 cS5 T5 cT5 L5 cL5 e5
  generalize w5.alloc (.cells #[.int .i64 x, .int .i64 y] 23) = w6 at *
  generalize w5.heap.size = g5 at *
  clear w5
  have cA6 := A6.cell
  have cB6 := B6.cell
  have cS6 := S6.cell
  have cT6 := T6.cell
  have cL6 := L6.cell
  have cP6 := P6.cell
  go_cut [86] (fun o wx => o = .bool false ∧ Ext w6 wx)
  case first =>
    go_wp2_with fail
    refine (covers_any _ _ _ _ _ _ _ _ (by omega) (by omega) (by omega) (by omega) (by omega) (by omega) (by omega) (by omega) _).mono ?_
    rintro e wa ⟨rfl, ha⟩
    cases hc : covB a0 a1 b0 b1 c0 c1 x y
    · go_wp2
      go_meet
      exact ⟨rfl, ha⟩
    · have HI := Lib.hid (shared_both (d0 := d0) (d1 := d1) (x := x) (y := y) ha0 ha1 hb0 hb1 hc)
      have cTa := (T6.ext ha).cell
      have cPa := (P6.ext ha).cell
      go_wp2_with fail
      refine (covers_any _ _ _ _ _ _ _ _ (by omega) (by omega) (by omega) (by omega) (by omega) (by omega) (by omega) (by omega) _).mono ?_
      rintro e wb ⟨rfl, hb⟩
      go_wp2
      go_meet
      exact ⟨by rw [HI.out], ha.trans hb⟩
  obtain ⟨rfl, hx7⟩ := hcut
  generalize wc = w7 at *
  have A7 := A6.ext hx7
  have cA7 := A7.cell
  have B7 := B6.ext hx7
  have cB7 := B7.cell
  have S7 := S6.ext hx7
  have cS7 := S7.cell
  have T7 := T6.ext hx7
  have cT7 := T7.cell
  have L7 := L6.ext hx7
  have cL7 := L7.cell
  have P7 := P6.ext hx7
  have cP7 := P7.cell
  clear A6 cA6 B6 cB6 S6 cS6 T6 cT6 L6 cL6 P6 cP6
  have e7 := e6.trans hx7
  clear e6 hx7
  go_wp2
  apply wp_region_reads2 _ (by kernel_rfl) (by kernel_rfl)
  case H =>
    intro x' hx
    have hne : Nonempty (Wx x') := ⟨⟨x', Ext.refl x'⟩⟩
    have qA := fun (y : Wx x') => (A7.ext (hx.trans y.ext)).cell
    have qB := fun (y : Wx x') => (B7.ext (hx.trans y.ext)).cell
    have qP := fun (y : Wx x') => (P7.ext (hx.trans y.ext)).cell
    try simp only [List.append_eq, List.cons_append, List.nil_append]
    repeat (go_big_quiet_step (first
      | (go_at_call 22; exact calm_of (at_any _ _ (by omega) (by omega) _))
      | (go_at_call 13; exact calm_of (side_any _ _ _ _ _ _ (by omega) (by omega) (by omega) (by omega) (by omega) (by omega) _))))
    exact wpQuiet_nil rfl
  intro w8 hx8
  have A8 := A7.ext hx8
  have cA8 := A8.cell
  have B8 := B7.ext hx8
  have cB8 := B8.cell
  have S8 := S7.ext hx8
  have cS8 := S8.cell
  have T8 := T7.ext hx8
  have cT8 := T8.cell
  have L8 := L7.ext hx8
  have cL8 := L8.cell
  have P8 := P7.ext hx8
  have cP8 := P8.cell
  clear A7 cA7 B7 cB7 S7 cS7 T7 cT7 L7 cL7 P7 cP7
  have e8 := e7.trans hx8
  clear e7 hx8
  go_wp2
  apply wp_region_vars [false, false, false, false, false, false, true, true, true, true] [] [⟨some 6, 19, 0, some 8, 37, #[.int .i64 0, .int .i64 0, .int .i64 0], #[.int .i64 (sd b0 b1 c0 c1 x y), .int .i64 (sd c0 c1 a0 a1 x y), .int .i64 (sd a0 a1 b0 b1 x y)]⟩, ⟨some 7, 20, 0, some 9, 37, #[.int .i64 0, .int .i64 0, .int .i64 0], #[.int .i64 (sd a0 a1 d0 d1 x y), .int .i64 (sd d0 d1 b0 b1 x y), .int .i64 (sd b0 b1 a0 a1 x y)]⟩] _ (by kernel_rfl) (by kernel_rfl) (by kernel_rfl)
  case H =>
    intro x' hx
    have hne : Nonempty (Wx x') := ⟨⟨x', Ext.refl x'⟩⟩
    have q0 := fun (y : Wx x') => ((S8.calm hx (by simp)).ext y.ext).cell
    have q1 := fun (y : Wx x') => ((T8.calm hx (by simp)).ext y.ext).cell
    have q2 := fun (y : Wx x') => ((P8.calm hx (by simp)).ext y.ext).cell
    simp only [eraseM]
    repeat (go_big_quiet_step ((go_at_call 12; exact calm_of (weights_any _ _ _ _ _ _ _ _ (by omega) (by omega) (by omega) (by omega) (by omega) (by omega) (by omega) (by omega) _))))
    exact wpQuiet_nil rfl
  case hok =>
    simp only [List.forall_mem_cons, List.not_mem_nil, false_implies, implies_true, and_true]
    refine ⟨tgt_fresh (by simp) rfl rfl mkW rfl rfl rfl rfl (by kernel_rfl) (by kernel_rfl) rfl, tgt_fresh (by simp) rfl rfl mkW rfl rfl rfl rfl (by kernel_rfl) (by kernel_rfl) rfl⟩
  case hdis =>
    intro k k' t t' hk hk' _ ha
    exfalso
    have := List.mem_of_getElem? hk
    simp only [List.mem_cons, List.not_mem_nil, or_false] at this
    rcases this with rfl | rfl <;> cases ha
  rintro w9 f hw ⟨k0, l0, d0', -, k1, l1, d1', -, -⟩
  have hx9 := hw.ext
  clear hw
  have A9 := A8.ext hx9
  have cA9 := A9.cell
  have B9 := B8.ext hx9
  have cB9 := B9.cell
  have S9 := S8.ext hx9
  have cS9 := S9.cell
  have T9 := T8.ext hx9
  have cT9 := T9.cell
  have L9 := L8.ext hx9
  have cL9 := L9.cell
  have P9 := P8.ext hx9
  have cP9 := P9.cell
  clear A8 cA8 B8 cB8 S8 cS8 T8 cT8 L8 cL8 P8 cP8
  have e9 := e8.trans hx9
  clear e8 hx9
  have M9 : Blk w9 (f 0) #[.int .i64 (sd b0 b1 c0 c1 x y), .int .i64 (sd c0 c1 a0 a1 x y), .int .i64 (sd a0 a1 b0 b1 x y)] 37 := d0'
  have N9 : Blk w9 (f 1) #[.int .i64 (sd a0 a1 d0 d1 x y), .int .i64 (sd d0 d1 b0 b1 x y), .int .i64 (sd b0 b1 a0 a1 x y)] 37 := d1'
  clear k0 l0 d0' k1 l1 d1'
  simp only [pairs, putAll, Option.isSome_some, if_true, Act.put, List.setIfInBounds_toArray, List.set_cons_succ, List.set_cons_zero]
  generalize f 0 = gm0 at *
  generalize f 1 = gn0 at *
  clear f
  have cM9 := M9.cell
  have cN9 := N9.cell
  go_upto_region 14 with fail
  go_cut [18, 134] (fun _ o wx => o = .bool false ∧ Ext w9 wx)
  case first =>
    cases z : (sd a0 a1 b0 b1 x y == 0)
    · go_wp2
      go_meet
      exact ⟨rfl, Ext.refl _⟩
    cases z0 : decide (0 < sd b0 b1 c0 c1 x y)
    · go_wp2
      go_meet
      exact ⟨rfl, Ext.refl _⟩
    cases z1 : decide (0 < sd c0 c1 a0 a1 x y)
    · go_wp2
      go_meet
      exact ⟨rfl, Ext.refl _⟩
    cases z2 : decide (0 < sd a0 a1 d0 d1 x y)
    · go_wp2
      go_meet
      exact ⟨rfl, Ext.refl _⟩
    cases z3 : decide (0 < sd d0 d1 b0 b1 x y)
    · go_wp2
      go_meet
      exact ⟨rfl, Ext.refl _⟩
    go_wp2_with fail
    refine (covers_any _ _ _ _ _ _ _ _ (by omega) (by omega) (by omega) (by omega) (by omega) (by omega) (by omega) (by omega) _).mono ?_
    rintro e wa ⟨rfl, ha⟩
    cases hc : covB a0 a1 b0 b1 c0 c1 x y
    · have HI := Lib.hid (shared_either p0 p1 (by simpa using z) (by simpa using z0) (by simpa using z1) (by simpa using z2) (by simpa using z3) hc)
      have cTa := (T9.ext ha).cell
      have cPa := (P9.ext ha).cell
      go_wp2_with fail
      refine (covers_any _ _ _ _ _ _ _ _ (by omega) (by omega) (by omega) (by omega) (by omega) (by omega) (by omega) (by omega) _).mono ?_
      rintro e wb ⟨rfl, hb⟩
      go_wp2
      go_meet
      exact ⟨by rw [HI.out]; rfl, ha.trans hb⟩
    · go_wp2
      go_meet
      exact ⟨rfl, ha⟩
  obtain ⟨rfl, hx10⟩ := hcut
  generalize wc = w10 at *
  clear M9 N9 cM9 cN9 P9 cP9
  have A10 := A9.ext hx10
  have cA10 := A10.cell
  have B10 := B9.ext hx10
  have cB10 := B10.cell
  have S10 := S9.ext hx10
  have cS10 := S10.cell
  have T10 := T9.ext hx10
  have cT10 := T10.cell
  have L10 := L9.ext hx10
  have cL10 := L10.cell
  clear A9 cA9 B9 cB9 S9 cS9 T9 cT9 L9 cL9
  have e10 := e9.trans hx10
  clear e9 hx10
  go_wp2
  rw [rounds_succ]
  go_upto_region 10 with fail
  have A11 := A10.alloc (.cells #[.int .i64 u, .int .i64 v] 23)
  have B11 := B10.alloc (.cells #[.int .i64 u, .int .i64 v] 23)
  have S11 := S10.alloc (.cells #[.int .i64 u, .int .i64 v] 23)
  have T11 := T10.alloc (.cells #[.int .i64 u, .int .i64 v] 23)
  have L11 := L10.alloc (.cells #[.int .i64 u, .int .i64 v] 23)
  have P11 : Blk (w10.alloc (.cells #[.int .i64 u, .int .i64 v] 23)) w10.heap.size #[.int .i64 u, .int .i64 v] 23 := Blk.new w10 _ _
  have e11 := e10.alloc #[.int .i64 u, .int .i64 v] 23
  clear A10 cA10 B10 cB10 S10 cS10 T10 cT10 L10 cL10 e10
  generalize w10.alloc (.cells #[.int .i64 u, .int .i64 v] 23) = w11 at *
  generalize w10.heap.size = g10 at *
  clear w10
  have cA11 := A11.cell
  have cB11 := B11.cell
  have cS11 := S11.cell
  have cT11 := T11.cell
  have cL11 := L11.cell
  have cP11 := P11.cell
  go_cut [86] (fun o wx => o = .bool false ∧ Ext w11 wx)
  case first =>
    go_wp2_with fail
    refine (covers_any _ _ _ _ _ _ _ _ (by omega) (by omega) (by omega) (by omega) (by omega) (by omega) (by omega) (by omega) _).mono ?_
    rintro e wa ⟨rfl, ha⟩
    cases hc : covB a0 a1 b0 b1 c0 c1 u v
    · go_wp2
      go_meet
      exact ⟨rfl, ha⟩
    · have HI := Lib.hid (shared_both (d0 := d0) (d1 := d1) (x := u) (y := v) ha0 ha1 hb0 hb1 hc)
      have cTa := (T11.ext ha).cell
      have cPa := (P11.ext ha).cell
      go_wp2_with fail
      refine (covers_any _ _ _ _ _ _ _ _ (by omega) (by omega) (by omega) (by omega) (by omega) (by omega) (by omega) (by omega) _).mono ?_
      rintro e wb ⟨rfl, hb⟩
      go_wp2
      go_meet
      exact ⟨by rw [HI.out], ha.trans hb⟩
  obtain ⟨rfl, hx12⟩ := hcut
  generalize wc = w12 at *
  have A12 := A11.ext hx12
  have cA12 := A12.cell
  have B12 := B11.ext hx12
  have cB12 := B12.cell
  have S12 := S11.ext hx12
  have cS12 := S12.cell
  have T12 := T11.ext hx12
  have cT12 := T12.cell
  have L12 := L11.ext hx12
  have cL12 := L12.cell
  have P12 := P11.ext hx12
  have cP12 := P12.cell
  clear A11 cA11 B11 cB11 S11 cS11 T11 cT11 L11 cL11 P11 cP11
  have e12 := e11.trans hx12
  clear e11 hx12
  go_wp2
  apply wp_region_reads2 _ (by kernel_rfl) (by kernel_rfl)
  case H =>
    intro x' hx
    have hne : Nonempty (Wx x') := ⟨⟨x', Ext.refl x'⟩⟩
    have qA := fun (y : Wx x') => (A12.ext (hx.trans y.ext)).cell
    have qB := fun (y : Wx x') => (B12.ext (hx.trans y.ext)).cell
    have qP := fun (y : Wx x') => (P12.ext (hx.trans y.ext)).cell
    try simp only [List.append_eq, List.cons_append, List.nil_append]
    repeat (go_big_quiet_step (first
      | (go_at_call 22; exact calm_of (at_any _ _ (by omega) (by omega) _))
      | (go_at_call 13; exact calm_of (side_any _ _ _ _ _ _ (by omega) (by omega) (by omega) (by omega) (by omega) (by omega) _))))
    exact wpQuiet_nil rfl
  intro w13 hx13
  have A13 := A12.ext hx13
  have cA13 := A13.cell
  have B13 := B12.ext hx13
  have cB13 := B13.cell
  have S13 := S12.ext hx13
  have cS13 := S13.cell
  have T13 := T12.ext hx13
  have cT13 := T13.cell
  have L13 := L12.ext hx13
  have cL13 := L13.cell
  have P13 := P12.ext hx13
  have cP13 := P13.cell
  clear A12 cA12 B12 cB12 S12 cS12 T12 cT12 L12 cL12 P12 cP12
  have e13 := e12.trans hx13
  clear e12 hx13
  go_wp2
  apply wp_region_vars [false, false, false, false, false, false, true, true, true, true] [] [⟨some 6, 19, 0, some 8, 37, #[.int .i64 0, .int .i64 0, .int .i64 0], #[.int .i64 (sd b0 b1 c0 c1 u v), .int .i64 (sd c0 c1 a0 a1 u v), .int .i64 (sd a0 a1 b0 b1 u v)]⟩, ⟨some 7, 20, 0, some 9, 37, #[.int .i64 0, .int .i64 0, .int .i64 0], #[.int .i64 (sd a0 a1 d0 d1 u v), .int .i64 (sd d0 d1 b0 b1 u v), .int .i64 (sd b0 b1 a0 a1 u v)]⟩] _ (by kernel_rfl) (by kernel_rfl) (by kernel_rfl)
  case H =>
    intro x' hx
    have hne : Nonempty (Wx x') := ⟨⟨x', Ext.refl x'⟩⟩
    have q0 := fun (y : Wx x') => ((S13.calm hx (by simp)).ext y.ext).cell
    have q1 := fun (y : Wx x') => ((T13.calm hx (by simp)).ext y.ext).cell
    have q2 := fun (y : Wx x') => ((P13.calm hx (by simp)).ext y.ext).cell
    simp only [eraseM]
    repeat (go_big_quiet_step ((go_at_call 12; exact calm_of (weights_any _ _ _ _ _ _ _ _ (by omega) (by omega) (by omega) (by omega) (by omega) (by omega) (by omega) (by omega) _))))
    exact wpQuiet_nil rfl
  case hok =>
    simp only [List.forall_mem_cons, List.not_mem_nil, false_implies, implies_true, and_true]
    refine ⟨tgt_fresh (by simp) rfl rfl mkW rfl rfl rfl rfl (by kernel_rfl) (by kernel_rfl) rfl, tgt_fresh (by simp) rfl rfl mkW rfl rfl rfl rfl (by kernel_rfl) (by kernel_rfl) rfl⟩
  case hdis =>
    intro k k' t t' hk hk' _ ha
    exfalso
    have := List.mem_of_getElem? hk
    simp only [List.mem_cons, List.not_mem_nil, or_false] at this
    rcases this with rfl | rfl <;> cases ha
  rintro w14 f hw ⟨k0, l0, d0', -, k1, l1, d1', -, -⟩
  have hx14 := hw.ext
  clear hw
  have A14 := A13.ext hx14
  have cA14 := A14.cell
  have B14 := B13.ext hx14
  have cB14 := B14.cell
  have S14 := S13.ext hx14
  have cS14 := S14.cell
  have T14 := T13.ext hx14
  have cT14 := T14.cell
  have L14 := L13.ext hx14
  have cL14 := L14.cell
  have P14 := P13.ext hx14
  have cP14 := P14.cell
  clear A13 cA13 B13 cB13 S13 cS13 T13 cT13 L13 cL13 P13 cP13
  have e14 := e13.trans hx14
  clear e13 hx14
  have M14 : Blk w14 (f 0) #[.int .i64 (sd b0 b1 c0 c1 u v), .int .i64 (sd c0 c1 a0 a1 u v), .int .i64 (sd a0 a1 b0 b1 u v)] 37 := d0'
  have N14 : Blk w14 (f 1) #[.int .i64 (sd a0 a1 d0 d1 u v), .int .i64 (sd d0 d1 b0 b1 u v), .int .i64 (sd b0 b1 a0 a1 u v)] 37 := d1'
  clear k0 l0 d0' k1 l1 d1'
  simp only [pairs, putAll, Option.isSome_some, if_true, Act.put, List.setIfInBounds_toArray, List.set_cons_succ, List.set_cons_zero]
  generalize f 0 = gm1 at *
  generalize f 1 = gn1 at *
  clear f
  have cM14 := M14.cell
  have cN14 := N14.cell
  go_upto_region 14 with fail
  go_cut [18, 134] (fun _ o wx => o = .bool false ∧ Ext w14 wx)
  case first =>
    cases z : (sd a0 a1 b0 b1 u v == 0)
    · go_wp2
      go_meet
      exact ⟨rfl, Ext.refl _⟩
    cases z0 : decide (0 < sd b0 b1 c0 c1 u v)
    · go_wp2
      go_meet
      exact ⟨rfl, Ext.refl _⟩
    cases z1 : decide (0 < sd c0 c1 a0 a1 u v)
    · go_wp2
      go_meet
      exact ⟨rfl, Ext.refl _⟩
    cases z2 : decide (0 < sd a0 a1 d0 d1 u v)
    · go_wp2
      go_meet
      exact ⟨rfl, Ext.refl _⟩
    cases z3 : decide (0 < sd d0 d1 b0 b1 u v)
    · go_wp2
      go_meet
      exact ⟨rfl, Ext.refl _⟩
    go_wp2_with fail
    refine (covers_any _ _ _ _ _ _ _ _ (by omega) (by omega) (by omega) (by omega) (by omega) (by omega) (by omega) (by omega) _).mono ?_
    rintro e wa ⟨rfl, ha⟩
    cases hc : covB a0 a1 b0 b1 c0 c1 u v
    · have HI := Lib.hid (shared_either p0 p1 (by simpa using z) (by simpa using z0) (by simpa using z1) (by simpa using z2) (by simpa using z3) hc)
      have cTa := (T14.ext ha).cell
      have cPa := (P14.ext ha).cell
      go_wp2_with fail
      refine (covers_any _ _ _ _ _ _ _ _ (by omega) (by omega) (by omega) (by omega) (by omega) (by omega) (by omega) (by omega) _).mono ?_
      rintro e wb ⟨rfl, hb⟩
      go_wp2
      go_meet
      exact ⟨by rw [HI.out]; rfl, ha.trans hb⟩
    · go_wp2
      go_meet
      exact ⟨rfl, ha⟩
  obtain ⟨rfl, hx15⟩ := hcut
  generalize wc = w15 at *
  clear M14 N14 cM14 cN14 P14 cP14
  have A15 := A14.ext hx15
  have cA15 := A15.cell
  have B15 := B14.ext hx15
  have cB15 := B15.cell
  have S15 := S14.ext hx15
  have cS15 := S15.cell
  have T15 := T14.ext hx15
  have cT15 := T15.cell
  have L15 := L14.ext hx15
  have cL15 := L15.cell
  clear A14 cA14 B14 cB14 S14 cS14 T14 cT14 L14 cL14
  have e15 := e14.trans hx15
  clear e14 hx15
  go_wp2
  rw [rounds_succ]
  go_wp2
  go_ret
  exact ⟨rfl, e15⟩

theorem edgeShared_row (a0 a1 b0 b1 c0 c1 d0 d1 x y : Int) (ha0 : -128 ≤ a0 ∧ a0 ≤ 127) (ha1 : -128 ≤ a1 ∧ a1 ≤ 127) (hb0 : -128 ≤ b0 ∧ b0 ≤ 127) (hb1 : -128 ≤ b1 ∧ b1 ≤ 127) (hc0 : -128 ≤ c0 ∧ c0 ≤ 127) (hc1 : -128 ≤ c1 ∧ c1 ≤ 127) (hd0 : -128 ≤ d0 ∧ d0 ≤ 127) (hd1 : -128 ≤ d1 ∧ d1 ≤ 127) (hx : -128 ≤ x ∧ x ≤ 127) (hy : -128 ≤ y ∧ y ≤ 127)  (w : World) :
    Calls Try.prog 4 #[.agg #[.int .i8 a0, .int .i8 a1], .agg #[.int .i8 b0, .int .i8 b1], .agg #[.int .i8 c0, .int .i8 c1], .agg #[.int .i8 d0, .int .i8 d1], .int .i8 x, .int .i8 y] w fun e w' => e = .returned (.bool true) ∧ Ext w w' := by
  by_cases p0 : 0 < sd a0 a1 b0 b1 c0 c1
  · by_cases p1 : 0 < sd b0 b1 a0 a1 d0 d1
    · exact edgeShared_late _ _ _ _ _ _ _ _ _ _ ha0 ha1 hb0 hb1 hc0 hc1 hd0 hd1 hx hy p0 p1 w
    · exact edgeShared_early1 _ _ _ _ _ _ _ _ _ _ ha0 ha1 hb0 hb1 hc0 hc1 hd0 hd1 hx hy p0 (by omega) w
  · exact edgeShared_early0 _ _ _ _ _ _ _ _ _ _ ha0 ha1 hb0 hb1 hc0 hc1 hd0 hd1 hx hy (by omega) w

end Go.Proofs.Ytbhgebflknafbaa
