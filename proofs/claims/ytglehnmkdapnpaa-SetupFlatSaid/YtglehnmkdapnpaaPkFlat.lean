/-
  DERIVED. SetupFlat: the walks (made by mklaw13.py). · SetupFlat (made by mklaw13.py).
-/
import Derived.Test.YtglehnmkdapnpaaPkDep
import Derived.Test.YtglehnmkdapnpaaPkSm
import Derived.Test.YtglehnmkdapnpaaPkGs
namespace Go.Proofs.Ytglehnmkdapnpaa
open Go.RowKit
set_option linter.unusedVariables false
theorem idx4s (x0 x1 x2 x3 : Value) (w : World) :
    (Instr.index 72 (.agg #[x0, x1, x2, x3]) (.int .i64 0)).run Try.prog w = .ok x0 w ∧
    (Instr.index 72 (.agg #[x0, x1, x2, x3]) (.int .i64 1)).run Try.prog w = .ok x1 w ∧
    (Instr.index 72 (.agg #[x0, x1, x2, x3]) (.int .i64 2)).run Try.prog w = .ok x2 w ∧
    (Instr.index 72 (.agg #[x0, x1, x2, x3]) (.int .i64 3)).run Try.prog w = .ok x3 w := by
  refine ⟨?_, ?_, ?_, ?_⟩ <;> simp [Instr.index, asIntOf, run_underlying Try.underlying72, go_sem, part]
set_option maxRecDepth 100000 in
set_option maxHeartbeats 4000000 in
theorem flat_yes (s0 s1 s2 s3 s4 s5 e0 e1 e2 m0 m1 m2 oa0 oa1 oa2 oa3 ob0 ob1 ob2 ob3 oc0 oc1 oc2 oc3 sz ax ay bx by_ cx cy d0 d1 d2 n0 n1 n2 a0 a1 a2 a3 b0 b1 b2 b3 c0 c1 c2 c3 v0 v1 v2 v3 x y p1 q1 d k0 k1 k2 k3 : Int) (hx1 : x.tmod 40 = p1) (hy1 : y.tmod 40 = q1) (bp1 : 0 ≤ p1 ∧ p1 ≤ 63) (bq1 : 0 ≤ q1 ∧ q1 ≤ 63) (gv0 : 0 ≤ v0 ∧ v0 ≤ 65535) (gv1 : 0 ≤ v1 ∧ v1 ≤ 65535) (gv2 : 0 ≤ v2 ∧ v2 ≤ 65535) (gv3 : 0 ≤ v3 ∧ v3 ≤ 65535)
    (hS : ∀ u, Calls Try.prog 18 #[.agg #[.int .i8 s0, .int .i8 s1, .int .i8 s2, .int .i8 s3, .int .i8 s4, .int .i8 s5, .int .u16 e0, .int .u16 e1, .int .u16 e2, .int .u16 m0, .int .u16 m1, .int .u16 m2, .int .u16 oa0, .int .u16 oa1, .int .u16 oa2, .int .u16 oa3, .int .u16 ob0, .int .u16 ob1, .int .u16 ob2, .int .u16 ob3, .int .u16 oc0, .int .u16 oc1, .int .u16 oc2, .int .u16 oc3, .int .u8 sz]] u fun e w' => e = .returned (.tuple #[.agg #[.int .i64 ax, .int .i64 ay, .int .i64 bx, .int .i64 by_, .int .i64 cx, .int .i64 cy, .int .i64 d0, .int .i64 d1, .int .i64 d2, .int .i64 n0, .int .i64 n1, .int .i64 n2, .int .i64 a0, .int .i64 a1, .int .i64 a2, .int .i64 a3, .int .i64 b0, .int .i64 b1, .int .i64 b2, .int .i64 b3, .int .i64 c0, .int .i64 c1, .int .i64 c2, .int .i64 c3], .bool true]) ∧ Ext u w') (hF : ∀ u, Calls Try.prog 19 #[.agg #[.int .i64 ax, .int .i64 ay, .int .i64 bx, .int .i64 by_, .int .i64 cx, .int .i64 cy, .int .i64 d0, .int .i64 d0, .int .i64 d0, .int .i64 n0, .int .i64 n1, .int .i64 n2, .int .i64 v0, .int .i64 v1, .int .i64 v2, .int .i64 v3, .int .i64 v0, .int .i64 v1, .int .i64 v2, .int .i64 v3, .int .i64 v0, .int .i64 v1, .int .i64 v2, .int .i64 v3], .int .i64 p1, .int .i64 q1] u fun e w' => e = .returned (.tuple #[.int .i64 d0, .agg #[.int .i64 v0, .int .i64 v1, .int .i64 v2, .int .i64 v3], .bool true]) ∧ Ext u w') (hA : ∀ u, Calls Try.prog 19 #[.agg #[.int .i64 ax, .int .i64 ay, .int .i64 bx, .int .i64 by_, .int .i64 cx, .int .i64 cy, .int .i64 d0, .int .i64 d1, .int .i64 d2, .int .i64 n0, .int .i64 n1, .int .i64 n2, .int .i64 a0, .int .i64 a1, .int .i64 a2, .int .i64 a3, .int .i64 b0, .int .i64 b1, .int .i64 b2, .int .i64 b3, .int .i64 c0, .int .i64 c1, .int .i64 c2, .int .i64 c3], .int .i64 p1, .int .i64 q1] u fun e w' => e = .returned (.tuple #[.int .i64 d, .agg #[.int .i64 k0, .int .i64 k1, .int .i64 k2, .int .i64 k3], .bool true]) ∧ Ext u w') (hU : ∀ u, Calls Try.prog 19 #[.agg #[.int .i64 bx, .int .i64 by_, .int .i64 cx, .int .i64 cy, .int .i64 ax, .int .i64 ay, .int .i64 d1, .int .i64 d2, .int .i64 d0, .int .i64 n1, .int .i64 n2, .int .i64 n0, .int .i64 b0, .int .i64 b1, .int .i64 b2, .int .i64 b3, .int .i64 c0, .int .i64 c1, .int .i64 c2, .int .i64 c3, .int .i64 a0, .int .i64 a1, .int .i64 a2, .int .i64 a3], .int .i64 p1, .int .i64 q1] u fun e w' => e = .returned (.tuple #[.int .i64 d, .agg #[.int .i64 k0, .int .i64 k1, .int .i64 k2, .int .i64 k3], .bool true]) ∧ Ext u w') (w : World) :
    Calls Try.prog 8 #[.agg #[.int .i8 s0, .int .i8 s1, .int .i8 s2, .int .i8 s3, .int .i8 s4, .int .i8 s5, .int .u16 e0, .int .u16 e1, .int .u16 e2, .int .u16 m0, .int .u16 m1, .int .u16 m2, .int .u16 oa0, .int .u16 oa1, .int .u16 oa2, .int .u16 oa3, .int .u16 ob0, .int .u16 ob1, .int .u16 ob2, .int .u16 ob3, .int .u16 oc0, .int .u16 oc1, .int .u16 oc2, .int .u16 oc3, .int .u8 sz], .agg #[.int .u16 v0, .int .u16 v1, .int .u16 v2, .int .u16 v3], .int .u8 x, .int .u8 y] w fun e w' => e = .returned (.bool true) ∧ Ext w w' := by
  have HS := Lib.hid hS
  have HF := Lib.hid hF
  have HA := Lib.hid hA
  have HU := Lib.hid hU
  clear hS hF hA hU
  have wr : ∀ z : Int, 0 ≤ z ∧ z ≤ 63 → IntKind.i64.wrap z = z := fun z hz => by rw [IntKind.wrap_i64]; omega
  have wp1 := wr p1 bp1
  have wp2 := wr q1 bq1
  clear wr
  have wv0 : IntKind.i64.wrap v0 = v0 := by rw [IntKind.wrap_i64]; omega
  have wv1 : IntKind.i64.wrap v1 = v1 := by rw [IntKind.wrap_i64]; omega
  have wv2 : IntKind.i64.wrap v2 = v2 := by rw [IntKind.wrap_i64]; omega
  have wv3 : IntKind.i64.wrap v3 = v3 := by rw [IntKind.wrap_i64]; omega
  have xx : Ext w ((w.alloc (.cells #[.int .i8 s0, .int .i8 s1, .int .i8 s2, .int .i8 s3, .int .i8 s4, .int .i8 s5, .int .u16 e0, .int .u16 e1, .int .u16 e2, .int .u16 m0, .int .u16 m1, .int .u16 m2, .int .u16 oa0, .int .u16 oa1, .int .u16 oa2, .int .u16 oa3, .int .u16 ob0, .int .u16 ob1, .int .u16 ob2, .int .u16 ob3, .int .u16 oc0, .int .u16 oc1, .int .u16 oc2, .int .u16 oc3, .int .u8 sz] 75)).alloc (.cells #[.int .u16 v0, .int .u16 v1, .int .u16 v2, .int .u16 v3] 72)) := (((Ext.refl w).alloc _ _).alloc _ _)
  have B0 := ((Blk.new w #[.int .i8 s0, .int .i8 s1, .int .i8 s2, .int .i8 s3, .int .i8 s4, .int .i8 s5, .int .u16 e0, .int .u16 e1, .int .u16 e2, .int .u16 m0, .int .u16 m1, .int .u16 m2, .int .u16 oa0, .int .u16 oa1, .int .u16 oa2, .int .u16 oa3, .int .u16 ob0, .int .u16 ob1, .int .u16 ob2, .int .u16 ob3, .int .u16 oc0, .int .u16 oc1, .int .u16 oc2, .int .u16 oc3, .int .u8 sz] 75).alloc (.cells #[.int .u16 v0, .int .u16 v1, .int .u16 v2, .int .u16 v3] 72))
  have D0 := (Blk.new (w.alloc (.cells #[.int .i8 s0, .int .i8 s1, .int .i8 s2, .int .i8 s3, .int .i8 s4, .int .i8 s5, .int .u16 e0, .int .u16 e1, .int .u16 e2, .int .u16 m0, .int .u16 m1, .int .u16 m2, .int .u16 oa0, .int .u16 oa1, .int .u16 oa2, .int .u16 oa3, .int .u16 ob0, .int .u16 ob1, .int .u16 ob2, .int .u16 ob3, .int .u16 oc0, .int .u16 oc1, .int .u16 oc2, .int .u16 oc3, .int .u8 sz] 75)) #[.int .u16 v0, .int .u16 v1, .int .u16 v2, .int .u16 v3] 72)
  go_enter Try.func8, Try.ntmps8
  go_upto_region 1 with fail
  simp only [World.size_alloc] at D0
  generalize ((w.alloc (.cells #[.int .i8 s0, .int .i8 s1, .int .i8 s2, .int .i8 s3, .int .i8 s4, .int .i8 s5, .int .u16 e0, .int .u16 e1, .int .u16 e2, .int .u16 m0, .int .u16 m1, .int .u16 m2, .int .u16 oa0, .int .u16 oa1, .int .u16 oa2, .int .u16 oa3, .int .u16 ob0, .int .u16 ob1, .int .u16 ob2, .int .u16 ob3, .int .u16 oc0, .int .u16 oc1, .int .u16 oc2, .int .u16 oc3, .int .u8 sz] 75)).alloc (.cells #[.int .u16 v0, .int .u16 v1, .int .u16 v2, .int .u16 v3] 72)) = w0 at *
  go_wp2_with fail
  refine (awake13_any _).mono ?_
  rintro e w1 ⟨rfl, x1⟩
  have xx := xx.trans x1
  have B0 := B0.ext x1
  have D0 := D0.ext x1
  clear x1
  go_wp2_with (first
    | ((with_reducible refine wpList_load_blk (op := ⟨some 31, _, _, _, _, _⟩) ?_ 75 (.tmp 4) ?_ (w.heap.size) ?_ (z := _) (T := 75) B0 Try.underlying75 ?_ ?_ ?_); rfl; rfl; rfl; rfl; kernel_rfl)
    | fail)
  refine (HS.out _).mono ?_
  rintro e w2 ⟨rfl, x1⟩
  have xx := xx.trans x1
  have D0 := D0.ext x1
  clear x1
  have B7 := (Blk.new w2 #[.int .i64 0, .int .i64 0, .int .i64 0, .int .i64 0, .int .i64 0, .int .i64 0, .int .i64 0, .int .i64 0, .int .i64 0, .int .i64 0, .int .i64 0, .int .i64 0, .int .i64 0, .int .i64 0, .int .i64 0, .int .i64 0, .int .i64 0, .int .i64 0, .int .i64 0, .int .i64 0, .int .i64 0, .int .i64 0, .int .i64 0, .int .i64 0] 55).setRow #[.int .i64 ax, .int .i64 ay, .int .i64 bx, .int .i64 by_, .int .i64 cx, .int .i64 cy, .int .i64 d0, .int .i64 d1, .int .i64 d2, .int .i64 n0, .int .i64 n1, .int .i64 n2, .int .i64 a0, .int .i64 a1, .int .i64 a2, .int .i64 a3, .int .i64 b0, .int .i64 b1, .int .i64 b2, .int .i64 b3, .int .i64 c0, .int .i64 c1, .int .i64 c2, .int .i64 c3]
  have y1 : Ext w2 ((w2.alloc (.cells #[.int .i64 0, .int .i64 0, .int .i64 0, .int .i64 0, .int .i64 0, .int .i64 0, .int .i64 0, .int .i64 0, .int .i64 0, .int .i64 0, .int .i64 0, .int .i64 0, .int .i64 0, .int .i64 0, .int .i64 0, .int .i64 0, .int .i64 0, .int .i64 0, .int .i64 0, .int .i64 0, .int .i64 0, .int .i64 0, .int .i64 0, .int .i64 0] 55)).setRow w2.heap.size #[.int .i64 ax, .int .i64 ay, .int .i64 bx, .int .i64 by_, .int .i64 cx, .int .i64 cy, .int .i64 d0, .int .i64 d1, .int .i64 d2, .int .i64 n0, .int .i64 n1, .int .i64 n2, .int .i64 a0, .int .i64 a1, .int .i64 a2, .int .i64 a3, .int .i64 b0, .int .i64 b1, .int .i64 b2, .int .i64 b3, .int .i64 c0, .int .i64 c1, .int .i64 c2, .int .i64 c3]) := ((Ext.refl _).alloc _ _).setRow (Nat.le_refl _) _
  have hb7 : w.heap.size ≤ w2.heap.size := xx.size
  go_upto_region 4 with (first
    | ((with_reducible refine wpList_store_blk (op := ⟨none, .store 55 (.tmp 9) (.tmp 33), _, _, _, _⟩) ?_ 55 (.tmp 9) (.tmp 33) ?_ (w2.heap.size) ?_ (cs := #[.int .i64 ax, .int .i64 ay, .int .i64 bx, .int .i64 by_, .int .i64 cx, .int .i64 cy, .int .i64 d0, .int .i64 d1, .int .i64 d2, .int .i64 n0, .int .i64 n1, .int .i64 n2, .int .i64 a0, .int .i64 a1, .int .i64 a2, .int .i64 a3, .int .i64 b0, .int .i64 b1, .int .i64 b2, .int .i64 b3, .int .i64 c0, .int .i64 c1, .int .i64 c2, .int .i64 c3]) ?_ (z := #[.int .i64 0, .int .i64 0, .int .i64 0, .int .i64 0, .int .i64 0, .int .i64 0, .int .i64 0, .int .i64 0, .int .i64 0, .int .i64 0, .int .i64 0, .int .i64 0, .int .i64 0, .int .i64 0, .int .i64 0, .int .i64 0, .int .i64 0, .int .i64 0, .int .i64 0, .int .i64 0, .int .i64 0, .int .i64 0, .int .i64 0, .int .i64 0]) (T := 55) ?_ ?_ ?_ ?_ ?_); rfl; rfl; rfl; rfl; exact Blk.new w2 _ _; kernel_rfl; kernel_rfl; kernel_rfl)
    | fail)
  try simp only [Act.put]
  have xx := xx.trans y1
  have D0 := D0.ext y1
  clear y1
  generalize (w2.alloc (.cells #[.int .i64 0, .int .i64 0, .int .i64 0, .int .i64 0, .int .i64 0, .int .i64 0, .int .i64 0, .int .i64 0, .int .i64 0, .int .i64 0, .int .i64 0, .int .i64 0, .int .i64 0, .int .i64 0, .int .i64 0, .int .i64 0, .int .i64 0, .int .i64 0, .int .i64 0, .int .i64 0, .int .i64 0, .int .i64 0, .int .i64 0, .int .i64 0] 55)).setRow w2.heap.size #[.int .i64 ax, .int .i64 ay, .int .i64 bx, .int .i64 by_, .int .i64 cx, .int .i64 cy, .int .i64 d0, .int .i64 d1, .int .i64 d2, .int .i64 n0, .int .i64 n1, .int .i64 n2, .int .i64 a0, .int .i64 a1, .int .i64 a2, .int .i64 a3, .int .i64 b0, .int .i64 b1, .int .i64 b2, .int .i64 b3, .int .i64 c0, .int .i64 c1, .int .i64 c2, .int .i64 c3] = w3 at *
  generalize hbe : w2.heap.size = b7 at *
  clear hbe
  clear B0 HS
  go_upto_region 7 with fail
  have hb11 : w.heap.size ≤ w3.heap.size := xx.size
  have ltB7 := B7.lt
  have ltD0 := D0.lt
  have y1 : Ext w3 (w3.alloc (.cells #[.int .i64 0, .int .i64 0, .int .i64 0, .int .i64 0] 30)) := (Ext.refl _).alloc _ _
  have B11 := Blk.new w3 #[.int .i64 0, .int .i64 0, .int .i64 0, .int .i64 0] 30
  have xx := xx.trans y1
  have B7 := B7.ext y1
  have D0 := D0.ext y1
  clear y1
  generalize w3.alloc (.cells #[.int .i64 0, .int .i64 0, .int .i64 0, .int .i64 0] 30) = w4 at *
  generalize hbe : w3.heap.size = b11 at *
  clear hbe
  have cD := D0.cell
  go_wp2_with fail
  clear cD
  refine wp_loop_rounds 5 ?_
  rw [rounds_succ]
  have f11 := B11.frozen
  have c11 := B11.cell
  have hX := (idx4s (.int .u16 v0) (.int .u16 v1) (.int .u16 v2) (.int .u16 v3) w4).1
  go_wp2_with fail
  clear f11 c11 hX
  have B11 : Blk (w4.setCell ⟨b11, 0, none⟩ (.int .i64 v0)) b11 #[.int .i64 v0, .int .i64 0, .int .i64 0, .int .i64 0] 30 := by simpa using B11.set 0 (.int .i64 v0)
  have B7 := B7.far (p := ⟨b11, 0, none⟩) (by simp only; omega) (.int .i64 v0)
  have xx := xx.setCell (p := ⟨b11, 0, none⟩) (by simp only; omega) (.int .i64 v0)
  generalize w4.setCell ⟨b11, 0, none⟩ (.int .i64 v0) = wv_0 at *
  rw [rounds_succ]
  have f11 := B11.frozen
  have c11 := B11.cell
  have hX := (idx4s (.int .u16 v0) (.int .u16 v1) (.int .u16 v2) (.int .u16 v3) wv_0).2.1
  go_wp2_with fail
  clear f11 c11 hX
  have B11 : Blk (wv_0.setCell ⟨b11, 1, none⟩ (.int .i64 v1)) b11 #[.int .i64 v0, .int .i64 v1, .int .i64 0, .int .i64 0] 30 := by simpa using B11.set 1 (.int .i64 v1)
  have B7 := B7.far (p := ⟨b11, 1, none⟩) (by simp only; omega) (.int .i64 v1)
  have xx := xx.setCell (p := ⟨b11, 1, none⟩) (by simp only; omega) (.int .i64 v1)
  generalize wv_0.setCell ⟨b11, 1, none⟩ (.int .i64 v1) = wv_1 at *
  rw [rounds_succ]
  have f11 := B11.frozen
  have c11 := B11.cell
  have hX := (idx4s (.int .u16 v0) (.int .u16 v1) (.int .u16 v2) (.int .u16 v3) wv_1).2.2.1
  go_wp2_with fail
  clear f11 c11 hX
  have B11 : Blk (wv_1.setCell ⟨b11, 2, none⟩ (.int .i64 v2)) b11 #[.int .i64 v0, .int .i64 v1, .int .i64 v2, .int .i64 0] 30 := by simpa using B11.set 2 (.int .i64 v2)
  have B7 := B7.far (p := ⟨b11, 2, none⟩) (by simp only; omega) (.int .i64 v2)
  have xx := xx.setCell (p := ⟨b11, 2, none⟩) (by simp only; omega) (.int .i64 v2)
  generalize wv_1.setCell ⟨b11, 2, none⟩ (.int .i64 v2) = wv_2 at *
  rw [rounds_succ]
  have f11 := B11.frozen
  have c11 := B11.cell
  have hX := (idx4s (.int .u16 v0) (.int .u16 v1) (.int .u16 v2) (.int .u16 v3) wv_2).2.2.2
  go_wp2_with fail
  clear f11 c11 hX
  have B11 : Blk (wv_2.setCell ⟨b11, 3, none⟩ (.int .i64 v3)) b11 #[.int .i64 v0, .int .i64 v1, .int .i64 v2, .int .i64 v3] 30 := by simpa using B11.set 3 (.int .i64 v3)
  have B7 := B7.far (p := ⟨b11, 3, none⟩) (by simp only; omega) (.int .i64 v3)
  have xx := xx.setCell (p := ⟨b11, 3, none⟩) (by simp only; omega) (.int .i64 v3)
  generalize wv_2.setCell ⟨b11, 3, none⟩ (.int .i64 v3) = wv_3 at *
  clear D0 ltD0
  rw [rounds_succ]
  go_upto_region 12 with fail
  have ltB7 := B7.lt
  have ltB11 := B11.lt
  have hb14 : w.heap.size ≤ wv_3.heap.size := xx.size
  have B14 := (Blk.new wv_3 #[.int .i64 0, .int .i64 0, .int .i64 0, .int .i64 0, .int .i64 0, .int .i64 0, .int .i64 0, .int .i64 0, .int .i64 0, .int .i64 0, .int .i64 0, .int .i64 0, .int .i64 0, .int .i64 0, .int .i64 0, .int .i64 0, .int .i64 0, .int .i64 0, .int .i64 0, .int .i64 0, .int .i64 0, .int .i64 0, .int .i64 0, .int .i64 0] 55).setRow #[.int .i64 ax, .int .i64 ay, .int .i64 bx, .int .i64 by_, .int .i64 cx, .int .i64 cy, .int .i64 d0, .int .i64 d1, .int .i64 d2, .int .i64 n0, .int .i64 n1, .int .i64 n2, .int .i64 a0, .int .i64 a1, .int .i64 a2, .int .i64 a3, .int .i64 b0, .int .i64 b1, .int .i64 b2, .int .i64 b3, .int .i64 c0, .int .i64 c1, .int .i64 c2, .int .i64 c3]
  have y1 : Ext wv_3 ((wv_3.alloc (.cells #[.int .i64 0, .int .i64 0, .int .i64 0, .int .i64 0, .int .i64 0, .int .i64 0, .int .i64 0, .int .i64 0, .int .i64 0, .int .i64 0, .int .i64 0, .int .i64 0, .int .i64 0, .int .i64 0, .int .i64 0, .int .i64 0, .int .i64 0, .int .i64 0, .int .i64 0, .int .i64 0, .int .i64 0, .int .i64 0, .int .i64 0, .int .i64 0] 55)).setRow wv_3.heap.size #[.int .i64 ax, .int .i64 ay, .int .i64 bx, .int .i64 by_, .int .i64 cx, .int .i64 cy, .int .i64 d0, .int .i64 d1, .int .i64 d2, .int .i64 n0, .int .i64 n1, .int .i64 n2, .int .i64 a0, .int .i64 a1, .int .i64 a2, .int .i64 a3, .int .i64 b0, .int .i64 b1, .int .i64 b2, .int .i64 b3, .int .i64 c0, .int .i64 c1, .int .i64 c2, .int .i64 c3]) := ((Ext.refl _).alloc _ _).setRow (Nat.le_refl _) _
  go_upto_region 13 with (first
    | ((with_reducible refine wpList_load_blk (op := ⟨some 47, _, _, _, _, _⟩) ?_ 55 (.tmp 9) ?_ (b7) ?_ (z := _) (T := 55) B7 Try.underlying55 ?_ ?_ ?_); rfl; rfl; rfl; rfl; kernel_rfl)
    | ((with_reducible refine wpList_store_blk (op := ⟨none, .store 55 (.tmp 14) (.tmp 47), _, _, _, _⟩) ?_ 55 (.tmp 14) (.tmp 47) ?_ (wv_3.heap.size) ?_ (cs := #[.int .i64 ax, .int .i64 ay, .int .i64 bx, .int .i64 by_, .int .i64 cx, .int .i64 cy, .int .i64 d0, .int .i64 d1, .int .i64 d2, .int .i64 n0, .int .i64 n1, .int .i64 n2, .int .i64 a0, .int .i64 a1, .int .i64 a2, .int .i64 a3, .int .i64 b0, .int .i64 b1, .int .i64 b2, .int .i64 b3, .int .i64 c0, .int .i64 c1, .int .i64 c2, .int .i64 c3]) ?_ (z := #[.int .i64 0, .int .i64 0, .int .i64 0, .int .i64 0, .int .i64 0, .int .i64 0, .int .i64 0, .int .i64 0, .int .i64 0, .int .i64 0, .int .i64 0, .int .i64 0, .int .i64 0, .int .i64 0, .int .i64 0, .int .i64 0, .int .i64 0, .int .i64 0, .int .i64 0, .int .i64 0, .int .i64 0, .int .i64 0, .int .i64 0, .int .i64 0]) (T := 55) ?_ ?_ ?_ ?_ ?_); rfl; rfl; rfl; rfl; exact Blk.new wv_3 _ _; kernel_rfl; kernel_rfl; kernel_rfl)
    | fail)
  try simp only [Act.put]
  have xx := xx.trans y1
  have B7 := B7.ext y1
  have B11 := B11.ext y1
  clear y1
  generalize (wv_3.alloc (.cells #[.int .i64 0, .int .i64 0, .int .i64 0, .int .i64 0, .int .i64 0, .int .i64 0, .int .i64 0, .int .i64 0, .int .i64 0, .int .i64 0, .int .i64 0, .int .i64 0, .int .i64 0, .int .i64 0, .int .i64 0, .int .i64 0, .int .i64 0, .int .i64 0, .int .i64 0, .int .i64 0, .int .i64 0, .int .i64 0, .int .i64 0, .int .i64 0] 55)).setRow wv_3.heap.size #[.int .i64 ax, .int .i64 ay, .int .i64 bx, .int .i64 by_, .int .i64 cx, .int .i64 cy, .int .i64 d0, .int .i64 d1, .int .i64 d2, .int .i64 n0, .int .i64 n1, .int .i64 n2, .int .i64 a0, .int .i64 a1, .int .i64 a2, .int .i64 a3, .int .i64 b0, .int .i64 b1, .int .i64 b2, .int .i64 b3, .int .i64 c0, .int .i64 c1, .int .i64 c2, .int .i64 c3] = w5 at *
  generalize hbe : wv_3.heap.size = b14 at *
  clear hbe
  have c7 := B7.cell
  have RP0 := Lib.hid (B7.mid13 0 [.int .i64 ax, .int .i64 ay] rfl)
  have RQ0 := Lib.hid (B7.mid13 12 [.int .i64 a0, .int .i64 a1, .int .i64 a2, .int .i64 a3] rfl)
  have RP1 := Lib.hid (B7.mid13 2 [.int .i64 bx, .int .i64 by_] rfl)
  have RQ1 := Lib.hid (B7.mid13 16 [.int .i64 b0, .int .i64 b1, .int .i64 b2, .int .i64 b3] rfl)
  have RP2 := Lib.hid (B7.mid13 4 [.int .i64 cx, .int .i64 cy] rfl)
  have RQ2 := Lib.hid (B7.mid13 20 [.int .i64 c0, .int .i64 c1, .int .i64 c2, .int .i64 c3] rfl)
  have ltB7 := B7.lt
  have ltB11 := B11.lt
  have ltB14 := B14.lt
  have hb15 : w.heap.size ≤ w5.heap.size := xx.size
  have B15 := (Blk.new w5 #[.int .i64 0, .int .i64 0, .int .i64 0, .int .i64 0, .int .i64 0, .int .i64 0, .int .i64 0, .int .i64 0, .int .i64 0, .int .i64 0, .int .i64 0, .int .i64 0, .int .i64 0, .int .i64 0, .int .i64 0, .int .i64 0, .int .i64 0, .int .i64 0, .int .i64 0, .int .i64 0, .int .i64 0, .int .i64 0, .int .i64 0, .int .i64 0] 55).setRow #[.int .i64 bx, .int .i64 by_, .int .i64 cx, .int .i64 cy, .int .i64 ax, .int .i64 ay, .int .i64 d1, .int .i64 d2, .int .i64 d0, .int .i64 n1, .int .i64 n2, .int .i64 n0, .int .i64 b0, .int .i64 b1, .int .i64 b2, .int .i64 b3, .int .i64 c0, .int .i64 c1, .int .i64 c2, .int .i64 c3, .int .i64 a0, .int .i64 a1, .int .i64 a2, .int .i64 a3]
  have y1 : Ext w5 ((w5.alloc (.cells #[.int .i64 0, .int .i64 0, .int .i64 0, .int .i64 0, .int .i64 0, .int .i64 0, .int .i64 0, .int .i64 0, .int .i64 0, .int .i64 0, .int .i64 0, .int .i64 0, .int .i64 0, .int .i64 0, .int .i64 0, .int .i64 0, .int .i64 0, .int .i64 0, .int .i64 0, .int .i64 0, .int .i64 0, .int .i64 0, .int .i64 0, .int .i64 0] 55)).setRow w5.heap.size #[.int .i64 bx, .int .i64 by_, .int .i64 cx, .int .i64 cy, .int .i64 ax, .int .i64 ay, .int .i64 d1, .int .i64 d2, .int .i64 d0, .int .i64 n1, .int .i64 n2, .int .i64 n0, .int .i64 b0, .int .i64 b1, .int .i64 b2, .int .i64 b3, .int .i64 c0, .int .i64 c1, .int .i64 c2, .int .i64 c3, .int .i64 a0, .int .i64 a1, .int .i64 a2, .int .i64 a3]) := ((Ext.refl _).alloc _ _).setRow (Nat.le_refl _) _
  go_upto_region 14 with (first
    | ((with_reducible refine wpList_load_mid (op := ⟨some 50, _, _, _, _, _⟩) ?_ 50 (.tmp 49) ?_ b7 2 ?_ [.int .i64 bx, .int .i64 by_] _ RP1.out Try.underlying50 ?_ ?_ ?_); rfl; rfl; rfl; rfl; kernel_rfl)
    | ((with_reducible refine wpList_load_mid (op := ⟨some 53, _, _, _, _, _⟩) ?_ 50 (.tmp 52) ?_ b7 4 ?_ [.int .i64 cx, .int .i64 cy] _ RP2.out Try.underlying50 ?_ ?_ ?_); rfl; rfl; rfl; rfl; kernel_rfl)
    | ((with_reducible refine wpList_load_mid (op := ⟨some 56, _, _, _, _, _⟩) ?_ 50 (.tmp 55) ?_ b7 0 ?_ [.int .i64 ax, .int .i64 ay] _ RP0.out Try.underlying50 ?_ ?_ ?_); rfl; rfl; rfl; rfl; kernel_rfl)
    | ((with_reducible refine wpList_load_mid (op := ⟨some 80, _, _, _, _, _⟩) ?_ 30 (.tmp 79) ?_ b7 16 ?_ [.int .i64 b0, .int .i64 b1, .int .i64 b2, .int .i64 b3] _ RQ1.out Try.underlying30 ?_ ?_ ?_); rfl; rfl; rfl; rfl; kernel_rfl)
    | ((with_reducible refine wpList_load_mid (op := ⟨some 83, _, _, _, _, _⟩) ?_ 30 (.tmp 82) ?_ b7 20 ?_ [.int .i64 c0, .int .i64 c1, .int .i64 c2, .int .i64 c3] _ RQ2.out Try.underlying30 ?_ ?_ ?_); rfl; rfl; rfl; rfl; kernel_rfl)
    | ((with_reducible refine wpList_load_mid (op := ⟨some 86, _, _, _, _, _⟩) ?_ 30 (.tmp 85) ?_ b7 12 ?_ [.int .i64 a0, .int .i64 a1, .int .i64 a2, .int .i64 a3] _ RQ0.out Try.underlying30 ?_ ?_ ?_); rfl; rfl; rfl; rfl; kernel_rfl)
    | ((with_reducible refine wpList_build13 (o := ⟨some 57, _, _, _, _, _⟩) ?_ 52 #[(0, .tmp 50), (1, .tmp 53), (2, .tmp 56)] ?_ #[.int .i64 bx, .int .i64 by_, .int .i64 cx, .int .i64 cy, .int .i64 ax, .int .i64 ay] ?_ ?_); rfl; rfl; kernel_rfl)
    | ((with_reducible refine wpList_build13 (o := ⟨some 87, _, _, _, _, _⟩) ?_ 53 #[(0, .tmp 80), (1, .tmp 83), (2, .tmp 86)] ?_ #[.int .i64 b0, .int .i64 b1, .int .i64 b2, .int .i64 b3, .int .i64 c0, .int .i64 c1, .int .i64 c2, .int .i64 c3, .int .i64 a0, .int .i64 a1, .int .i64 a2, .int .i64 a3] ?_ ?_); rfl; rfl; kernel_rfl)
    | ((with_reducible refine wpList_build13 (o := ⟨some 88, _, _, _, _, _⟩) ?_ 55 #[(0, .tmp 57), (1, .tmp 67), (2, .tmp 77), (3, .tmp 87)] ?_ #[.int .i64 bx, .int .i64 by_, .int .i64 cx, .int .i64 cy, .int .i64 ax, .int .i64 ay, .int .i64 d1, .int .i64 d2, .int .i64 d0, .int .i64 n1, .int .i64 n2, .int .i64 n0, .int .i64 b0, .int .i64 b1, .int .i64 b2, .int .i64 b3, .int .i64 c0, .int .i64 c1, .int .i64 c2, .int .i64 c3, .int .i64 a0, .int .i64 a1, .int .i64 a2, .int .i64 a3] ?_ ?_); rfl; rfl; kernel_rfl)
    | ((with_reducible refine wpList_store_blk (op := ⟨none, .store 55 (.tmp 15) (.tmp 88), _, _, _, _⟩) ?_ 55 (.tmp 15) (.tmp 88) ?_ (w5.heap.size) ?_ (cs := #[.int .i64 bx, .int .i64 by_, .int .i64 cx, .int .i64 cy, .int .i64 ax, .int .i64 ay, .int .i64 d1, .int .i64 d2, .int .i64 d0, .int .i64 n1, .int .i64 n2, .int .i64 n0, .int .i64 b0, .int .i64 b1, .int .i64 b2, .int .i64 b3, .int .i64 c0, .int .i64 c1, .int .i64 c2, .int .i64 c3, .int .i64 a0, .int .i64 a1, .int .i64 a2, .int .i64 a3]) ?_ (z := #[.int .i64 0, .int .i64 0, .int .i64 0, .int .i64 0, .int .i64 0, .int .i64 0, .int .i64 0, .int .i64 0, .int .i64 0, .int .i64 0, .int .i64 0, .int .i64 0, .int .i64 0, .int .i64 0, .int .i64 0, .int .i64 0, .int .i64 0, .int .i64 0, .int .i64 0, .int .i64 0, .int .i64 0, .int .i64 0, .int .i64 0, .int .i64 0]) (T := 55) ?_ ?_ ?_ ?_ ?_); rfl; rfl; rfl; rfl; exact Blk.new w5 _ _; kernel_rfl; kernel_rfl; kernel_rfl)
    | fail)
  clear c7 RP0 RP1 RP2 RQ0 RQ1 RQ2
  try simp only [Act.put]
  have xx := xx.trans y1
  have B7 := B7.ext y1
  have B11 := B11.ext y1
  have B14 := B14.ext y1
  clear y1
  generalize (w5.alloc (.cells #[.int .i64 0, .int .i64 0, .int .i64 0, .int .i64 0, .int .i64 0, .int .i64 0, .int .i64 0, .int .i64 0, .int .i64 0, .int .i64 0, .int .i64 0, .int .i64 0, .int .i64 0, .int .i64 0, .int .i64 0, .int .i64 0, .int .i64 0, .int .i64 0, .int .i64 0, .int .i64 0, .int .i64 0, .int .i64 0, .int .i64 0, .int .i64 0] 55)).setRow w5.heap.size #[.int .i64 bx, .int .i64 by_, .int .i64 cx, .int .i64 cy, .int .i64 ax, .int .i64 ay, .int .i64 d1, .int .i64 d2, .int .i64 d0, .int .i64 n1, .int .i64 n2, .int .i64 n0, .int .i64 b0, .int .i64 b1, .int .i64 b2, .int .i64 b3, .int .i64 c0, .int .i64 c1, .int .i64 c2, .int .i64 c3, .int .i64 a0, .int .i64 a1, .int .i64 a2, .int .i64 a3] = w6 at *
  generalize hbe : w5.heap.size = b15 at *
  clear hbe
  go_wp2_with fail
  refine wp_loop_rounds 4 ?_
  rw [rounds_succ]
  go_upto_region 17 with fail
  apply wp_region_tail 3 [false, false, false, false, false, false, false, false, true, false, false, true] [] [b14] _ (by kernel_rfl) (by kernel_rfl) (by kernel_rfl)
  case H =>
    intro x0 hx
    have hne : Nonempty (Wx x0) := ⟨⟨x0, Ext.refl x0⟩⟩
    have qB7 := fun (y : Wx x0) => ((B7.calm hx (by simp <;> omega)).ext y.ext).cell
    have qB11 := fun (y : Wx x0) => ((B11.calm hx (by simp <;> omega)).ext y.ext).cell
    simp only [eraseM]
    repeat (go_big_quiet_step (fail))
    exact wpQuiet_nil rfl
  case hF => rfl
  change tailW _ _ _ _ [_, _] _ _
  refine fun u0 x0 hc0 => ?_
  have B := B14.ext x0
  have cc := B.cell
  have ff := B.frozen
  refine gives_skip (u' := (u0.setCell ⟨b14, 6, none⟩ (.int .i64 d0))) (by simp [go_sem, cc, ff]) ⟨((hc0).trans (calm_put u0 b14 6 (.int .i64 d0))), fun u1 x1 hc1 => ?_⟩
  have B := (B.set 6 (.int .i64 d0)).ext x1
  clear cc ff
  have cc := B.cell
  have ff := B.frozen
  refine gives_skip (u' := ((((u1.setCell ⟨b14, 12, none⟩ (.int .i64 v0)).setCell ⟨b14, 13, none⟩ (.int .i64 v1)).setCell ⟨b14, 14, none⟩ (.int .i64 v2)).setCell ⟨b14, 15, none⟩ (.int .i64 v3))) (by simp [go_sem, cc, ff]) ⟨((((((((hc1).trans (calm_put u1 b14 12 (.int .i64 v0)))).trans (calm_put ((u1.setCell ⟨b14, 12, none⟩ (.int .i64 v0))) b14 13 (.int .i64 v1)))).trans (calm_put (((u1.setCell ⟨b14, 12, none⟩ (.int .i64 v0)).setCell ⟨b14, 13, none⟩ (.int .i64 v1))) b14 14 (.int .i64 v2)))).trans (calm_put ((((u1.setCell ⟨b14, 12, none⟩ (.int .i64 v0)).setCell ⟨b14, 13, none⟩ (.int .i64 v1)).setCell ⟨b14, 14, none⟩ (.int .i64 v2))) b14 15 (.int .i64 v3))), fun w7_0 x2 hc2 => ?_⟩
  have B := ((((B.set 12 (.int .i64 v0)).set 13 (.int .i64 v1)).set 14 (.int .i64 v2)).set 15 (.int .i64 v3)).ext x2
  clear cc ff
  have B14 : Blk w7_0 b14 #[.int .i64 ax, .int .i64 ay, .int .i64 bx, .int .i64 by_, .int .i64 cx, .int .i64 cy, .int .i64 d0, .int .i64 d1, .int .i64 d2, .int .i64 n0, .int .i64 n1, .int .i64 n2, .int .i64 v0, .int .i64 v1, .int .i64 v2, .int .i64 v3, .int .i64 b0, .int .i64 b1, .int .i64 b2, .int .i64 b3, .int .i64 c0, .int .i64 c1, .int .i64 c2, .int .i64 c3] 55 := by simpa using B
  clear B x0 x1 x2 hc0 hc1
  simp only [Act.put]
  have B7 := B7.calm hc2 (by simp; omega)
  have B11 := B11.calm hc2 (by simp; omega)
  have B15 := B15.calm hc2 (by simp; omega)
  have xx := Ext.calm_trans xx hc2 (by simp; omega)
  clear hc2
  go_wp2_with fail
  rw [rounds_succ]
  go_upto_region 17 with fail
  apply wp_region_tail 3 [false, false, false, false, false, false, false, false, true, false, false, true] [] [b14] _ (by kernel_rfl) (by kernel_rfl) (by kernel_rfl)
  case H =>
    intro x0 hx
    have hne : Nonempty (Wx x0) := ⟨⟨x0, Ext.refl x0⟩⟩
    have qB7 := fun (y : Wx x0) => ((B7.calm hx (by simp <;> omega)).ext y.ext).cell
    have qB11 := fun (y : Wx x0) => ((B11.calm hx (by simp <;> omega)).ext y.ext).cell
    simp only [eraseM]
    repeat (go_big_quiet_step (fail))
    exact wpQuiet_nil rfl
  case hF => rfl
  change tailW _ _ _ _ [_, _] _ _
  refine fun u0 x0 hc0 => ?_
  have B := B14.ext x0
  have cc := B.cell
  have ff := B.frozen
  refine gives_skip (u' := (u0.setCell ⟨b14, 7, none⟩ (.int .i64 d0))) (by simp [go_sem, cc, ff]) ⟨((hc0).trans (calm_put u0 b14 7 (.int .i64 d0))), fun u1 x1 hc1 => ?_⟩
  have B := (B.set 7 (.int .i64 d0)).ext x1
  clear cc ff
  have cc := B.cell
  have ff := B.frozen
  refine gives_skip (u' := ((((u1.setCell ⟨b14, 16, none⟩ (.int .i64 v0)).setCell ⟨b14, 17, none⟩ (.int .i64 v1)).setCell ⟨b14, 18, none⟩ (.int .i64 v2)).setCell ⟨b14, 19, none⟩ (.int .i64 v3))) (by simp [go_sem, cc, ff]) ⟨((((((((hc1).trans (calm_put u1 b14 16 (.int .i64 v0)))).trans (calm_put ((u1.setCell ⟨b14, 16, none⟩ (.int .i64 v0))) b14 17 (.int .i64 v1)))).trans (calm_put (((u1.setCell ⟨b14, 16, none⟩ (.int .i64 v0)).setCell ⟨b14, 17, none⟩ (.int .i64 v1))) b14 18 (.int .i64 v2)))).trans (calm_put ((((u1.setCell ⟨b14, 16, none⟩ (.int .i64 v0)).setCell ⟨b14, 17, none⟩ (.int .i64 v1)).setCell ⟨b14, 18, none⟩ (.int .i64 v2))) b14 19 (.int .i64 v3))), fun w7_1 x2 hc2 => ?_⟩
  have B := ((((B.set 16 (.int .i64 v0)).set 17 (.int .i64 v1)).set 18 (.int .i64 v2)).set 19 (.int .i64 v3)).ext x2
  clear cc ff
  have B14 : Blk w7_1 b14 #[.int .i64 ax, .int .i64 ay, .int .i64 bx, .int .i64 by_, .int .i64 cx, .int .i64 cy, .int .i64 d0, .int .i64 d0, .int .i64 d2, .int .i64 n0, .int .i64 n1, .int .i64 n2, .int .i64 v0, .int .i64 v1, .int .i64 v2, .int .i64 v3, .int .i64 v0, .int .i64 v1, .int .i64 v2, .int .i64 v3, .int .i64 c0, .int .i64 c1, .int .i64 c2, .int .i64 c3] 55 := by simpa using B
  clear B x0 x1 x2 hc0 hc1
  simp only [Act.put]
  have B7 := B7.calm hc2 (by simp; omega)
  have B11 := B11.calm hc2 (by simp; omega)
  have B15 := B15.calm hc2 (by simp; omega)
  have xx := Ext.calm_trans xx hc2 (by simp; omega)
  clear hc2
  go_wp2_with fail
  rw [rounds_succ]
  go_upto_region 17 with fail
  apply wp_region_tail 3 [false, false, false, false, false, false, false, false, true, false, false, true] [] [b14] _ (by kernel_rfl) (by kernel_rfl) (by kernel_rfl)
  case H =>
    intro x0 hx
    have hne : Nonempty (Wx x0) := ⟨⟨x0, Ext.refl x0⟩⟩
    have qB7 := fun (y : Wx x0) => ((B7.calm hx (by simp <;> omega)).ext y.ext).cell
    have qB11 := fun (y : Wx x0) => ((B11.calm hx (by simp <;> omega)).ext y.ext).cell
    simp only [eraseM]
    repeat (go_big_quiet_step (fail))
    exact wpQuiet_nil rfl
  case hF => rfl
  change tailW _ _ _ _ [_, _] _ _
  refine fun u0 x0 hc0 => ?_
  have B := B14.ext x0
  have cc := B.cell
  have ff := B.frozen
  refine gives_skip (u' := (u0.setCell ⟨b14, 8, none⟩ (.int .i64 d0))) (by simp [go_sem, cc, ff]) ⟨((hc0).trans (calm_put u0 b14 8 (.int .i64 d0))), fun u1 x1 hc1 => ?_⟩
  have B := (B.set 8 (.int .i64 d0)).ext x1
  clear cc ff
  have cc := B.cell
  have ff := B.frozen
  refine gives_skip (u' := ((((u1.setCell ⟨b14, 20, none⟩ (.int .i64 v0)).setCell ⟨b14, 21, none⟩ (.int .i64 v1)).setCell ⟨b14, 22, none⟩ (.int .i64 v2)).setCell ⟨b14, 23, none⟩ (.int .i64 v3))) (by simp [go_sem, cc, ff]) ⟨((((((((hc1).trans (calm_put u1 b14 20 (.int .i64 v0)))).trans (calm_put ((u1.setCell ⟨b14, 20, none⟩ (.int .i64 v0))) b14 21 (.int .i64 v1)))).trans (calm_put (((u1.setCell ⟨b14, 20, none⟩ (.int .i64 v0)).setCell ⟨b14, 21, none⟩ (.int .i64 v1))) b14 22 (.int .i64 v2)))).trans (calm_put ((((u1.setCell ⟨b14, 20, none⟩ (.int .i64 v0)).setCell ⟨b14, 21, none⟩ (.int .i64 v1)).setCell ⟨b14, 22, none⟩ (.int .i64 v2))) b14 23 (.int .i64 v3))), fun w7_2 x2 hc2 => ?_⟩
  have B := ((((B.set 20 (.int .i64 v0)).set 21 (.int .i64 v1)).set 22 (.int .i64 v2)).set 23 (.int .i64 v3)).ext x2
  clear cc ff
  have B14 : Blk w7_2 b14 #[.int .i64 ax, .int .i64 ay, .int .i64 bx, .int .i64 by_, .int .i64 cx, .int .i64 cy, .int .i64 d0, .int .i64 d0, .int .i64 d0, .int .i64 n0, .int .i64 n1, .int .i64 n2, .int .i64 v0, .int .i64 v1, .int .i64 v2, .int .i64 v3, .int .i64 v0, .int .i64 v1, .int .i64 v2, .int .i64 v3, .int .i64 v0, .int .i64 v1, .int .i64 v2, .int .i64 v3] 55 := by simpa using B
  clear B x0 x1 x2 hc0 hc1
  simp only [Act.put]
  have B7 := B7.calm hc2 (by simp; omega)
  have B11 := B11.calm hc2 (by simp; omega)
  have B15 := B15.calm hc2 (by simp; omega)
  have xx := Ext.calm_trans xx hc2 (by simp; omega)
  clear hc2
  go_wp2_with fail
  rw [rounds_succ]
  go_wp2_with (first
    | ((with_reducible refine wpList_load_blk (op := ⟨some 110, _, _, _, _, _⟩) ?_ 55 (.tmp 14) ?_ (b14) ?_ (z := _) (T := 55) B14 Try.underlying55 ?_ ?_ ?_); rfl; rfl; rfl; rfl; kernel_rfl)
    | fail)
  refine (HF.out _).mono ?_
  rintro e w8_0 ⟨rfl, x1⟩
  have xx := xx.trans x1
  have B7 := B7.ext x1
  have B11 := B11.ext x1
  have B14 := B14.ext x1
  have B15 := B15.ext x1
  clear x1
  have B20 := (Blk.new w8_0 #[.int .i64 0, .int .i64 0, .int .i64 0, .int .i64 0] 30).setRow #[.int .i64 v0, .int .i64 v1, .int .i64 v2, .int .i64 v3]
  have y1 : Ext w8_0 ((w8_0.alloc (.cells #[.int .i64 0, .int .i64 0, .int .i64 0, .int .i64 0] 30)).setRow w8_0.heap.size #[.int .i64 v0, .int .i64 v1, .int .i64 v2, .int .i64 v3]) := ((Ext.refl _).alloc _ _).setRow (Nat.le_refl _) _
  go_upto_region 21 with (first
    | ((with_reducible refine wpList_store_blk (op := ⟨none, .store 30 (.tmp 20) (.tmp 115), _, _, _, _⟩) ?_ 30 (.tmp 20) (.tmp 115) ?_ (w8_0.heap.size) ?_ (cs := #[.int .i64 v0, .int .i64 v1, .int .i64 v2, .int .i64 v3]) ?_ (z := #[.int .i64 0, .int .i64 0, .int .i64 0, .int .i64 0]) (T := 30) ?_ ?_ ?_ ?_ ?_); rfl; rfl; rfl; rfl; exact Blk.new w8_0 _ _; kernel_rfl; kernel_rfl; kernel_rfl)
    | fail)
  try simp only [Act.put]
  have xx := xx.trans y1
  have B7 := B7.ext y1
  have B11 := B11.ext y1
  have B14 := B14.ext y1
  have B15 := B15.ext y1
  clear y1
  generalize (w8_0.alloc (.cells #[.int .i64 0, .int .i64 0, .int .i64 0, .int .i64 0] 30)).setRow w8_0.heap.size #[.int .i64 v0, .int .i64 v1, .int .i64 v2, .int .i64 v3] = w9_0 at *
  generalize hbe : w8_0.heap.size = b20 at *
  clear hbe
  go_wp2_with (first
    | ((with_reducible refine wpList_load_blk (op := ⟨some 118, _, _, _, _, _⟩) ?_ 55 (.tmp 9) ?_ (b7) ?_ (z := _) (T := 55) B7 Try.underlying55 ?_ ?_ ?_); rfl; rfl; rfl; rfl; kernel_rfl)
    | fail)
  refine (HA.out _).mono ?_
  rintro e w8_1 ⟨rfl, x1⟩
  have xx := xx.trans x1
  have B7 := B7.ext x1
  have B11 := B11.ext x1
  have B14 := B14.ext x1
  have B15 := B15.ext x1
  have B20 := B20.ext x1
  clear x1
  have B23 := (Blk.new w8_1 #[.int .i64 0, .int .i64 0, .int .i64 0, .int .i64 0] 30).setRow #[.int .i64 k0, .int .i64 k1, .int .i64 k2, .int .i64 k3]
  have y1 : Ext w8_1 ((w8_1.alloc (.cells #[.int .i64 0, .int .i64 0, .int .i64 0, .int .i64 0] 30)).setRow w8_1.heap.size #[.int .i64 k0, .int .i64 k1, .int .i64 k2, .int .i64 k3]) := ((Ext.refl _).alloc _ _).setRow (Nat.le_refl _) _
  go_upto_region 22 with (first
    | ((with_reducible refine wpList_store_blk (op := ⟨none, .store 30 (.tmp 23) (.tmp 123), _, _, _, _⟩) ?_ 30 (.tmp 23) (.tmp 123) ?_ (w8_1.heap.size) ?_ (cs := #[.int .i64 k0, .int .i64 k1, .int .i64 k2, .int .i64 k3]) ?_ (z := #[.int .i64 0, .int .i64 0, .int .i64 0, .int .i64 0]) (T := 30) ?_ ?_ ?_ ?_ ?_); rfl; rfl; rfl; rfl; exact Blk.new w8_1 _ _; kernel_rfl; kernel_rfl; kernel_rfl)
    | fail)
  try simp only [Act.put]
  have xx := xx.trans y1
  have B7 := B7.ext y1
  have B11 := B11.ext y1
  have B14 := B14.ext y1
  have B15 := B15.ext y1
  have B20 := B20.ext y1
  clear y1
  generalize (w8_1.alloc (.cells #[.int .i64 0, .int .i64 0, .int .i64 0, .int .i64 0] 30)).setRow w8_1.heap.size #[.int .i64 k0, .int .i64 k1, .int .i64 k2, .int .i64 k3] = w9_1 at *
  generalize hbe : w8_1.heap.size = b23 at *
  clear hbe
  go_wp2_with (first
    | ((with_reducible refine wpList_load_blk (op := ⟨some 126, _, _, _, _, _⟩) ?_ 55 (.tmp 15) ?_ (b15) ?_ (z := _) (T := 55) B15 Try.underlying55 ?_ ?_ ?_); rfl; rfl; rfl; rfl; kernel_rfl)
    | fail)
  refine (HU.out _).mono ?_
  rintro e w8_2 ⟨rfl, x1⟩
  have xx := xx.trans x1
  have B7 := B7.ext x1
  have B11 := B11.ext x1
  have B14 := B14.ext x1
  have B15 := B15.ext x1
  have B20 := B20.ext x1
  have B23 := B23.ext x1
  clear x1
  have B26 := (Blk.new w8_2 #[.int .i64 0, .int .i64 0, .int .i64 0, .int .i64 0] 30).setRow #[.int .i64 k0, .int .i64 k1, .int .i64 k2, .int .i64 k3]
  have y1 : Ext w8_2 ((w8_2.alloc (.cells #[.int .i64 0, .int .i64 0, .int .i64 0, .int .i64 0] 30)).setRow w8_2.heap.size #[.int .i64 k0, .int .i64 k1, .int .i64 k2, .int .i64 k3]) := ((Ext.refl _).alloc _ _).setRow (Nat.le_refl _) _
  go_upto_region 23 with (first
    | ((with_reducible refine wpList_store_blk (op := ⟨none, .store 30 (.tmp 26) (.tmp 131), _, _, _, _⟩) ?_ 30 (.tmp 26) (.tmp 131) ?_ (w8_2.heap.size) ?_ (cs := #[.int .i64 k0, .int .i64 k1, .int .i64 k2, .int .i64 k3]) ?_ (z := #[.int .i64 0, .int .i64 0, .int .i64 0, .int .i64 0]) (T := 30) ?_ ?_ ?_ ?_ ?_); rfl; rfl; rfl; rfl; exact Blk.new w8_2 _ _; kernel_rfl; kernel_rfl; kernel_rfl)
    | fail)
  try simp only [Act.put]
  have xx := xx.trans y1
  have B7 := B7.ext y1
  have B11 := B11.ext y1
  have B14 := B14.ext y1
  have B15 := B15.ext y1
  have B20 := B20.ext y1
  have B23 := B23.ext y1
  clear y1
  generalize (w8_2.alloc (.cells #[.int .i64 0, .int .i64 0, .int .i64 0, .int .i64 0] 30)).setRow w8_2.heap.size #[.int .i64 k0, .int .i64 k1, .int .i64 k2, .int .i64 k3] = w9_2 at *
  generalize hbe : w8_2.heap.size = b26 at *
  clear hbe
  have c7 := B7.cell
  have c11 := B11.cell
  have c20 := B20.cell
  have c23 := B23.cell
  have c26 := B26.cell
  have hq1 := eqV v0 v1 v2 v3 w9_2
  have hq2 := eqV k0 k1 k2 k3 w9_2
  clear B7 B11 B14 B15 B20 B23 B26
  go_wp2_with fail
  go_ret
  exact ⟨rfl, xx⟩
set_option maxRecDepth 100000 in
set_option maxHeartbeats 4000000 in
theorem flat_no (s0 s1 s2 s3 s4 s5 e0 e1 e2 m0 m1 m2 oa0 oa1 oa2 oa3 ob0 ob1 ob2 ob3 oc0 oc1 oc2 oc3 sz ax ay bx by_ cx cy d0 d1 d2 n0 n1 n2 a0 a1 a2 a3 b0 b1 b2 b3 c0 c1 c2 c3 v0 v1 v2 v3 x y p1 q1  : Int) (hx1 : x.tmod 40 = p1) (hy1 : y.tmod 40 = q1) (bp1 : 0 ≤ p1 ∧ p1 ≤ 63) (bq1 : 0 ≤ q1 ∧ q1 ≤ 63) (gv0 : 0 ≤ v0 ∧ v0 ≤ 65535) (gv1 : 0 ≤ v1 ∧ v1 ≤ 65535) (gv2 : 0 ≤ v2 ∧ v2 ≤ 65535) (gv3 : 0 ≤ v3 ∧ v3 ≤ 65535)
    (hS : ∀ u, Calls Try.prog 18 #[.agg #[.int .i8 s0, .int .i8 s1, .int .i8 s2, .int .i8 s3, .int .i8 s4, .int .i8 s5, .int .u16 e0, .int .u16 e1, .int .u16 e2, .int .u16 m0, .int .u16 m1, .int .u16 m2, .int .u16 oa0, .int .u16 oa1, .int .u16 oa2, .int .u16 oa3, .int .u16 ob0, .int .u16 ob1, .int .u16 ob2, .int .u16 ob3, .int .u16 oc0, .int .u16 oc1, .int .u16 oc2, .int .u16 oc3, .int .u8 sz]] u fun e w' => e = .returned (.tuple #[.agg #[.int .i64 ax, .int .i64 ay, .int .i64 bx, .int .i64 by_, .int .i64 cx, .int .i64 cy, .int .i64 d0, .int .i64 d1, .int .i64 d2, .int .i64 n0, .int .i64 n1, .int .i64 n2, .int .i64 a0, .int .i64 a1, .int .i64 a2, .int .i64 a3, .int .i64 b0, .int .i64 b1, .int .i64 b2, .int .i64 b3, .int .i64 c0, .int .i64 c1, .int .i64 c2, .int .i64 c3], .bool true]) ∧ Ext u w') (hF : ∀ u, Calls Try.prog 19 #[.agg #[.int .i64 ax, .int .i64 ay, .int .i64 bx, .int .i64 by_, .int .i64 cx, .int .i64 cy, .int .i64 d0, .int .i64 d0, .int .i64 d0, .int .i64 n0, .int .i64 n1, .int .i64 n2, .int .i64 v0, .int .i64 v1, .int .i64 v2, .int .i64 v3, .int .i64 v0, .int .i64 v1, .int .i64 v2, .int .i64 v3, .int .i64 v0, .int .i64 v1, .int .i64 v2, .int .i64 v3], .int .i64 p1, .int .i64 q1] u fun e w' => e = .returned (.tuple #[.int .i64 0, .agg #[.int .i64 0, .int .i64 0, .int .i64 0, .int .i64 0], .bool false]) ∧ Ext u w') (hA : ∀ u, Calls Try.prog 19 #[.agg #[.int .i64 ax, .int .i64 ay, .int .i64 bx, .int .i64 by_, .int .i64 cx, .int .i64 cy, .int .i64 d0, .int .i64 d1, .int .i64 d2, .int .i64 n0, .int .i64 n1, .int .i64 n2, .int .i64 a0, .int .i64 a1, .int .i64 a2, .int .i64 a3, .int .i64 b0, .int .i64 b1, .int .i64 b2, .int .i64 b3, .int .i64 c0, .int .i64 c1, .int .i64 c2, .int .i64 c3], .int .i64 p1, .int .i64 q1] u fun e w' => e = .returned (.tuple #[.int .i64 0, .agg #[.int .i64 0, .int .i64 0, .int .i64 0, .int .i64 0], .bool false]) ∧ Ext u w') (hU : ∀ u, Calls Try.prog 19 #[.agg #[.int .i64 bx, .int .i64 by_, .int .i64 cx, .int .i64 cy, .int .i64 ax, .int .i64 ay, .int .i64 d1, .int .i64 d2, .int .i64 d0, .int .i64 n1, .int .i64 n2, .int .i64 n0, .int .i64 b0, .int .i64 b1, .int .i64 b2, .int .i64 b3, .int .i64 c0, .int .i64 c1, .int .i64 c2, .int .i64 c3, .int .i64 a0, .int .i64 a1, .int .i64 a2, .int .i64 a3], .int .i64 p1, .int .i64 q1] u fun e w' => e = .returned (.tuple #[.int .i64 0, .agg #[.int .i64 0, .int .i64 0, .int .i64 0, .int .i64 0], .bool false]) ∧ Ext u w') (w : World) :
    Calls Try.prog 8 #[.agg #[.int .i8 s0, .int .i8 s1, .int .i8 s2, .int .i8 s3, .int .i8 s4, .int .i8 s5, .int .u16 e0, .int .u16 e1, .int .u16 e2, .int .u16 m0, .int .u16 m1, .int .u16 m2, .int .u16 oa0, .int .u16 oa1, .int .u16 oa2, .int .u16 oa3, .int .u16 ob0, .int .u16 ob1, .int .u16 ob2, .int .u16 ob3, .int .u16 oc0, .int .u16 oc1, .int .u16 oc2, .int .u16 oc3, .int .u8 sz], .agg #[.int .u16 v0, .int .u16 v1, .int .u16 v2, .int .u16 v3], .int .u8 x, .int .u8 y] w fun e w' => e = .returned (.bool true) ∧ Ext w w' := by
  have HS := Lib.hid hS
  have HF := Lib.hid hF
  have HA := Lib.hid hA
  have HU := Lib.hid hU
  clear hS hF hA hU
  have wr : ∀ z : Int, 0 ≤ z ∧ z ≤ 63 → IntKind.i64.wrap z = z := fun z hz => by rw [IntKind.wrap_i64]; omega
  have wp1 := wr p1 bp1
  have wp2 := wr q1 bq1
  clear wr
  have wv0 : IntKind.i64.wrap v0 = v0 := by rw [IntKind.wrap_i64]; omega
  have wv1 : IntKind.i64.wrap v1 = v1 := by rw [IntKind.wrap_i64]; omega
  have wv2 : IntKind.i64.wrap v2 = v2 := by rw [IntKind.wrap_i64]; omega
  have wv3 : IntKind.i64.wrap v3 = v3 := by rw [IntKind.wrap_i64]; omega
  have xx : Ext w ((w.alloc (.cells #[.int .i8 s0, .int .i8 s1, .int .i8 s2, .int .i8 s3, .int .i8 s4, .int .i8 s5, .int .u16 e0, .int .u16 e1, .int .u16 e2, .int .u16 m0, .int .u16 m1, .int .u16 m2, .int .u16 oa0, .int .u16 oa1, .int .u16 oa2, .int .u16 oa3, .int .u16 ob0, .int .u16 ob1, .int .u16 ob2, .int .u16 ob3, .int .u16 oc0, .int .u16 oc1, .int .u16 oc2, .int .u16 oc3, .int .u8 sz] 75)).alloc (.cells #[.int .u16 v0, .int .u16 v1, .int .u16 v2, .int .u16 v3] 72)) := (((Ext.refl w).alloc _ _).alloc _ _)
  have B0 := ((Blk.new w #[.int .i8 s0, .int .i8 s1, .int .i8 s2, .int .i8 s3, .int .i8 s4, .int .i8 s5, .int .u16 e0, .int .u16 e1, .int .u16 e2, .int .u16 m0, .int .u16 m1, .int .u16 m2, .int .u16 oa0, .int .u16 oa1, .int .u16 oa2, .int .u16 oa3, .int .u16 ob0, .int .u16 ob1, .int .u16 ob2, .int .u16 ob3, .int .u16 oc0, .int .u16 oc1, .int .u16 oc2, .int .u16 oc3, .int .u8 sz] 75).alloc (.cells #[.int .u16 v0, .int .u16 v1, .int .u16 v2, .int .u16 v3] 72))
  have D0 := (Blk.new (w.alloc (.cells #[.int .i8 s0, .int .i8 s1, .int .i8 s2, .int .i8 s3, .int .i8 s4, .int .i8 s5, .int .u16 e0, .int .u16 e1, .int .u16 e2, .int .u16 m0, .int .u16 m1, .int .u16 m2, .int .u16 oa0, .int .u16 oa1, .int .u16 oa2, .int .u16 oa3, .int .u16 ob0, .int .u16 ob1, .int .u16 ob2, .int .u16 ob3, .int .u16 oc0, .int .u16 oc1, .int .u16 oc2, .int .u16 oc3, .int .u8 sz] 75)) #[.int .u16 v0, .int .u16 v1, .int .u16 v2, .int .u16 v3] 72)
  go_enter Try.func8, Try.ntmps8
  go_upto_region 1 with fail
  simp only [World.size_alloc] at D0
  generalize ((w.alloc (.cells #[.int .i8 s0, .int .i8 s1, .int .i8 s2, .int .i8 s3, .int .i8 s4, .int .i8 s5, .int .u16 e0, .int .u16 e1, .int .u16 e2, .int .u16 m0, .int .u16 m1, .int .u16 m2, .int .u16 oa0, .int .u16 oa1, .int .u16 oa2, .int .u16 oa3, .int .u16 ob0, .int .u16 ob1, .int .u16 ob2, .int .u16 ob3, .int .u16 oc0, .int .u16 oc1, .int .u16 oc2, .int .u16 oc3, .int .u8 sz] 75)).alloc (.cells #[.int .u16 v0, .int .u16 v1, .int .u16 v2, .int .u16 v3] 72)) = w0 at *
  go_wp2_with fail
  refine (awake13_any _).mono ?_
  rintro e w1 ⟨rfl, x1⟩
  have xx := xx.trans x1
  have B0 := B0.ext x1
  have D0 := D0.ext x1
  clear x1
  go_wp2_with (first
    | ((with_reducible refine wpList_load_blk (op := ⟨some 31, _, _, _, _, _⟩) ?_ 75 (.tmp 4) ?_ (w.heap.size) ?_ (z := _) (T := 75) B0 Try.underlying75 ?_ ?_ ?_); rfl; rfl; rfl; rfl; kernel_rfl)
    | fail)
  refine (HS.out _).mono ?_
  rintro e w2 ⟨rfl, x1⟩
  have xx := xx.trans x1
  have D0 := D0.ext x1
  clear x1
  have B7 := (Blk.new w2 #[.int .i64 0, .int .i64 0, .int .i64 0, .int .i64 0, .int .i64 0, .int .i64 0, .int .i64 0, .int .i64 0, .int .i64 0, .int .i64 0, .int .i64 0, .int .i64 0, .int .i64 0, .int .i64 0, .int .i64 0, .int .i64 0, .int .i64 0, .int .i64 0, .int .i64 0, .int .i64 0, .int .i64 0, .int .i64 0, .int .i64 0, .int .i64 0] 55).setRow #[.int .i64 ax, .int .i64 ay, .int .i64 bx, .int .i64 by_, .int .i64 cx, .int .i64 cy, .int .i64 d0, .int .i64 d1, .int .i64 d2, .int .i64 n0, .int .i64 n1, .int .i64 n2, .int .i64 a0, .int .i64 a1, .int .i64 a2, .int .i64 a3, .int .i64 b0, .int .i64 b1, .int .i64 b2, .int .i64 b3, .int .i64 c0, .int .i64 c1, .int .i64 c2, .int .i64 c3]
  have y1 : Ext w2 ((w2.alloc (.cells #[.int .i64 0, .int .i64 0, .int .i64 0, .int .i64 0, .int .i64 0, .int .i64 0, .int .i64 0, .int .i64 0, .int .i64 0, .int .i64 0, .int .i64 0, .int .i64 0, .int .i64 0, .int .i64 0, .int .i64 0, .int .i64 0, .int .i64 0, .int .i64 0, .int .i64 0, .int .i64 0, .int .i64 0, .int .i64 0, .int .i64 0, .int .i64 0] 55)).setRow w2.heap.size #[.int .i64 ax, .int .i64 ay, .int .i64 bx, .int .i64 by_, .int .i64 cx, .int .i64 cy, .int .i64 d0, .int .i64 d1, .int .i64 d2, .int .i64 n0, .int .i64 n1, .int .i64 n2, .int .i64 a0, .int .i64 a1, .int .i64 a2, .int .i64 a3, .int .i64 b0, .int .i64 b1, .int .i64 b2, .int .i64 b3, .int .i64 c0, .int .i64 c1, .int .i64 c2, .int .i64 c3]) := ((Ext.refl _).alloc _ _).setRow (Nat.le_refl _) _
  have hb7 : w.heap.size ≤ w2.heap.size := xx.size
  go_upto_region 4 with (first
    | ((with_reducible refine wpList_store_blk (op := ⟨none, .store 55 (.tmp 9) (.tmp 33), _, _, _, _⟩) ?_ 55 (.tmp 9) (.tmp 33) ?_ (w2.heap.size) ?_ (cs := #[.int .i64 ax, .int .i64 ay, .int .i64 bx, .int .i64 by_, .int .i64 cx, .int .i64 cy, .int .i64 d0, .int .i64 d1, .int .i64 d2, .int .i64 n0, .int .i64 n1, .int .i64 n2, .int .i64 a0, .int .i64 a1, .int .i64 a2, .int .i64 a3, .int .i64 b0, .int .i64 b1, .int .i64 b2, .int .i64 b3, .int .i64 c0, .int .i64 c1, .int .i64 c2, .int .i64 c3]) ?_ (z := #[.int .i64 0, .int .i64 0, .int .i64 0, .int .i64 0, .int .i64 0, .int .i64 0, .int .i64 0, .int .i64 0, .int .i64 0, .int .i64 0, .int .i64 0, .int .i64 0, .int .i64 0, .int .i64 0, .int .i64 0, .int .i64 0, .int .i64 0, .int .i64 0, .int .i64 0, .int .i64 0, .int .i64 0, .int .i64 0, .int .i64 0, .int .i64 0]) (T := 55) ?_ ?_ ?_ ?_ ?_); rfl; rfl; rfl; rfl; exact Blk.new w2 _ _; kernel_rfl; kernel_rfl; kernel_rfl)
    | fail)
  try simp only [Act.put]
  have xx := xx.trans y1
  have D0 := D0.ext y1
  clear y1
  generalize (w2.alloc (.cells #[.int .i64 0, .int .i64 0, .int .i64 0, .int .i64 0, .int .i64 0, .int .i64 0, .int .i64 0, .int .i64 0, .int .i64 0, .int .i64 0, .int .i64 0, .int .i64 0, .int .i64 0, .int .i64 0, .int .i64 0, .int .i64 0, .int .i64 0, .int .i64 0, .int .i64 0, .int .i64 0, .int .i64 0, .int .i64 0, .int .i64 0, .int .i64 0] 55)).setRow w2.heap.size #[.int .i64 ax, .int .i64 ay, .int .i64 bx, .int .i64 by_, .int .i64 cx, .int .i64 cy, .int .i64 d0, .int .i64 d1, .int .i64 d2, .int .i64 n0, .int .i64 n1, .int .i64 n2, .int .i64 a0, .int .i64 a1, .int .i64 a2, .int .i64 a3, .int .i64 b0, .int .i64 b1, .int .i64 b2, .int .i64 b3, .int .i64 c0, .int .i64 c1, .int .i64 c2, .int .i64 c3] = w3 at *
  generalize hbe : w2.heap.size = b7 at *
  clear hbe
  clear B0 HS
  go_upto_region 7 with fail
  have hb11 : w.heap.size ≤ w3.heap.size := xx.size
  have ltB7 := B7.lt
  have ltD0 := D0.lt
  have y1 : Ext w3 (w3.alloc (.cells #[.int .i64 0, .int .i64 0, .int .i64 0, .int .i64 0] 30)) := (Ext.refl _).alloc _ _
  have B11 := Blk.new w3 #[.int .i64 0, .int .i64 0, .int .i64 0, .int .i64 0] 30
  have xx := xx.trans y1
  have B7 := B7.ext y1
  have D0 := D0.ext y1
  clear y1
  generalize w3.alloc (.cells #[.int .i64 0, .int .i64 0, .int .i64 0, .int .i64 0] 30) = w4 at *
  generalize hbe : w3.heap.size = b11 at *
  clear hbe
  have cD := D0.cell
  go_wp2_with fail
  clear cD
  refine wp_loop_rounds 5 ?_
  rw [rounds_succ]
  have f11 := B11.frozen
  have c11 := B11.cell
  have hX := (idx4s (.int .u16 v0) (.int .u16 v1) (.int .u16 v2) (.int .u16 v3) w4).1
  go_wp2_with fail
  clear f11 c11 hX
  have B11 : Blk (w4.setCell ⟨b11, 0, none⟩ (.int .i64 v0)) b11 #[.int .i64 v0, .int .i64 0, .int .i64 0, .int .i64 0] 30 := by simpa using B11.set 0 (.int .i64 v0)
  have B7 := B7.far (p := ⟨b11, 0, none⟩) (by simp only; omega) (.int .i64 v0)
  have xx := xx.setCell (p := ⟨b11, 0, none⟩) (by simp only; omega) (.int .i64 v0)
  generalize w4.setCell ⟨b11, 0, none⟩ (.int .i64 v0) = wv_0 at *
  rw [rounds_succ]
  have f11 := B11.frozen
  have c11 := B11.cell
  have hX := (idx4s (.int .u16 v0) (.int .u16 v1) (.int .u16 v2) (.int .u16 v3) wv_0).2.1
  go_wp2_with fail
  clear f11 c11 hX
  have B11 : Blk (wv_0.setCell ⟨b11, 1, none⟩ (.int .i64 v1)) b11 #[.int .i64 v0, .int .i64 v1, .int .i64 0, .int .i64 0] 30 := by simpa using B11.set 1 (.int .i64 v1)
  have B7 := B7.far (p := ⟨b11, 1, none⟩) (by simp only; omega) (.int .i64 v1)
  have xx := xx.setCell (p := ⟨b11, 1, none⟩) (by simp only; omega) (.int .i64 v1)
  generalize wv_0.setCell ⟨b11, 1, none⟩ (.int .i64 v1) = wv_1 at *
  rw [rounds_succ]
  have f11 := B11.frozen
  have c11 := B11.cell
  have hX := (idx4s (.int .u16 v0) (.int .u16 v1) (.int .u16 v2) (.int .u16 v3) wv_1).2.2.1
  go_wp2_with fail
  clear f11 c11 hX
  have B11 : Blk (wv_1.setCell ⟨b11, 2, none⟩ (.int .i64 v2)) b11 #[.int .i64 v0, .int .i64 v1, .int .i64 v2, .int .i64 0] 30 := by simpa using B11.set 2 (.int .i64 v2)
  have B7 := B7.far (p := ⟨b11, 2, none⟩) (by simp only; omega) (.int .i64 v2)
  have xx := xx.setCell (p := ⟨b11, 2, none⟩) (by simp only; omega) (.int .i64 v2)
  generalize wv_1.setCell ⟨b11, 2, none⟩ (.int .i64 v2) = wv_2 at *
  rw [rounds_succ]
  have f11 := B11.frozen
  have c11 := B11.cell
  have hX := (idx4s (.int .u16 v0) (.int .u16 v1) (.int .u16 v2) (.int .u16 v3) wv_2).2.2.2
  go_wp2_with fail
  clear f11 c11 hX
  have B11 : Blk (wv_2.setCell ⟨b11, 3, none⟩ (.int .i64 v3)) b11 #[.int .i64 v0, .int .i64 v1, .int .i64 v2, .int .i64 v3] 30 := by simpa using B11.set 3 (.int .i64 v3)
  have B7 := B7.far (p := ⟨b11, 3, none⟩) (by simp only; omega) (.int .i64 v3)
  have xx := xx.setCell (p := ⟨b11, 3, none⟩) (by simp only; omega) (.int .i64 v3)
  generalize wv_2.setCell ⟨b11, 3, none⟩ (.int .i64 v3) = wv_3 at *
  clear D0 ltD0
  rw [rounds_succ]
  go_upto_region 12 with fail
  have ltB7 := B7.lt
  have ltB11 := B11.lt
  have hb14 : w.heap.size ≤ wv_3.heap.size := xx.size
  have B14 := (Blk.new wv_3 #[.int .i64 0, .int .i64 0, .int .i64 0, .int .i64 0, .int .i64 0, .int .i64 0, .int .i64 0, .int .i64 0, .int .i64 0, .int .i64 0, .int .i64 0, .int .i64 0, .int .i64 0, .int .i64 0, .int .i64 0, .int .i64 0, .int .i64 0, .int .i64 0, .int .i64 0, .int .i64 0, .int .i64 0, .int .i64 0, .int .i64 0, .int .i64 0] 55).setRow #[.int .i64 ax, .int .i64 ay, .int .i64 bx, .int .i64 by_, .int .i64 cx, .int .i64 cy, .int .i64 d0, .int .i64 d1, .int .i64 d2, .int .i64 n0, .int .i64 n1, .int .i64 n2, .int .i64 a0, .int .i64 a1, .int .i64 a2, .int .i64 a3, .int .i64 b0, .int .i64 b1, .int .i64 b2, .int .i64 b3, .int .i64 c0, .int .i64 c1, .int .i64 c2, .int .i64 c3]
  have y1 : Ext wv_3 ((wv_3.alloc (.cells #[.int .i64 0, .int .i64 0, .int .i64 0, .int .i64 0, .int .i64 0, .int .i64 0, .int .i64 0, .int .i64 0, .int .i64 0, .int .i64 0, .int .i64 0, .int .i64 0, .int .i64 0, .int .i64 0, .int .i64 0, .int .i64 0, .int .i64 0, .int .i64 0, .int .i64 0, .int .i64 0, .int .i64 0, .int .i64 0, .int .i64 0, .int .i64 0] 55)).setRow wv_3.heap.size #[.int .i64 ax, .int .i64 ay, .int .i64 bx, .int .i64 by_, .int .i64 cx, .int .i64 cy, .int .i64 d0, .int .i64 d1, .int .i64 d2, .int .i64 n0, .int .i64 n1, .int .i64 n2, .int .i64 a0, .int .i64 a1, .int .i64 a2, .int .i64 a3, .int .i64 b0, .int .i64 b1, .int .i64 b2, .int .i64 b3, .int .i64 c0, .int .i64 c1, .int .i64 c2, .int .i64 c3]) := ((Ext.refl _).alloc _ _).setRow (Nat.le_refl _) _
  go_upto_region 13 with (first
    | ((with_reducible refine wpList_load_blk (op := ⟨some 47, _, _, _, _, _⟩) ?_ 55 (.tmp 9) ?_ (b7) ?_ (z := _) (T := 55) B7 Try.underlying55 ?_ ?_ ?_); rfl; rfl; rfl; rfl; kernel_rfl)
    | ((with_reducible refine wpList_store_blk (op := ⟨none, .store 55 (.tmp 14) (.tmp 47), _, _, _, _⟩) ?_ 55 (.tmp 14) (.tmp 47) ?_ (wv_3.heap.size) ?_ (cs := #[.int .i64 ax, .int .i64 ay, .int .i64 bx, .int .i64 by_, .int .i64 cx, .int .i64 cy, .int .i64 d0, .int .i64 d1, .int .i64 d2, .int .i64 n0, .int .i64 n1, .int .i64 n2, .int .i64 a0, .int .i64 a1, .int .i64 a2, .int .i64 a3, .int .i64 b0, .int .i64 b1, .int .i64 b2, .int .i64 b3, .int .i64 c0, .int .i64 c1, .int .i64 c2, .int .i64 c3]) ?_ (z := #[.int .i64 0, .int .i64 0, .int .i64 0, .int .i64 0, .int .i64 0, .int .i64 0, .int .i64 0, .int .i64 0, .int .i64 0, .int .i64 0, .int .i64 0, .int .i64 0, .int .i64 0, .int .i64 0, .int .i64 0, .int .i64 0, .int .i64 0, .int .i64 0, .int .i64 0, .int .i64 0, .int .i64 0, .int .i64 0, .int .i64 0, .int .i64 0]) (T := 55) ?_ ?_ ?_ ?_ ?_); rfl; rfl; rfl; rfl; exact Blk.new wv_3 _ _; kernel_rfl; kernel_rfl; kernel_rfl)
    | fail)
  try simp only [Act.put]
  have xx := xx.trans y1
  have B7 := B7.ext y1
  have B11 := B11.ext y1
  clear y1
  generalize (wv_3.alloc (.cells #[.int .i64 0, .int .i64 0, .int .i64 0, .int .i64 0, .int .i64 0, .int .i64 0, .int .i64 0, .int .i64 0, .int .i64 0, .int .i64 0, .int .i64 0, .int .i64 0, .int .i64 0, .int .i64 0, .int .i64 0, .int .i64 0, .int .i64 0, .int .i64 0, .int .i64 0, .int .i64 0, .int .i64 0, .int .i64 0, .int .i64 0, .int .i64 0] 55)).setRow wv_3.heap.size #[.int .i64 ax, .int .i64 ay, .int .i64 bx, .int .i64 by_, .int .i64 cx, .int .i64 cy, .int .i64 d0, .int .i64 d1, .int .i64 d2, .int .i64 n0, .int .i64 n1, .int .i64 n2, .int .i64 a0, .int .i64 a1, .int .i64 a2, .int .i64 a3, .int .i64 b0, .int .i64 b1, .int .i64 b2, .int .i64 b3, .int .i64 c0, .int .i64 c1, .int .i64 c2, .int .i64 c3] = w5 at *
  generalize hbe : wv_3.heap.size = b14 at *
  clear hbe
  have c7 := B7.cell
  have RP0 := Lib.hid (B7.mid13 0 [.int .i64 ax, .int .i64 ay] rfl)
  have RQ0 := Lib.hid (B7.mid13 12 [.int .i64 a0, .int .i64 a1, .int .i64 a2, .int .i64 a3] rfl)
  have RP1 := Lib.hid (B7.mid13 2 [.int .i64 bx, .int .i64 by_] rfl)
  have RQ1 := Lib.hid (B7.mid13 16 [.int .i64 b0, .int .i64 b1, .int .i64 b2, .int .i64 b3] rfl)
  have RP2 := Lib.hid (B7.mid13 4 [.int .i64 cx, .int .i64 cy] rfl)
  have RQ2 := Lib.hid (B7.mid13 20 [.int .i64 c0, .int .i64 c1, .int .i64 c2, .int .i64 c3] rfl)
  have ltB7 := B7.lt
  have ltB11 := B11.lt
  have ltB14 := B14.lt
  have hb15 : w.heap.size ≤ w5.heap.size := xx.size
  have B15 := (Blk.new w5 #[.int .i64 0, .int .i64 0, .int .i64 0, .int .i64 0, .int .i64 0, .int .i64 0, .int .i64 0, .int .i64 0, .int .i64 0, .int .i64 0, .int .i64 0, .int .i64 0, .int .i64 0, .int .i64 0, .int .i64 0, .int .i64 0, .int .i64 0, .int .i64 0, .int .i64 0, .int .i64 0, .int .i64 0, .int .i64 0, .int .i64 0, .int .i64 0] 55).setRow #[.int .i64 bx, .int .i64 by_, .int .i64 cx, .int .i64 cy, .int .i64 ax, .int .i64 ay, .int .i64 d1, .int .i64 d2, .int .i64 d0, .int .i64 n1, .int .i64 n2, .int .i64 n0, .int .i64 b0, .int .i64 b1, .int .i64 b2, .int .i64 b3, .int .i64 c0, .int .i64 c1, .int .i64 c2, .int .i64 c3, .int .i64 a0, .int .i64 a1, .int .i64 a2, .int .i64 a3]
  have y1 : Ext w5 ((w5.alloc (.cells #[.int .i64 0, .int .i64 0, .int .i64 0, .int .i64 0, .int .i64 0, .int .i64 0, .int .i64 0, .int .i64 0, .int .i64 0, .int .i64 0, .int .i64 0, .int .i64 0, .int .i64 0, .int .i64 0, .int .i64 0, .int .i64 0, .int .i64 0, .int .i64 0, .int .i64 0, .int .i64 0, .int .i64 0, .int .i64 0, .int .i64 0, .int .i64 0] 55)).setRow w5.heap.size #[.int .i64 bx, .int .i64 by_, .int .i64 cx, .int .i64 cy, .int .i64 ax, .int .i64 ay, .int .i64 d1, .int .i64 d2, .int .i64 d0, .int .i64 n1, .int .i64 n2, .int .i64 n0, .int .i64 b0, .int .i64 b1, .int .i64 b2, .int .i64 b3, .int .i64 c0, .int .i64 c1, .int .i64 c2, .int .i64 c3, .int .i64 a0, .int .i64 a1, .int .i64 a2, .int .i64 a3]) := ((Ext.refl _).alloc _ _).setRow (Nat.le_refl _) _
  go_upto_region 14 with (first
    | ((with_reducible refine wpList_load_mid (op := ⟨some 50, _, _, _, _, _⟩) ?_ 50 (.tmp 49) ?_ b7 2 ?_ [.int .i64 bx, .int .i64 by_] _ RP1.out Try.underlying50 ?_ ?_ ?_); rfl; rfl; rfl; rfl; kernel_rfl)
    | ((with_reducible refine wpList_load_mid (op := ⟨some 53, _, _, _, _, _⟩) ?_ 50 (.tmp 52) ?_ b7 4 ?_ [.int .i64 cx, .int .i64 cy] _ RP2.out Try.underlying50 ?_ ?_ ?_); rfl; rfl; rfl; rfl; kernel_rfl)
    | ((with_reducible refine wpList_load_mid (op := ⟨some 56, _, _, _, _, _⟩) ?_ 50 (.tmp 55) ?_ b7 0 ?_ [.int .i64 ax, .int .i64 ay] _ RP0.out Try.underlying50 ?_ ?_ ?_); rfl; rfl; rfl; rfl; kernel_rfl)
    | ((with_reducible refine wpList_load_mid (op := ⟨some 80, _, _, _, _, _⟩) ?_ 30 (.tmp 79) ?_ b7 16 ?_ [.int .i64 b0, .int .i64 b1, .int .i64 b2, .int .i64 b3] _ RQ1.out Try.underlying30 ?_ ?_ ?_); rfl; rfl; rfl; rfl; kernel_rfl)
    | ((with_reducible refine wpList_load_mid (op := ⟨some 83, _, _, _, _, _⟩) ?_ 30 (.tmp 82) ?_ b7 20 ?_ [.int .i64 c0, .int .i64 c1, .int .i64 c2, .int .i64 c3] _ RQ2.out Try.underlying30 ?_ ?_ ?_); rfl; rfl; rfl; rfl; kernel_rfl)
    | ((with_reducible refine wpList_load_mid (op := ⟨some 86, _, _, _, _, _⟩) ?_ 30 (.tmp 85) ?_ b7 12 ?_ [.int .i64 a0, .int .i64 a1, .int .i64 a2, .int .i64 a3] _ RQ0.out Try.underlying30 ?_ ?_ ?_); rfl; rfl; rfl; rfl; kernel_rfl)
    | ((with_reducible refine wpList_build13 (o := ⟨some 57, _, _, _, _, _⟩) ?_ 52 #[(0, .tmp 50), (1, .tmp 53), (2, .tmp 56)] ?_ #[.int .i64 bx, .int .i64 by_, .int .i64 cx, .int .i64 cy, .int .i64 ax, .int .i64 ay] ?_ ?_); rfl; rfl; kernel_rfl)
    | ((with_reducible refine wpList_build13 (o := ⟨some 87, _, _, _, _, _⟩) ?_ 53 #[(0, .tmp 80), (1, .tmp 83), (2, .tmp 86)] ?_ #[.int .i64 b0, .int .i64 b1, .int .i64 b2, .int .i64 b3, .int .i64 c0, .int .i64 c1, .int .i64 c2, .int .i64 c3, .int .i64 a0, .int .i64 a1, .int .i64 a2, .int .i64 a3] ?_ ?_); rfl; rfl; kernel_rfl)
    | ((with_reducible refine wpList_build13 (o := ⟨some 88, _, _, _, _, _⟩) ?_ 55 #[(0, .tmp 57), (1, .tmp 67), (2, .tmp 77), (3, .tmp 87)] ?_ #[.int .i64 bx, .int .i64 by_, .int .i64 cx, .int .i64 cy, .int .i64 ax, .int .i64 ay, .int .i64 d1, .int .i64 d2, .int .i64 d0, .int .i64 n1, .int .i64 n2, .int .i64 n0, .int .i64 b0, .int .i64 b1, .int .i64 b2, .int .i64 b3, .int .i64 c0, .int .i64 c1, .int .i64 c2, .int .i64 c3, .int .i64 a0, .int .i64 a1, .int .i64 a2, .int .i64 a3] ?_ ?_); rfl; rfl; kernel_rfl)
    | ((with_reducible refine wpList_store_blk (op := ⟨none, .store 55 (.tmp 15) (.tmp 88), _, _, _, _⟩) ?_ 55 (.tmp 15) (.tmp 88) ?_ (w5.heap.size) ?_ (cs := #[.int .i64 bx, .int .i64 by_, .int .i64 cx, .int .i64 cy, .int .i64 ax, .int .i64 ay, .int .i64 d1, .int .i64 d2, .int .i64 d0, .int .i64 n1, .int .i64 n2, .int .i64 n0, .int .i64 b0, .int .i64 b1, .int .i64 b2, .int .i64 b3, .int .i64 c0, .int .i64 c1, .int .i64 c2, .int .i64 c3, .int .i64 a0, .int .i64 a1, .int .i64 a2, .int .i64 a3]) ?_ (z := #[.int .i64 0, .int .i64 0, .int .i64 0, .int .i64 0, .int .i64 0, .int .i64 0, .int .i64 0, .int .i64 0, .int .i64 0, .int .i64 0, .int .i64 0, .int .i64 0, .int .i64 0, .int .i64 0, .int .i64 0, .int .i64 0, .int .i64 0, .int .i64 0, .int .i64 0, .int .i64 0, .int .i64 0, .int .i64 0, .int .i64 0, .int .i64 0]) (T := 55) ?_ ?_ ?_ ?_ ?_); rfl; rfl; rfl; rfl; exact Blk.new w5 _ _; kernel_rfl; kernel_rfl; kernel_rfl)
    | fail)
  clear c7 RP0 RP1 RP2 RQ0 RQ1 RQ2
  try simp only [Act.put]
  have xx := xx.trans y1
  have B7 := B7.ext y1
  have B11 := B11.ext y1
  have B14 := B14.ext y1
  clear y1
  generalize (w5.alloc (.cells #[.int .i64 0, .int .i64 0, .int .i64 0, .int .i64 0, .int .i64 0, .int .i64 0, .int .i64 0, .int .i64 0, .int .i64 0, .int .i64 0, .int .i64 0, .int .i64 0, .int .i64 0, .int .i64 0, .int .i64 0, .int .i64 0, .int .i64 0, .int .i64 0, .int .i64 0, .int .i64 0, .int .i64 0, .int .i64 0, .int .i64 0, .int .i64 0] 55)).setRow w5.heap.size #[.int .i64 bx, .int .i64 by_, .int .i64 cx, .int .i64 cy, .int .i64 ax, .int .i64 ay, .int .i64 d1, .int .i64 d2, .int .i64 d0, .int .i64 n1, .int .i64 n2, .int .i64 n0, .int .i64 b0, .int .i64 b1, .int .i64 b2, .int .i64 b3, .int .i64 c0, .int .i64 c1, .int .i64 c2, .int .i64 c3, .int .i64 a0, .int .i64 a1, .int .i64 a2, .int .i64 a3] = w6 at *
  generalize hbe : w5.heap.size = b15 at *
  clear hbe
  go_wp2_with fail
  refine wp_loop_rounds 4 ?_
  rw [rounds_succ]
  go_upto_region 17 with fail
  apply wp_region_tail 3 [false, false, false, false, false, false, false, false, true, false, false, true] [] [b14] _ (by kernel_rfl) (by kernel_rfl) (by kernel_rfl)
  case H =>
    intro x0 hx
    have hne : Nonempty (Wx x0) := ⟨⟨x0, Ext.refl x0⟩⟩
    have qB7 := fun (y : Wx x0) => ((B7.calm hx (by simp <;> omega)).ext y.ext).cell
    have qB11 := fun (y : Wx x0) => ((B11.calm hx (by simp <;> omega)).ext y.ext).cell
    simp only [eraseM]
    repeat (go_big_quiet_step (fail))
    exact wpQuiet_nil rfl
  case hF => rfl
  change tailW _ _ _ _ [_, _] _ _
  refine fun u0 x0 hc0 => ?_
  have B := B14.ext x0
  have cc := B.cell
  have ff := B.frozen
  refine gives_skip (u' := (u0.setCell ⟨b14, 6, none⟩ (.int .i64 d0))) (by simp [go_sem, cc, ff]) ⟨((hc0).trans (calm_put u0 b14 6 (.int .i64 d0))), fun u1 x1 hc1 => ?_⟩
  have B := (B.set 6 (.int .i64 d0)).ext x1
  clear cc ff
  have cc := B.cell
  have ff := B.frozen
  refine gives_skip (u' := ((((u1.setCell ⟨b14, 12, none⟩ (.int .i64 v0)).setCell ⟨b14, 13, none⟩ (.int .i64 v1)).setCell ⟨b14, 14, none⟩ (.int .i64 v2)).setCell ⟨b14, 15, none⟩ (.int .i64 v3))) (by simp [go_sem, cc, ff]) ⟨((((((((hc1).trans (calm_put u1 b14 12 (.int .i64 v0)))).trans (calm_put ((u1.setCell ⟨b14, 12, none⟩ (.int .i64 v0))) b14 13 (.int .i64 v1)))).trans (calm_put (((u1.setCell ⟨b14, 12, none⟩ (.int .i64 v0)).setCell ⟨b14, 13, none⟩ (.int .i64 v1))) b14 14 (.int .i64 v2)))).trans (calm_put ((((u1.setCell ⟨b14, 12, none⟩ (.int .i64 v0)).setCell ⟨b14, 13, none⟩ (.int .i64 v1)).setCell ⟨b14, 14, none⟩ (.int .i64 v2))) b14 15 (.int .i64 v3))), fun w7_0 x2 hc2 => ?_⟩
  have B := ((((B.set 12 (.int .i64 v0)).set 13 (.int .i64 v1)).set 14 (.int .i64 v2)).set 15 (.int .i64 v3)).ext x2
  clear cc ff
  have B14 : Blk w7_0 b14 #[.int .i64 ax, .int .i64 ay, .int .i64 bx, .int .i64 by_, .int .i64 cx, .int .i64 cy, .int .i64 d0, .int .i64 d1, .int .i64 d2, .int .i64 n0, .int .i64 n1, .int .i64 n2, .int .i64 v0, .int .i64 v1, .int .i64 v2, .int .i64 v3, .int .i64 b0, .int .i64 b1, .int .i64 b2, .int .i64 b3, .int .i64 c0, .int .i64 c1, .int .i64 c2, .int .i64 c3] 55 := by simpa using B
  clear B x0 x1 x2 hc0 hc1
  simp only [Act.put]
  have B7 := B7.calm hc2 (by simp; omega)
  have B11 := B11.calm hc2 (by simp; omega)
  have B15 := B15.calm hc2 (by simp; omega)
  have xx := Ext.calm_trans xx hc2 (by simp; omega)
  clear hc2
  go_wp2_with fail
  rw [rounds_succ]
  go_upto_region 17 with fail
  apply wp_region_tail 3 [false, false, false, false, false, false, false, false, true, false, false, true] [] [b14] _ (by kernel_rfl) (by kernel_rfl) (by kernel_rfl)
  case H =>
    intro x0 hx
    have hne : Nonempty (Wx x0) := ⟨⟨x0, Ext.refl x0⟩⟩
    have qB7 := fun (y : Wx x0) => ((B7.calm hx (by simp <;> omega)).ext y.ext).cell
    have qB11 := fun (y : Wx x0) => ((B11.calm hx (by simp <;> omega)).ext y.ext).cell
    simp only [eraseM]
    repeat (go_big_quiet_step (fail))
    exact wpQuiet_nil rfl
  case hF => rfl
  change tailW _ _ _ _ [_, _] _ _
  refine fun u0 x0 hc0 => ?_
  have B := B14.ext x0
  have cc := B.cell
  have ff := B.frozen
  refine gives_skip (u' := (u0.setCell ⟨b14, 7, none⟩ (.int .i64 d0))) (by simp [go_sem, cc, ff]) ⟨((hc0).trans (calm_put u0 b14 7 (.int .i64 d0))), fun u1 x1 hc1 => ?_⟩
  have B := (B.set 7 (.int .i64 d0)).ext x1
  clear cc ff
  have cc := B.cell
  have ff := B.frozen
  refine gives_skip (u' := ((((u1.setCell ⟨b14, 16, none⟩ (.int .i64 v0)).setCell ⟨b14, 17, none⟩ (.int .i64 v1)).setCell ⟨b14, 18, none⟩ (.int .i64 v2)).setCell ⟨b14, 19, none⟩ (.int .i64 v3))) (by simp [go_sem, cc, ff]) ⟨((((((((hc1).trans (calm_put u1 b14 16 (.int .i64 v0)))).trans (calm_put ((u1.setCell ⟨b14, 16, none⟩ (.int .i64 v0))) b14 17 (.int .i64 v1)))).trans (calm_put (((u1.setCell ⟨b14, 16, none⟩ (.int .i64 v0)).setCell ⟨b14, 17, none⟩ (.int .i64 v1))) b14 18 (.int .i64 v2)))).trans (calm_put ((((u1.setCell ⟨b14, 16, none⟩ (.int .i64 v0)).setCell ⟨b14, 17, none⟩ (.int .i64 v1)).setCell ⟨b14, 18, none⟩ (.int .i64 v2))) b14 19 (.int .i64 v3))), fun w7_1 x2 hc2 => ?_⟩
  have B := ((((B.set 16 (.int .i64 v0)).set 17 (.int .i64 v1)).set 18 (.int .i64 v2)).set 19 (.int .i64 v3)).ext x2
  clear cc ff
  have B14 : Blk w7_1 b14 #[.int .i64 ax, .int .i64 ay, .int .i64 bx, .int .i64 by_, .int .i64 cx, .int .i64 cy, .int .i64 d0, .int .i64 d0, .int .i64 d2, .int .i64 n0, .int .i64 n1, .int .i64 n2, .int .i64 v0, .int .i64 v1, .int .i64 v2, .int .i64 v3, .int .i64 v0, .int .i64 v1, .int .i64 v2, .int .i64 v3, .int .i64 c0, .int .i64 c1, .int .i64 c2, .int .i64 c3] 55 := by simpa using B
  clear B x0 x1 x2 hc0 hc1
  simp only [Act.put]
  have B7 := B7.calm hc2 (by simp; omega)
  have B11 := B11.calm hc2 (by simp; omega)
  have B15 := B15.calm hc2 (by simp; omega)
  have xx := Ext.calm_trans xx hc2 (by simp; omega)
  clear hc2
  go_wp2_with fail
  rw [rounds_succ]
  go_upto_region 17 with fail
  apply wp_region_tail 3 [false, false, false, false, false, false, false, false, true, false, false, true] [] [b14] _ (by kernel_rfl) (by kernel_rfl) (by kernel_rfl)
  case H =>
    intro x0 hx
    have hne : Nonempty (Wx x0) := ⟨⟨x0, Ext.refl x0⟩⟩
    have qB7 := fun (y : Wx x0) => ((B7.calm hx (by simp <;> omega)).ext y.ext).cell
    have qB11 := fun (y : Wx x0) => ((B11.calm hx (by simp <;> omega)).ext y.ext).cell
    simp only [eraseM]
    repeat (go_big_quiet_step (fail))
    exact wpQuiet_nil rfl
  case hF => rfl
  change tailW _ _ _ _ [_, _] _ _
  refine fun u0 x0 hc0 => ?_
  have B := B14.ext x0
  have cc := B.cell
  have ff := B.frozen
  refine gives_skip (u' := (u0.setCell ⟨b14, 8, none⟩ (.int .i64 d0))) (by simp [go_sem, cc, ff]) ⟨((hc0).trans (calm_put u0 b14 8 (.int .i64 d0))), fun u1 x1 hc1 => ?_⟩
  have B := (B.set 8 (.int .i64 d0)).ext x1
  clear cc ff
  have cc := B.cell
  have ff := B.frozen
  refine gives_skip (u' := ((((u1.setCell ⟨b14, 20, none⟩ (.int .i64 v0)).setCell ⟨b14, 21, none⟩ (.int .i64 v1)).setCell ⟨b14, 22, none⟩ (.int .i64 v2)).setCell ⟨b14, 23, none⟩ (.int .i64 v3))) (by simp [go_sem, cc, ff]) ⟨((((((((hc1).trans (calm_put u1 b14 20 (.int .i64 v0)))).trans (calm_put ((u1.setCell ⟨b14, 20, none⟩ (.int .i64 v0))) b14 21 (.int .i64 v1)))).trans (calm_put (((u1.setCell ⟨b14, 20, none⟩ (.int .i64 v0)).setCell ⟨b14, 21, none⟩ (.int .i64 v1))) b14 22 (.int .i64 v2)))).trans (calm_put ((((u1.setCell ⟨b14, 20, none⟩ (.int .i64 v0)).setCell ⟨b14, 21, none⟩ (.int .i64 v1)).setCell ⟨b14, 22, none⟩ (.int .i64 v2))) b14 23 (.int .i64 v3))), fun w7_2 x2 hc2 => ?_⟩
  have B := ((((B.set 20 (.int .i64 v0)).set 21 (.int .i64 v1)).set 22 (.int .i64 v2)).set 23 (.int .i64 v3)).ext x2
  clear cc ff
  have B14 : Blk w7_2 b14 #[.int .i64 ax, .int .i64 ay, .int .i64 bx, .int .i64 by_, .int .i64 cx, .int .i64 cy, .int .i64 d0, .int .i64 d0, .int .i64 d0, .int .i64 n0, .int .i64 n1, .int .i64 n2, .int .i64 v0, .int .i64 v1, .int .i64 v2, .int .i64 v3, .int .i64 v0, .int .i64 v1, .int .i64 v2, .int .i64 v3, .int .i64 v0, .int .i64 v1, .int .i64 v2, .int .i64 v3] 55 := by simpa using B
  clear B x0 x1 x2 hc0 hc1
  simp only [Act.put]
  have B7 := B7.calm hc2 (by simp; omega)
  have B11 := B11.calm hc2 (by simp; omega)
  have B15 := B15.calm hc2 (by simp; omega)
  have xx := Ext.calm_trans xx hc2 (by simp; omega)
  clear hc2
  go_wp2_with fail
  rw [rounds_succ]
  go_wp2_with (first
    | ((with_reducible refine wpList_load_blk (op := ⟨some 110, _, _, _, _, _⟩) ?_ 55 (.tmp 14) ?_ (b14) ?_ (z := _) (T := 55) B14 Try.underlying55 ?_ ?_ ?_); rfl; rfl; rfl; rfl; kernel_rfl)
    | fail)
  refine (HF.out _).mono ?_
  rintro e w8_0 ⟨rfl, x1⟩
  have xx := xx.trans x1
  have B7 := B7.ext x1
  have B11 := B11.ext x1
  have B14 := B14.ext x1
  have B15 := B15.ext x1
  clear x1
  have B20 := (Blk.new w8_0 #[.int .i64 0, .int .i64 0, .int .i64 0, .int .i64 0] 30).setRow #[.int .i64 0, .int .i64 0, .int .i64 0, .int .i64 0]
  have y1 : Ext w8_0 ((w8_0.alloc (.cells #[.int .i64 0, .int .i64 0, .int .i64 0, .int .i64 0] 30)).setRow w8_0.heap.size #[.int .i64 0, .int .i64 0, .int .i64 0, .int .i64 0]) := ((Ext.refl _).alloc _ _).setRow (Nat.le_refl _) _
  go_upto_region 21 with (first
    | ((with_reducible refine wpList_store_blk (op := ⟨none, .store 30 (.tmp 20) (.tmp 115), _, _, _, _⟩) ?_ 30 (.tmp 20) (.tmp 115) ?_ (w8_0.heap.size) ?_ (cs := #[.int .i64 0, .int .i64 0, .int .i64 0, .int .i64 0]) ?_ (z := #[.int .i64 0, .int .i64 0, .int .i64 0, .int .i64 0]) (T := 30) ?_ ?_ ?_ ?_ ?_); rfl; rfl; rfl; rfl; exact Blk.new w8_0 _ _; kernel_rfl; kernel_rfl; kernel_rfl)
    | fail)
  try simp only [Act.put]
  have xx := xx.trans y1
  have B7 := B7.ext y1
  have B11 := B11.ext y1
  have B14 := B14.ext y1
  have B15 := B15.ext y1
  clear y1
  generalize (w8_0.alloc (.cells #[.int .i64 0, .int .i64 0, .int .i64 0, .int .i64 0] 30)).setRow w8_0.heap.size #[.int .i64 0, .int .i64 0, .int .i64 0, .int .i64 0] = w9_0 at *
  generalize hbe : w8_0.heap.size = b20 at *
  clear hbe
  go_wp2_with (first
    | ((with_reducible refine wpList_load_blk (op := ⟨some 118, _, _, _, _, _⟩) ?_ 55 (.tmp 9) ?_ (b7) ?_ (z := _) (T := 55) B7 Try.underlying55 ?_ ?_ ?_); rfl; rfl; rfl; rfl; kernel_rfl)
    | fail)
  refine (HA.out _).mono ?_
  rintro e w8_1 ⟨rfl, x1⟩
  have xx := xx.trans x1
  have B7 := B7.ext x1
  have B11 := B11.ext x1
  have B14 := B14.ext x1
  have B15 := B15.ext x1
  have B20 := B20.ext x1
  clear x1
  have B23 := (Blk.new w8_1 #[.int .i64 0, .int .i64 0, .int .i64 0, .int .i64 0] 30).setRow #[.int .i64 0, .int .i64 0, .int .i64 0, .int .i64 0]
  have y1 : Ext w8_1 ((w8_1.alloc (.cells #[.int .i64 0, .int .i64 0, .int .i64 0, .int .i64 0] 30)).setRow w8_1.heap.size #[.int .i64 0, .int .i64 0, .int .i64 0, .int .i64 0]) := ((Ext.refl _).alloc _ _).setRow (Nat.le_refl _) _
  go_upto_region 22 with (first
    | ((with_reducible refine wpList_store_blk (op := ⟨none, .store 30 (.tmp 23) (.tmp 123), _, _, _, _⟩) ?_ 30 (.tmp 23) (.tmp 123) ?_ (w8_1.heap.size) ?_ (cs := #[.int .i64 0, .int .i64 0, .int .i64 0, .int .i64 0]) ?_ (z := #[.int .i64 0, .int .i64 0, .int .i64 0, .int .i64 0]) (T := 30) ?_ ?_ ?_ ?_ ?_); rfl; rfl; rfl; rfl; exact Blk.new w8_1 _ _; kernel_rfl; kernel_rfl; kernel_rfl)
    | fail)
  try simp only [Act.put]
  have xx := xx.trans y1
  have B7 := B7.ext y1
  have B11 := B11.ext y1
  have B14 := B14.ext y1
  have B15 := B15.ext y1
  have B20 := B20.ext y1
  clear y1
  generalize (w8_1.alloc (.cells #[.int .i64 0, .int .i64 0, .int .i64 0, .int .i64 0] 30)).setRow w8_1.heap.size #[.int .i64 0, .int .i64 0, .int .i64 0, .int .i64 0] = w9_1 at *
  generalize hbe : w8_1.heap.size = b23 at *
  clear hbe
  go_wp2_with (first
    | ((with_reducible refine wpList_load_blk (op := ⟨some 126, _, _, _, _, _⟩) ?_ 55 (.tmp 15) ?_ (b15) ?_ (z := _) (T := 55) B15 Try.underlying55 ?_ ?_ ?_); rfl; rfl; rfl; rfl; kernel_rfl)
    | fail)
  refine (HU.out _).mono ?_
  rintro e w8_2 ⟨rfl, x1⟩
  have xx := xx.trans x1
  have B7 := B7.ext x1
  have B11 := B11.ext x1
  have B14 := B14.ext x1
  have B15 := B15.ext x1
  have B20 := B20.ext x1
  have B23 := B23.ext x1
  clear x1
  have B26 := (Blk.new w8_2 #[.int .i64 0, .int .i64 0, .int .i64 0, .int .i64 0] 30).setRow #[.int .i64 0, .int .i64 0, .int .i64 0, .int .i64 0]
  have y1 : Ext w8_2 ((w8_2.alloc (.cells #[.int .i64 0, .int .i64 0, .int .i64 0, .int .i64 0] 30)).setRow w8_2.heap.size #[.int .i64 0, .int .i64 0, .int .i64 0, .int .i64 0]) := ((Ext.refl _).alloc _ _).setRow (Nat.le_refl _) _
  go_upto_region 23 with (first
    | ((with_reducible refine wpList_store_blk (op := ⟨none, .store 30 (.tmp 26) (.tmp 131), _, _, _, _⟩) ?_ 30 (.tmp 26) (.tmp 131) ?_ (w8_2.heap.size) ?_ (cs := #[.int .i64 0, .int .i64 0, .int .i64 0, .int .i64 0]) ?_ (z := #[.int .i64 0, .int .i64 0, .int .i64 0, .int .i64 0]) (T := 30) ?_ ?_ ?_ ?_ ?_); rfl; rfl; rfl; rfl; exact Blk.new w8_2 _ _; kernel_rfl; kernel_rfl; kernel_rfl)
    | fail)
  try simp only [Act.put]
  have xx := xx.trans y1
  have B7 := B7.ext y1
  have B11 := B11.ext y1
  have B14 := B14.ext y1
  have B15 := B15.ext y1
  have B20 := B20.ext y1
  have B23 := B23.ext y1
  clear y1
  generalize (w8_2.alloc (.cells #[.int .i64 0, .int .i64 0, .int .i64 0, .int .i64 0] 30)).setRow w8_2.heap.size #[.int .i64 0, .int .i64 0, .int .i64 0, .int .i64 0] = w9_2 at *
  generalize hbe : w8_2.heap.size = b26 at *
  clear hbe
  have c7 := B7.cell
  have c11 := B11.cell
  have c20 := B20.cell
  have c23 := B23.cell
  have c26 := B26.cell
  have hq1 := eqV 0 0 0 0 w9_2
  have hq2 := eqV 0 0 0 0 w9_2
  clear B7 B11 B14 B15 B20 B23 B26
  go_wp2_with fail
  go_ret
  exact ⟨rfl, xx⟩
end Go.Proofs.Ytglehnmkdapnpaa

namespace Go.Proofs.Ytglehnmkdapnpaa
open Go.RowKit
set_option linter.unusedVariables false
set_option maxRecDepth 100000 in
set_option maxHeartbeats 4000000 in
theorem flat_out (s0 s1 s2 s3 s4 s5 e0 e1 e2 m0 m1 m2 oa0 oa1 oa2 oa3 ob0 ob1 ob2 ob3 oc0 oc1 oc2 oc3 sz ax ay bx by_ cx cy d0 d1 d2 n0 n1 n2 a0 a1 a2 a3 b0 b1 b2 b3 c0 c1 c2 c3 v0 v1 v2 v3 x y : Int) (hS : ∀ u, Calls Try.prog 18 #[.agg #[.int .i8 s0, .int .i8 s1, .int .i8 s2, .int .i8 s3, .int .i8 s4, .int .i8 s5, .int .u16 e0, .int .u16 e1, .int .u16 e2, .int .u16 m0, .int .u16 m1, .int .u16 m2, .int .u16 oa0, .int .u16 oa1, .int .u16 oa2, .int .u16 oa3, .int .u16 ob0, .int .u16 ob1, .int .u16 ob2, .int .u16 ob3, .int .u16 oc0, .int .u16 oc1, .int .u16 oc2, .int .u16 oc3, .int .u8 sz]] u fun e w' => e = .returned (.tuple #[.agg #[.int .i64 ax, .int .i64 ay, .int .i64 bx, .int .i64 by_, .int .i64 cx, .int .i64 cy, .int .i64 d0, .int .i64 d1, .int .i64 d2, .int .i64 n0, .int .i64 n1, .int .i64 n2, .int .i64 a0, .int .i64 a1, .int .i64 a2, .int .i64 a3, .int .i64 b0, .int .i64 b1, .int .i64 b2, .int .i64 b3, .int .i64 c0, .int .i64 c1, .int .i64 c2, .int .i64 c3], .bool false]) ∧ Ext u w') (w : World) :
    Calls Try.prog 8 #[.agg #[.int .i8 s0, .int .i8 s1, .int .i8 s2, .int .i8 s3, .int .i8 s4, .int .i8 s5, .int .u16 e0, .int .u16 e1, .int .u16 e2, .int .u16 m0, .int .u16 m1, .int .u16 m2, .int .u16 oa0, .int .u16 oa1, .int .u16 oa2, .int .u16 oa3, .int .u16 ob0, .int .u16 ob1, .int .u16 ob2, .int .u16 ob3, .int .u16 oc0, .int .u16 oc1, .int .u16 oc2, .int .u16 oc3, .int .u8 sz], .agg #[.int .u16 v0, .int .u16 v1, .int .u16 v2, .int .u16 v3], .int .u8 x, .int .u8 y] w fun e w' => e = .returned (.bool true) ∧ Ext w w' := by
  have HS := Lib.hid hS
  clear hS
  have xx : Ext w ((w.alloc (.cells #[.int .i8 s0, .int .i8 s1, .int .i8 s2, .int .i8 s3, .int .i8 s4, .int .i8 s5, .int .u16 e0, .int .u16 e1, .int .u16 e2, .int .u16 m0, .int .u16 m1, .int .u16 m2, .int .u16 oa0, .int .u16 oa1, .int .u16 oa2, .int .u16 oa3, .int .u16 ob0, .int .u16 ob1, .int .u16 ob2, .int .u16 ob3, .int .u16 oc0, .int .u16 oc1, .int .u16 oc2, .int .u16 oc3, .int .u8 sz] 75)).alloc (.cells #[.int .u16 v0, .int .u16 v1, .int .u16 v2, .int .u16 v3] 72)) := (((Ext.refl w).alloc _ _).alloc _ _)
  have B0 := ((Blk.new w #[.int .i8 s0, .int .i8 s1, .int .i8 s2, .int .i8 s3, .int .i8 s4, .int .i8 s5, .int .u16 e0, .int .u16 e1, .int .u16 e2, .int .u16 m0, .int .u16 m1, .int .u16 m2, .int .u16 oa0, .int .u16 oa1, .int .u16 oa2, .int .u16 oa3, .int .u16 ob0, .int .u16 ob1, .int .u16 ob2, .int .u16 ob3, .int .u16 oc0, .int .u16 oc1, .int .u16 oc2, .int .u16 oc3, .int .u8 sz] 75).alloc (.cells #[.int .u16 v0, .int .u16 v1, .int .u16 v2, .int .u16 v3] 72))
  have D0 := (Blk.new (w.alloc (.cells #[.int .i8 s0, .int .i8 s1, .int .i8 s2, .int .i8 s3, .int .i8 s4, .int .i8 s5, .int .u16 e0, .int .u16 e1, .int .u16 e2, .int .u16 m0, .int .u16 m1, .int .u16 m2, .int .u16 oa0, .int .u16 oa1, .int .u16 oa2, .int .u16 oa3, .int .u16 ob0, .int .u16 ob1, .int .u16 ob2, .int .u16 ob3, .int .u16 oc0, .int .u16 oc1, .int .u16 oc2, .int .u16 oc3, .int .u8 sz] 75)) #[.int .u16 v0, .int .u16 v1, .int .u16 v2, .int .u16 v3] 72)
  go_enter Try.func8, Try.ntmps8
  go_upto_region 1 with fail
  simp only [World.size_alloc] at D0
  generalize ((w.alloc (.cells #[.int .i8 s0, .int .i8 s1, .int .i8 s2, .int .i8 s3, .int .i8 s4, .int .i8 s5, .int .u16 e0, .int .u16 e1, .int .u16 e2, .int .u16 m0, .int .u16 m1, .int .u16 m2, .int .u16 oa0, .int .u16 oa1, .int .u16 oa2, .int .u16 oa3, .int .u16 ob0, .int .u16 ob1, .int .u16 ob2, .int .u16 ob3, .int .u16 oc0, .int .u16 oc1, .int .u16 oc2, .int .u16 oc3, .int .u8 sz] 75)).alloc (.cells #[.int .u16 v0, .int .u16 v1, .int .u16 v2, .int .u16 v3] 72)) = w0 at *
  go_wp2_with fail
  refine (awake13_any _).mono ?_
  rintro e w1 ⟨rfl, x1⟩
  have xx := xx.trans x1
  have B0 := B0.ext x1
  have D0 := D0.ext x1
  clear x1
  go_wp2_with (first
    | ((with_reducible refine wpList_load_blk (op := ⟨some 31, _, _, _, _, _⟩) ?_ 75 (.tmp 4) ?_ (w.heap.size) ?_ (z := _) (T := 75) B0 Try.underlying75 ?_ ?_ ?_); rfl; rfl; rfl; rfl; kernel_rfl)
    | fail)
  refine (HS.out _).mono ?_
  rintro e w2 ⟨rfl, x1⟩
  have xx := xx.trans x1
  have D0 := D0.ext x1
  clear x1
  have B7 := (Blk.new w2 #[.int .i64 0, .int .i64 0, .int .i64 0, .int .i64 0, .int .i64 0, .int .i64 0, .int .i64 0, .int .i64 0, .int .i64 0, .int .i64 0, .int .i64 0, .int .i64 0, .int .i64 0, .int .i64 0, .int .i64 0, .int .i64 0, .int .i64 0, .int .i64 0, .int .i64 0, .int .i64 0, .int .i64 0, .int .i64 0, .int .i64 0, .int .i64 0] 55).setRow #[.int .i64 ax, .int .i64 ay, .int .i64 bx, .int .i64 by_, .int .i64 cx, .int .i64 cy, .int .i64 d0, .int .i64 d1, .int .i64 d2, .int .i64 n0, .int .i64 n1, .int .i64 n2, .int .i64 a0, .int .i64 a1, .int .i64 a2, .int .i64 a3, .int .i64 b0, .int .i64 b1, .int .i64 b2, .int .i64 b3, .int .i64 c0, .int .i64 c1, .int .i64 c2, .int .i64 c3]
  have y1 : Ext w2 ((w2.alloc (.cells #[.int .i64 0, .int .i64 0, .int .i64 0, .int .i64 0, .int .i64 0, .int .i64 0, .int .i64 0, .int .i64 0, .int .i64 0, .int .i64 0, .int .i64 0, .int .i64 0, .int .i64 0, .int .i64 0, .int .i64 0, .int .i64 0, .int .i64 0, .int .i64 0, .int .i64 0, .int .i64 0, .int .i64 0, .int .i64 0, .int .i64 0, .int .i64 0] 55)).setRow w2.heap.size #[.int .i64 ax, .int .i64 ay, .int .i64 bx, .int .i64 by_, .int .i64 cx, .int .i64 cy, .int .i64 d0, .int .i64 d1, .int .i64 d2, .int .i64 n0, .int .i64 n1, .int .i64 n2, .int .i64 a0, .int .i64 a1, .int .i64 a2, .int .i64 a3, .int .i64 b0, .int .i64 b1, .int .i64 b2, .int .i64 b3, .int .i64 c0, .int .i64 c1, .int .i64 c2, .int .i64 c3]) := ((Ext.refl _).alloc _ _).setRow (Nat.le_refl _) _
  have hb7 : w.heap.size ≤ w2.heap.size := xx.size
  go_upto_region 4 with (first
    | ((with_reducible refine wpList_store_blk (op := ⟨none, .store 55 (.tmp 9) (.tmp 33), _, _, _, _⟩) ?_ 55 (.tmp 9) (.tmp 33) ?_ (w2.heap.size) ?_ (cs := #[.int .i64 ax, .int .i64 ay, .int .i64 bx, .int .i64 by_, .int .i64 cx, .int .i64 cy, .int .i64 d0, .int .i64 d1, .int .i64 d2, .int .i64 n0, .int .i64 n1, .int .i64 n2, .int .i64 a0, .int .i64 a1, .int .i64 a2, .int .i64 a3, .int .i64 b0, .int .i64 b1, .int .i64 b2, .int .i64 b3, .int .i64 c0, .int .i64 c1, .int .i64 c2, .int .i64 c3]) ?_ (z := #[.int .i64 0, .int .i64 0, .int .i64 0, .int .i64 0, .int .i64 0, .int .i64 0, .int .i64 0, .int .i64 0, .int .i64 0, .int .i64 0, .int .i64 0, .int .i64 0, .int .i64 0, .int .i64 0, .int .i64 0, .int .i64 0, .int .i64 0, .int .i64 0, .int .i64 0, .int .i64 0, .int .i64 0, .int .i64 0, .int .i64 0, .int .i64 0]) (T := 55) ?_ ?_ ?_ ?_ ?_); rfl; rfl; rfl; rfl; exact Blk.new w2 _ _; kernel_rfl; kernel_rfl; kernel_rfl)
    | fail)
  try simp only [Act.put]
  have xx := xx.trans y1
  have D0 := D0.ext y1
  clear y1
  generalize (w2.alloc (.cells #[.int .i64 0, .int .i64 0, .int .i64 0, .int .i64 0, .int .i64 0, .int .i64 0, .int .i64 0, .int .i64 0, .int .i64 0, .int .i64 0, .int .i64 0, .int .i64 0, .int .i64 0, .int .i64 0, .int .i64 0, .int .i64 0, .int .i64 0, .int .i64 0, .int .i64 0, .int .i64 0, .int .i64 0, .int .i64 0, .int .i64 0, .int .i64 0] 55)).setRow w2.heap.size #[.int .i64 ax, .int .i64 ay, .int .i64 bx, .int .i64 by_, .int .i64 cx, .int .i64 cy, .int .i64 d0, .int .i64 d1, .int .i64 d2, .int .i64 n0, .int .i64 n1, .int .i64 n2, .int .i64 a0, .int .i64 a1, .int .i64 a2, .int .i64 a3, .int .i64 b0, .int .i64 b1, .int .i64 b2, .int .i64 b3, .int .i64 c0, .int .i64 c1, .int .i64 c2, .int .i64 c3] = w3 at *
  generalize hbe : w2.heap.size = b7 at *
  clear hbe
  clear B0 HS
  clear B7 D0
  go_wp2_with fail
  go_ret
  exact ⟨rfl, xx⟩
/-- of one depth and one colour -/
def Tr.flat (t : Tr) (v0 v1 v2 v3 : Int) : Tr := { t with d1 := t.d0, d2 := t.d0, a0 := v0, a1 := v1, a2 := v2, a3 := v3, b0 := v0, b1 := v1, b2 := v2, b3 := v3, c0 := v0, c1 := v1, c2 := v2, c3 := v3 }
theorem flat_rng {t : Tr} (h : t.rng) {v0 v1 v2 v3 : Int} (g0 : 0 ≤ v0 ∧ v0 ≤ 65535) (g1 : 0 ≤ v1 ∧ v1 ≤ 65535) (g2 : 0 ≤ v2 ∧ v2 ≤ 65535) (g3 : 0 ≤ v3 ∧ v3 ≤ 65535) : (t.flat v0 v1 v2 v3).rng := by
  obtain ⟨p, ⟨q1, q2, q3⟩, r, s1, s2, s3⟩ := h
  have k : ∀ z : Int, 0 ≤ z ∧ z ≤ 65535 → In 0 65536 z := fun z hz => by unfold In; omega
  exact ⟨p, ⟨q1, q1, q1⟩, r, ⟨k _ g0, k _ g1, k _ g2, k _ g3⟩, ⟨k _ g0, k _ g1, k _ g2, k _ g3⟩, ⟨k _ g0, k _ g1, k _ g2, k _ g3⟩⟩
theorem flat_at {t : Tr} (ht : chkT t = 0) {v0 v1 v2 v3 : Int} (g0 : 0 ≤ v0 ∧ v0 ≤ 65535) (g1 : 0 ≤ v1 ∧ v1 ≤ 65535) (g2 : 0 ≤ v2 ∧ v2 ≤ 65535) (g3 : 0 ≤ v3 ∧ v3 ≤ 65535) (x y : Int) :
    atF (t.flat v0 v1 v2 v3) x y = if t.cov (midI x) (midI y) = true then ⟨t.d0, v0, v1, v2, v3, true⟩ else ⟨0, 0, 0, 0, 0, false⟩ := by
  obtain ⟨hr, ha⟩ := chk_rng ht
  have hk : chkT (t.flat v0 v1 v2 v3) = 0 := by
    unfold chkT
    rw [if_pos (flat_rng hr g0 g1 g2 g3), if_neg (show ¬ (t.flat v0 v1 v2 v3).area ≤ 0 from by show ¬ t.area ≤ 0; omega)]
  obtain ⟨-, -, ⟨⟨n0, -⟩, ⟨n1, -⟩, ⟨n2, -⟩⟩, -⟩ := hr
  by_cases hc : t.cov (midI x) (midI y) = true
  · rw [if_pos hc]
    have hc' : (t.flat v0 v1 v2 v3).cov (midI x) (midI y) = true := hc
    unfold atF
    rw [if_pos ⟨hk, hc'⟩, dAt_flat (d := t.d0) hc' rfl rfl rfl]
    congr 1
    · exact cAt_flat hc' n0 n1 n2
    · exact cAt_flat hc' n0 n1 n2
    · exact cAt_flat hc' n0 n1 n2
    · exact cAt_flat hc' n0 n1 n2
  · rw [if_neg hc]
    unfold atF
    rw [if_neg (fun h => hc h.2)]
set_option maxRecDepth 100000 in
theorem setupFlat_row (s : S13) (v0 v1 v2 v3 x y : Int) (hs : s.ok) (g0 : 0 ≤ v0 ∧ v0 ≤ 65535) (g1 : 0 ≤ v1 ∧ v1 ≤ 65535) (g2 : 0 ≤ v2 ∧ v2 ≤ 65535) (g3 : 0 ≤ v3 ∧ v3 ≤ 65535) (hx : 0 ≤ x ∧ x ≤ 255) (hy : 0 ≤ y ∧ y ≤ 255) (w : World) :
    Calls Try.prog 8 #[.agg s.l.toArray, .agg #[.int .u16 v0, .int .u16 v1, .int .u16 v2, .int .u16 v3], .int .u8 x, .int .u8 y] w fun e w' => e = .returned (.bool true) ∧ Ext w w' := by
  have hS := fun u => small13_any s hs u
  by_cases hz : 0 < s.tri.area
  · rw [decide_eq_true hz] at hS
    have p1 := tm_bd (m := 40) hx.1 (by omega)
    have q1 := tm_bd (m := 40) hy.1 (by omega)
    have i1 : I64 (x.tmod 40) := by unfold I64; omega
    have i2 : I64 (y.tmod 40) := by unfold I64; omega
    have hA := fun u => atT_any s.tri (rng_in64 hs.tri) _ _ i1 i2 u
    have hF := fun u => atT_any (s.tri.flat v0 v1 v2 v3) (rng_in64 (flat_rng hs.tri g0 g1 g2 g3)) _ _ i1 i2 u
    have hU := fun u => atT_any s.tri.turn (rng_in64 (turn_rng.2 hs.tri)) _ _ i1 i2 u
    rw [turn_at] at hU
    rw [flat_at (hs.chk hz) g0 g1 g2 g3] at hF
    by_cases hc : s.tri.cov (midI (x.tmod 40)) (midI (y.tmod 40)) = true
    · rw [if_pos hc] at hF
      have e : atF s.tri (x.tmod 40) (y.tmod 40) = ⟨s.tri.dAt (midI (x.tmod 40)) (midI (y.tmod 40)), (s.tri.cAt (midI (x.tmod 40)) (midI (y.tmod 40)) s.tri.a0 s.tri.b0 s.tri.c0), (s.tri.cAt (midI (x.tmod 40)) (midI (y.tmod 40)) s.tri.a1 s.tri.b1 s.tri.c1), (s.tri.cAt (midI (x.tmod 40)) (midI (y.tmod 40)) s.tri.a2 s.tri.b2 s.tri.c2), (s.tri.cAt (midI (x.tmod 40)) (midI (y.tmod 40)) s.tri.a3 s.tri.b3 s.tri.c3), true⟩ := by
        unfold atF
        rw [if_pos ⟨hs.chk hz, hc⟩]
      rw [e] at hA hU
      exact flat_yes s.s0 s.s1 s.s2 s.s3 s.s4 s.s5 s.e0 s.e1 s.e2 s.n0 s.n1 s.n2 s.a0 s.a1 s.a2 s.a3 s.b0 s.b1 s.b2 s.b3 s.c0 s.c1 s.c2 s.c3 s.sz s.tri.ax s.tri.ay s.tri.bx s.tri.by' s.tri.cx s.tri.cy s.tri.d0 s.tri.d1 s.tri.d2 s.tri.n0 s.tri.n1 s.tri.n2 s.tri.a0 s.tri.a1 s.tri.a2 s.tri.a3 s.tri.b0 s.tri.b1 s.tri.b2 s.tri.b3 s.tri.c0 s.tri.c1 s.tri.c2 s.tri.c3 v0 v1 v2 v3 x y (x.tmod 40) (y.tmod 40) (s.tri.dAt (midI (x.tmod 40)) (midI (y.tmod 40))) (s.tri.cAt (midI (x.tmod 40)) (midI (y.tmod 40)) s.tri.a0 s.tri.b0 s.tri.c0) (s.tri.cAt (midI (x.tmod 40)) (midI (y.tmod 40)) s.tri.a1 s.tri.b1 s.tri.c1) (s.tri.cAt (midI (x.tmod 40)) (midI (y.tmod 40)) s.tri.a2 s.tri.b2 s.tri.c2) (s.tri.cAt (midI (x.tmod 40)) (midI (y.tmod 40)) s.tri.a3 s.tri.b3 s.tri.c3) rfl rfl ⟨p1.1, by omega⟩ ⟨q1.1, by omega⟩ g0 g1 g2 g3 hS hF hA hU w
    · rw [if_neg hc] at hF
      have e : atF s.tri (x.tmod 40) (y.tmod 40) = ⟨0, 0, 0, 0, 0, false⟩ := by
        unfold atF
        rw [if_neg (fun h => hc h.2)]
      rw [e] at hA hU
      exact flat_no s.s0 s.s1 s.s2 s.s3 s.s4 s.s5 s.e0 s.e1 s.e2 s.n0 s.n1 s.n2 s.a0 s.a1 s.a2 s.a3 s.b0 s.b1 s.b2 s.b3 s.c0 s.c1 s.c2 s.c3 s.sz s.tri.ax s.tri.ay s.tri.bx s.tri.by' s.tri.cx s.tri.cy s.tri.d0 s.tri.d1 s.tri.d2 s.tri.n0 s.tri.n1 s.tri.n2 s.tri.a0 s.tri.a1 s.tri.a2 s.tri.a3 s.tri.b0 s.tri.b1 s.tri.b2 s.tri.b3 s.tri.c0 s.tri.c1 s.tri.c2 s.tri.c3 v0 v1 v2 v3 x y (x.tmod 40) (y.tmod 40) rfl rfl ⟨p1.1, by omega⟩ ⟨q1.1, by omega⟩ g0 g1 g2 g3 hS hF hA hU w
  · rw [decide_eq_false hz] at hS
    exact flat_out s.s0 s.s1 s.s2 s.s3 s.s4 s.s5 s.e0 s.e1 s.e2 s.n0 s.n1 s.n2 s.a0 s.a1 s.a2 s.a3 s.b0 s.b1 s.b2 s.b3 s.c0 s.c1 s.c2 s.c3 s.sz s.tri.ax s.tri.ay s.tri.bx s.tri.by' s.tri.cx s.tri.cy s.tri.d0 s.tri.d1 s.tri.d2 s.tri.n0 s.tri.n1 s.tri.n2 s.tri.a0 s.tri.a1 s.tri.a2 s.tri.a3 s.tri.b0 s.tri.b1 s.tri.b2 s.tri.b3 s.tri.c0 s.tri.c1 s.tri.c2 s.tri.c3 v0 v1 v2 v3 x y hS w
end Go.Proofs.Ytglehnmkdapnpaa

