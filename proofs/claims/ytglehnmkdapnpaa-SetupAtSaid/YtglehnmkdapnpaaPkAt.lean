/-
  DERIVED. SetupAt (made by mklaw13.py).
-/
import Derived.Test.YtglehnmkdapnpaaPkDep
import Derived.Test.YtglehnmkdapnpaaPkSm
import Derived.Test.YtglehnmkdapnpaaPkGs
namespace Go.Proofs.Ytglehnmkdapnpaa
open Go.RowKit
set_option linter.unusedVariables false
theorem mkA4 (u : World) : (Instr.alloc 29 true (.tuple #[])).run Try.prog u = .ok (.pointer (some ⟨u.heap.size, 0, none⟩)) (u.alloc (.cells #[.int .i64 0, .int .i64 0, .int .i64 0, .int .i64 0] 29)) := by
  simp [go_sem]
set_option maxRecDepth 100000 in
set_option maxHeartbeats 4000000 in
theorem at_no (s0 s1 s2 s3 s4 s5 e0 e1 e2 m0 m1 m2 oa0 oa1 oa2 oa3 ob0 ob1 ob2 ob3 oc0 oc1 oc2 oc3 sz ax ay bx by_ cx cy d0 d1 d2 n0 n1 n2 a0 a1 a2 a3 b0 b1 b2 b3 c0 c1 c2 c3 x y : Int) (hS : ∀ u, Calls Try.prog 18 #[.agg #[.int .i8 s0, .int .i8 s1, .int .i8 s2, .int .i8 s3, .int .i8 s4, .int .i8 s5, .int .u16 e0, .int .u16 e1, .int .u16 e2, .int .u16 m0, .int .u16 m1, .int .u16 m2, .int .u16 oa0, .int .u16 oa1, .int .u16 oa2, .int .u16 oa3, .int .u16 ob0, .int .u16 ob1, .int .u16 ob2, .int .u16 ob3, .int .u16 oc0, .int .u16 oc1, .int .u16 oc2, .int .u16 oc3, .int .u8 sz]] u fun e w' => e = .returned (.tuple #[.agg #[.int .i64 ax, .int .i64 ay, .int .i64 bx, .int .i64 by_, .int .i64 cx, .int .i64 cy, .int .i64 d0, .int .i64 d1, .int .i64 d2, .int .i64 n0, .int .i64 n1, .int .i64 n2, .int .i64 a0, .int .i64 a1, .int .i64 a2, .int .i64 a3, .int .i64 b0, .int .i64 b1, .int .i64 b2, .int .i64 b3, .int .i64 c0, .int .i64 c1, .int .i64 c2, .int .i64 c3], .bool false]) ∧ Ext u w') (w : World) :
    Calls Try.prog 4 #[.agg #[.int .i8 s0, .int .i8 s1, .int .i8 s2, .int .i8 s3, .int .i8 s4, .int .i8 s5, .int .u16 e0, .int .u16 e1, .int .u16 e2, .int .u16 m0, .int .u16 m1, .int .u16 m2, .int .u16 oa0, .int .u16 oa1, .int .u16 oa2, .int .u16 oa3, .int .u16 ob0, .int .u16 ob1, .int .u16 ob2, .int .u16 ob3, .int .u16 oc0, .int .u16 oc1, .int .u16 oc2, .int .u16 oc3, .int .u8 sz], .int .u8 x, .int .u8 y] w fun e w' => e = .returned (.bool true) ∧ Ext w w' := by
  have HS := Lib.hid hS
  clear hS
  have xx : Ext w (w.alloc (.cells #[.int .i8 s0, .int .i8 s1, .int .i8 s2, .int .i8 s3, .int .i8 s4, .int .i8 s5, .int .u16 e0, .int .u16 e1, .int .u16 e2, .int .u16 m0, .int .u16 m1, .int .u16 m2, .int .u16 oa0, .int .u16 oa1, .int .u16 oa2, .int .u16 oa3, .int .u16 ob0, .int .u16 ob1, .int .u16 ob2, .int .u16 ob3, .int .u16 oc0, .int .u16 oc1, .int .u16 oc2, .int .u16 oc3, .int .u8 sz] 75)) := ((Ext.refl w).alloc _ _)
  have B0 := (Blk.new w #[.int .i8 s0, .int .i8 s1, .int .i8 s2, .int .i8 s3, .int .i8 s4, .int .i8 s5, .int .u16 e0, .int .u16 e1, .int .u16 e2, .int .u16 m0, .int .u16 m1, .int .u16 m2, .int .u16 oa0, .int .u16 oa1, .int .u16 oa2, .int .u16 oa3, .int .u16 ob0, .int .u16 ob1, .int .u16 ob2, .int .u16 ob3, .int .u16 oc0, .int .u16 oc1, .int .u16 oc2, .int .u16 oc3, .int .u8 sz] 75)
  go_enter Try.func4, Try.ntmps4
  go_upto_region 1 with fail

  generalize (w.alloc (.cells #[.int .i8 s0, .int .i8 s1, .int .i8 s2, .int .i8 s3, .int .i8 s4, .int .i8 s5, .int .u16 e0, .int .u16 e1, .int .u16 e2, .int .u16 m0, .int .u16 m1, .int .u16 m2, .int .u16 oa0, .int .u16 oa1, .int .u16 oa2, .int .u16 oa3, .int .u16 ob0, .int .u16 ob1, .int .u16 ob2, .int .u16 ob3, .int .u16 oc0, .int .u16 oc1, .int .u16 oc2, .int .u16 oc3, .int .u8 sz] 75)) = w0 at *
  go_wp2_with fail
  refine (awake13_any _).mono ?_
  rintro e w1 ⟨rfl, x1⟩
  have xx := xx.trans x1
  have B0 := B0.ext x1
  clear x1
  go_wp2_with (first
    | ((with_reducible refine wpList_load_blk (op := ⟨some 20, _, _, _, _, _⟩) ?_ 75 (.tmp 3) ?_ (w.heap.size) ?_ (z := _) (T := 75) B0 Try.underlying75 ?_ ?_ ?_); rfl; rfl; rfl; rfl; kernel_rfl)
    | fail)
  refine (HS.out _).mono ?_
  rintro e w2 ⟨rfl, x1⟩
  have xx := xx.trans x1
  clear x1
  have B7 := (Blk.new w2 #[.int .i64 0, .int .i64 0, .int .i64 0, .int .i64 0, .int .i64 0, .int .i64 0, .int .i64 0, .int .i64 0, .int .i64 0, .int .i64 0, .int .i64 0, .int .i64 0, .int .i64 0, .int .i64 0, .int .i64 0, .int .i64 0, .int .i64 0, .int .i64 0, .int .i64 0, .int .i64 0, .int .i64 0, .int .i64 0, .int .i64 0, .int .i64 0] 55).setRow #[.int .i64 ax, .int .i64 ay, .int .i64 bx, .int .i64 by_, .int .i64 cx, .int .i64 cy, .int .i64 d0, .int .i64 d1, .int .i64 d2, .int .i64 n0, .int .i64 n1, .int .i64 n2, .int .i64 a0, .int .i64 a1, .int .i64 a2, .int .i64 a3, .int .i64 b0, .int .i64 b1, .int .i64 b2, .int .i64 b3, .int .i64 c0, .int .i64 c1, .int .i64 c2, .int .i64 c3]
  have y1 : Ext w2 ((w2.alloc (.cells #[.int .i64 0, .int .i64 0, .int .i64 0, .int .i64 0, .int .i64 0, .int .i64 0, .int .i64 0, .int .i64 0, .int .i64 0, .int .i64 0, .int .i64 0, .int .i64 0, .int .i64 0, .int .i64 0, .int .i64 0, .int .i64 0, .int .i64 0, .int .i64 0, .int .i64 0, .int .i64 0, .int .i64 0, .int .i64 0, .int .i64 0, .int .i64 0] 55)).setRow w2.heap.size #[.int .i64 ax, .int .i64 ay, .int .i64 bx, .int .i64 by_, .int .i64 cx, .int .i64 cy, .int .i64 d0, .int .i64 d1, .int .i64 d2, .int .i64 n0, .int .i64 n1, .int .i64 n2, .int .i64 a0, .int .i64 a1, .int .i64 a2, .int .i64 a3, .int .i64 b0, .int .i64 b1, .int .i64 b2, .int .i64 b3, .int .i64 c0, .int .i64 c1, .int .i64 c2, .int .i64 c3]) := ((Ext.refl _).alloc _ _).setRow (Nat.le_refl _) _
  have hb7 : w.heap.size ≤ w2.heap.size := xx.size
  go_upto_region 4 with (first
    | ((with_reducible refine wpList_store_blk (op := ⟨none, .store 55 (.tmp 7) (.tmp 22), _, _, _, _⟩) ?_ 55 (.tmp 7) (.tmp 22) ?_ (w2.heap.size) ?_ (cs := #[.int .i64 ax, .int .i64 ay, .int .i64 bx, .int .i64 by_, .int .i64 cx, .int .i64 cy, .int .i64 d0, .int .i64 d1, .int .i64 d2, .int .i64 n0, .int .i64 n1, .int .i64 n2, .int .i64 a0, .int .i64 a1, .int .i64 a2, .int .i64 a3, .int .i64 b0, .int .i64 b1, .int .i64 b2, .int .i64 b3, .int .i64 c0, .int .i64 c1, .int .i64 c2, .int .i64 c3]) ?_ (z := #[.int .i64 0, .int .i64 0, .int .i64 0, .int .i64 0, .int .i64 0, .int .i64 0, .int .i64 0, .int .i64 0, .int .i64 0, .int .i64 0, .int .i64 0, .int .i64 0, .int .i64 0, .int .i64 0, .int .i64 0, .int .i64 0, .int .i64 0, .int .i64 0, .int .i64 0, .int .i64 0, .int .i64 0, .int .i64 0, .int .i64 0, .int .i64 0]) (T := 55) ?_ ?_ ?_ ?_ ?_); rfl; rfl; rfl; rfl; exact Blk.new w2 _ _; kernel_rfl; kernel_rfl; kernel_rfl)
    | fail)
  try simp only [Act.put]
  have xx := xx.trans y1
  clear y1
  generalize (w2.alloc (.cells #[.int .i64 0, .int .i64 0, .int .i64 0, .int .i64 0, .int .i64 0, .int .i64 0, .int .i64 0, .int .i64 0, .int .i64 0, .int .i64 0, .int .i64 0, .int .i64 0, .int .i64 0, .int .i64 0, .int .i64 0, .int .i64 0, .int .i64 0, .int .i64 0, .int .i64 0, .int .i64 0, .int .i64 0, .int .i64 0, .int .i64 0, .int .i64 0] 55)).setRow w2.heap.size #[.int .i64 ax, .int .i64 ay, .int .i64 bx, .int .i64 by_, .int .i64 cx, .int .i64 cy, .int .i64 d0, .int .i64 d1, .int .i64 d2, .int .i64 n0, .int .i64 n1, .int .i64 n2, .int .i64 a0, .int .i64 a1, .int .i64 a2, .int .i64 a3, .int .i64 b0, .int .i64 b1, .int .i64 b2, .int .i64 b3, .int .i64 c0, .int .i64 c1, .int .i64 c2, .int .i64 c3] = w3 at *
  generalize hbe : w2.heap.size = b7 at *
  clear hbe
  clear B0 HS
  go_wp2_with fail
  go_ret
  exact ⟨rfl, xx⟩
set_option maxRecDepth 100000 in
set_option maxHeartbeats 4000000 in
theorem at_yes (s0 s1 s2 s3 s4 s5 e0 e1 e2 m0 m1 m2 oa0 oa1 oa2 oa3 ob0 ob1 ob2 ob3 oc0 oc1 oc2 oc3 sz ax ay bx by_ cx cy d0 d1 d2 n0 n1 n2 a0 a1 a2 a3 b0 b1 b2 b3 c0 c1 c2 c3 x y p1 q1 p2 q2 d k0 k1 k2 k3 d_ j0 j1 j2 j3 : Int) (i i_ : Bool) (hx1 : x.tmod 64 = p1) (hy1 : y.tmod 64 = q1) (hx2 : x.tmod 24 = p2) (hy2 : y.tmod 24 = q2) (bp1 : 0 ≤ p1 ∧ p1 ≤ 63) (bq1 : 0 ≤ q1 ∧ q1 ≤ 63) (bp2 : 0 ≤ p2 ∧ p2 ≤ 63) (bq2 : 0 ≤ q2 ∧ q2 ≤ 63)
    (hS : ∀ u, Calls Try.prog 18 #[.agg #[.int .i8 s0, .int .i8 s1, .int .i8 s2, .int .i8 s3, .int .i8 s4, .int .i8 s5, .int .u16 e0, .int .u16 e1, .int .u16 e2, .int .u16 m0, .int .u16 m1, .int .u16 m2, .int .u16 oa0, .int .u16 oa1, .int .u16 oa2, .int .u16 oa3, .int .u16 ob0, .int .u16 ob1, .int .u16 ob2, .int .u16 ob3, .int .u16 oc0, .int .u16 oc1, .int .u16 oc2, .int .u16 oc3, .int .u8 sz]] u fun e w' => e = .returned (.tuple #[.agg #[.int .i64 ax, .int .i64 ay, .int .i64 bx, .int .i64 by_, .int .i64 cx, .int .i64 cy, .int .i64 d0, .int .i64 d1, .int .i64 d2, .int .i64 n0, .int .i64 n1, .int .i64 n2, .int .i64 a0, .int .i64 a1, .int .i64 a2, .int .i64 a3, .int .i64 b0, .int .i64 b1, .int .i64 b2, .int .i64 b3, .int .i64 c0, .int .i64 c1, .int .i64 c2, .int .i64 c3], .bool true]) ∧ Ext u w') (hA1 : ∀ u, Calls Try.prog 19 #[.agg #[.int .i64 ax, .int .i64 ay, .int .i64 bx, .int .i64 by_, .int .i64 cx, .int .i64 cy, .int .i64 d0, .int .i64 d1, .int .i64 d2, .int .i64 n0, .int .i64 n1, .int .i64 n2, .int .i64 a0, .int .i64 a1, .int .i64 a2, .int .i64 a3, .int .i64 b0, .int .i64 b1, .int .i64 b2, .int .i64 b3, .int .i64 c0, .int .i64 c1, .int .i64 c2, .int .i64 c3], .int .i64 p1, .int .i64 q1] u fun e w' => e = .returned (.tuple #[.int .i64 d, .agg #[.int .i64 k0, .int .i64 k1, .int .i64 k2, .int .i64 k3], .bool i]) ∧ Ext u w') (hR1 : ∀ u, Calls Try.prog 20 #[.agg #[.int .i64 ax, .int .i64 ay, .int .i64 bx, .int .i64 by_, .int .i64 cx, .int .i64 cy, .int .i64 d0, .int .i64 d1, .int .i64 d2, .int .i64 n0, .int .i64 n1, .int .i64 n2, .int .i64 a0, .int .i64 a1, .int .i64 a2, .int .i64 a3, .int .i64 b0, .int .i64 b1, .int .i64 b2, .int .i64 b3, .int .i64 c0, .int .i64 c1, .int .i64 c2, .int .i64 c3], .int .i64 p1, .int .i64 q1] u fun e w' => e = .returned (.tuple #[.int .i64 d, .agg #[.int .i64 k0, .int .i64 k1, .int .i64 k2, .int .i64 k3], .bool i]) ∧ Ext u w') (hA2 : ∀ u, Calls Try.prog 19 #[.agg #[.int .i64 ax, .int .i64 ay, .int .i64 bx, .int .i64 by_, .int .i64 cx, .int .i64 cy, .int .i64 d0, .int .i64 d1, .int .i64 d2, .int .i64 n0, .int .i64 n1, .int .i64 n2, .int .i64 a0, .int .i64 a1, .int .i64 a2, .int .i64 a3, .int .i64 b0, .int .i64 b1, .int .i64 b2, .int .i64 b3, .int .i64 c0, .int .i64 c1, .int .i64 c2, .int .i64 c3], .int .i64 p2, .int .i64 q2] u fun e w' => e = .returned (.tuple #[.int .i64 d_, .agg #[.int .i64 j0, .int .i64 j1, .int .i64 j2, .int .i64 j3], .bool i_]) ∧ Ext u w') (hR2 : ∀ u, Calls Try.prog 20 #[.agg #[.int .i64 ax, .int .i64 ay, .int .i64 bx, .int .i64 by_, .int .i64 cx, .int .i64 cy, .int .i64 d0, .int .i64 d1, .int .i64 d2, .int .i64 n0, .int .i64 n1, .int .i64 n2, .int .i64 a0, .int .i64 a1, .int .i64 a2, .int .i64 a3, .int .i64 b0, .int .i64 b1, .int .i64 b2, .int .i64 b3, .int .i64 c0, .int .i64 c1, .int .i64 c2, .int .i64 c3], .int .i64 p2, .int .i64 q2] u fun e w' => e = .returned (.tuple #[.int .i64 d_, .agg #[.int .i64 j0, .int .i64 j1, .int .i64 j2, .int .i64 j3], .bool i_]) ∧ Ext u w')
    (hK : ∀ u, Calls Try.prog 17 #[.agg #[.int .i64 ax, .int .i64 ay, .int .i64 bx, .int .i64 by_, .int .i64 cx, .int .i64 cy, .int .i64 d0, .int .i64 d1, .int .i64 d2, .int .i64 n0, .int .i64 n1, .int .i64 n2, .int .i64 a0, .int .i64 a1, .int .i64 a2, .int .i64 a3, .int .i64 b0, .int .i64 b1, .int .i64 b2, .int .i64 b3, .int .i64 c0, .int .i64 c1, .int .i64 c2, .int .i64 c3]] u fun e w' => e = .returned (.int .i64 0) ∧ Ext u w') (w : World) :
    Calls Try.prog 4 #[.agg #[.int .i8 s0, .int .i8 s1, .int .i8 s2, .int .i8 s3, .int .i8 s4, .int .i8 s5, .int .u16 e0, .int .u16 e1, .int .u16 e2, .int .u16 m0, .int .u16 m1, .int .u16 m2, .int .u16 oa0, .int .u16 oa1, .int .u16 oa2, .int .u16 oa3, .int .u16 ob0, .int .u16 ob1, .int .u16 ob2, .int .u16 ob3, .int .u16 oc0, .int .u16 oc1, .int .u16 oc2, .int .u16 oc3, .int .u8 sz], .int .u8 x, .int .u8 y] w fun e w' => e = .returned (.bool true) ∧ Ext w w' := by
  have HS := Lib.hid hS
  have HA1 := Lib.hid hA1
  have HR1 := Lib.hid hR1
  have HA2 := Lib.hid hA2
  have HR2 := Lib.hid hR2
  have HK := Lib.hid hK
  clear hS hA1 hR1 hA2 hR2 hK
  have wr : ∀ z : Int, 0 ≤ z ∧ z ≤ 63 → IntKind.i64.wrap z = z := fun z hz => by rw [IntKind.wrap_i64]; omega
  have wp1 := wr p1 bp1
  have wp2 := wr q1 bq1
  have wp3 := wr p2 bp2
  have wp4 := wr q2 bq2
  clear wr
  have xx : Ext w (w.alloc (.cells #[.int .i8 s0, .int .i8 s1, .int .i8 s2, .int .i8 s3, .int .i8 s4, .int .i8 s5, .int .u16 e0, .int .u16 e1, .int .u16 e2, .int .u16 m0, .int .u16 m1, .int .u16 m2, .int .u16 oa0, .int .u16 oa1, .int .u16 oa2, .int .u16 oa3, .int .u16 ob0, .int .u16 ob1, .int .u16 ob2, .int .u16 ob3, .int .u16 oc0, .int .u16 oc1, .int .u16 oc2, .int .u16 oc3, .int .u8 sz] 75)) := ((Ext.refl w).alloc _ _)
  have B0 := (Blk.new w #[.int .i8 s0, .int .i8 s1, .int .i8 s2, .int .i8 s3, .int .i8 s4, .int .i8 s5, .int .u16 e0, .int .u16 e1, .int .u16 e2, .int .u16 m0, .int .u16 m1, .int .u16 m2, .int .u16 oa0, .int .u16 oa1, .int .u16 oa2, .int .u16 oa3, .int .u16 ob0, .int .u16 ob1, .int .u16 ob2, .int .u16 ob3, .int .u16 oc0, .int .u16 oc1, .int .u16 oc2, .int .u16 oc3, .int .u8 sz] 75)
  go_enter Try.func4, Try.ntmps4
  go_upto_region 1 with fail

  generalize (w.alloc (.cells #[.int .i8 s0, .int .i8 s1, .int .i8 s2, .int .i8 s3, .int .i8 s4, .int .i8 s5, .int .u16 e0, .int .u16 e1, .int .u16 e2, .int .u16 m0, .int .u16 m1, .int .u16 m2, .int .u16 oa0, .int .u16 oa1, .int .u16 oa2, .int .u16 oa3, .int .u16 ob0, .int .u16 ob1, .int .u16 ob2, .int .u16 ob3, .int .u16 oc0, .int .u16 oc1, .int .u16 oc2, .int .u16 oc3, .int .u8 sz] 75)) = w0 at *
  go_wp2_with fail
  refine (awake13_any _).mono ?_
  rintro e w1 ⟨rfl, x1⟩
  have xx := xx.trans x1
  have B0 := B0.ext x1
  clear x1
  go_wp2_with (first
    | ((with_reducible refine wpList_load_blk (op := ⟨some 20, _, _, _, _, _⟩) ?_ 75 (.tmp 3) ?_ (w.heap.size) ?_ (z := _) (T := 75) B0 Try.underlying75 ?_ ?_ ?_); rfl; rfl; rfl; rfl; kernel_rfl)
    | fail)
  refine (HS.out _).mono ?_
  rintro e w2 ⟨rfl, x1⟩
  have xx := xx.trans x1
  clear x1
  have B7 := (Blk.new w2 #[.int .i64 0, .int .i64 0, .int .i64 0, .int .i64 0, .int .i64 0, .int .i64 0, .int .i64 0, .int .i64 0, .int .i64 0, .int .i64 0, .int .i64 0, .int .i64 0, .int .i64 0, .int .i64 0, .int .i64 0, .int .i64 0, .int .i64 0, .int .i64 0, .int .i64 0, .int .i64 0, .int .i64 0, .int .i64 0, .int .i64 0, .int .i64 0] 55).setRow #[.int .i64 ax, .int .i64 ay, .int .i64 bx, .int .i64 by_, .int .i64 cx, .int .i64 cy, .int .i64 d0, .int .i64 d1, .int .i64 d2, .int .i64 n0, .int .i64 n1, .int .i64 n2, .int .i64 a0, .int .i64 a1, .int .i64 a2, .int .i64 a3, .int .i64 b0, .int .i64 b1, .int .i64 b2, .int .i64 b3, .int .i64 c0, .int .i64 c1, .int .i64 c2, .int .i64 c3]
  have y1 : Ext w2 ((w2.alloc (.cells #[.int .i64 0, .int .i64 0, .int .i64 0, .int .i64 0, .int .i64 0, .int .i64 0, .int .i64 0, .int .i64 0, .int .i64 0, .int .i64 0, .int .i64 0, .int .i64 0, .int .i64 0, .int .i64 0, .int .i64 0, .int .i64 0, .int .i64 0, .int .i64 0, .int .i64 0, .int .i64 0, .int .i64 0, .int .i64 0, .int .i64 0, .int .i64 0] 55)).setRow w2.heap.size #[.int .i64 ax, .int .i64 ay, .int .i64 bx, .int .i64 by_, .int .i64 cx, .int .i64 cy, .int .i64 d0, .int .i64 d1, .int .i64 d2, .int .i64 n0, .int .i64 n1, .int .i64 n2, .int .i64 a0, .int .i64 a1, .int .i64 a2, .int .i64 a3, .int .i64 b0, .int .i64 b1, .int .i64 b2, .int .i64 b3, .int .i64 c0, .int .i64 c1, .int .i64 c2, .int .i64 c3]) := ((Ext.refl _).alloc _ _).setRow (Nat.le_refl _) _
  have hb7 : w.heap.size ≤ w2.heap.size := xx.size
  go_upto_region 4 with (first
    | ((with_reducible refine wpList_store_blk (op := ⟨none, .store 55 (.tmp 7) (.tmp 22), _, _, _, _⟩) ?_ 55 (.tmp 7) (.tmp 22) ?_ (w2.heap.size) ?_ (cs := #[.int .i64 ax, .int .i64 ay, .int .i64 bx, .int .i64 by_, .int .i64 cx, .int .i64 cy, .int .i64 d0, .int .i64 d1, .int .i64 d2, .int .i64 n0, .int .i64 n1, .int .i64 n2, .int .i64 a0, .int .i64 a1, .int .i64 a2, .int .i64 a3, .int .i64 b0, .int .i64 b1, .int .i64 b2, .int .i64 b3, .int .i64 c0, .int .i64 c1, .int .i64 c2, .int .i64 c3]) ?_ (z := #[.int .i64 0, .int .i64 0, .int .i64 0, .int .i64 0, .int .i64 0, .int .i64 0, .int .i64 0, .int .i64 0, .int .i64 0, .int .i64 0, .int .i64 0, .int .i64 0, .int .i64 0, .int .i64 0, .int .i64 0, .int .i64 0, .int .i64 0, .int .i64 0, .int .i64 0, .int .i64 0, .int .i64 0, .int .i64 0, .int .i64 0, .int .i64 0]) (T := 55) ?_ ?_ ?_ ?_ ?_); rfl; rfl; rfl; rfl; exact Blk.new w2 _ _; kernel_rfl; kernel_rfl; kernel_rfl)
    | fail)
  try simp only [Act.put]
  have xx := xx.trans y1
  clear y1
  generalize (w2.alloc (.cells #[.int .i64 0, .int .i64 0, .int .i64 0, .int .i64 0, .int .i64 0, .int .i64 0, .int .i64 0, .int .i64 0, .int .i64 0, .int .i64 0, .int .i64 0, .int .i64 0, .int .i64 0, .int .i64 0, .int .i64 0, .int .i64 0, .int .i64 0, .int .i64 0, .int .i64 0, .int .i64 0, .int .i64 0, .int .i64 0, .int .i64 0, .int .i64 0] 55)).setRow w2.heap.size #[.int .i64 ax, .int .i64 ay, .int .i64 bx, .int .i64 by_, .int .i64 cx, .int .i64 cy, .int .i64 d0, .int .i64 d1, .int .i64 d2, .int .i64 n0, .int .i64 n1, .int .i64 n2, .int .i64 a0, .int .i64 a1, .int .i64 a2, .int .i64 a3, .int .i64 b0, .int .i64 b1, .int .i64 b2, .int .i64 b3, .int .i64 c0, .int .i64 c1, .int .i64 c2, .int .i64 c3] = w3 at *
  generalize hbe : w2.heap.size = b7 at *
  clear hbe
  clear B0 HS
  go_upto_region 7 with fail
  have yS : Ext w3 (w3.alloc (.cells #[.int .i64 p1, .int .i64 q1, .int .i64 p2, .int .i64 q2] 37)) := (Ext.refl _).alloc _ _
  have BS := Blk.new w3 #[.int .i64 p1, .int .i64 q1, .int .i64 p2, .int .i64 q2] 37
  have xx := xx.trans yS
  have B7 := B7.ext yS
  clear yS
  generalize w3.alloc (.cells #[.int .i64 p1, .int .i64 q1, .int .i64 p2, .int .i64 q2] 37) = w4 at *
  generalize hbe : w3.heap.size = bS at *
  clear hbe
  refine wp_loop_rounds 3 ?_
  rw [rounds_succ]
  have RS := Lib.hid (BS.mid13 0 [.int .i64 p1, .int .i64 q1] rfl)
  have B10 := (Blk.new w4 #[.int .i64 0, .int .i64 0] 37).setRow #[.int .i64 p1, .int .i64 q1]
  have y1 : Ext w4 ((w4.alloc (.cells #[.int .i64 0, .int .i64 0] 37)).setRow w4.heap.size #[.int .i64 p1, .int .i64 q1]) := ((Ext.refl _).alloc _ _).setRow (Nat.le_refl _) _
  go_upto_region 9 with (first
    | ((with_reducible refine wpList_load_mid (op := ⟨some 45, _, _, _, _, _⟩) ?_ 37 (.tmp 44) ?_ bS 0 ?_ [.int .i64 p1, .int .i64 q1] _ RS.out Try.underlying37 ?_ ?_ ?_); rfl; rfl; rfl; rfl; kernel_rfl)
    | ((with_reducible refine wpList_store_blk (op := ⟨none, .store 37 (.tmp 10) (.tmp 45), _, _, _, _⟩) ?_ 37 (.tmp 10) (.tmp 45) ?_ (w4.heap.size) ?_ (cs := #[.int .i64 p1, .int .i64 q1]) ?_ (z := #[.int .i64 0, .int .i64 0]) (T := 37) ?_ ?_ ?_ ?_ ?_); rfl; rfl; rfl; rfl; exact Blk.new w4 _ _; kernel_rfl; kernel_rfl; kernel_rfl)
    | fail)
  try simp only [Act.put]
  have xx := xx.trans y1
  have B7 := B7.ext y1
  have BS := BS.ext y1
  clear y1
  generalize (w4.alloc (.cells #[.int .i64 0, .int .i64 0] 37)).setRow w4.heap.size #[.int .i64 p1, .int .i64 q1] = wa0 at *
  generalize hbe : w4.heap.size = b100 at *
  clear hbe
  clear RS
  have c10 := B10.cell
  go_wp2_with (first
    | ((with_reducible refine wpList_load_blk (op := ⟨some 47, _, _, _, _, _⟩) ?_ 55 (.tmp 7) ?_ (b7) ?_ (z := _) (T := 55) B7 Try.underlying55 ?_ ?_ ?_); rfl; rfl; rfl; rfl; kernel_rfl)
    | fail)
  clear c10
  refine (HA1.out _).mono ?_
  rintro e wb0 ⟨rfl, x1⟩
  have xx := xx.trans x1
  have B7 := B7.ext x1
  have BS := BS.ext x1
  have B10 := B10.ext x1
  clear x1
  have B12 := (Blk.new wb0 #[.int .i64 0, .int .i64 0, .int .i64 0, .int .i64 0] 30).setRow #[.int .i64 k0, .int .i64 k1, .int .i64 k2, .int .i64 k3]
  have y1 : Ext wb0 ((wb0.alloc (.cells #[.int .i64 0, .int .i64 0, .int .i64 0, .int .i64 0] 30)).setRow wb0.heap.size #[.int .i64 k0, .int .i64 k1, .int .i64 k2, .int .i64 k3]) := ((Ext.refl _).alloc _ _).setRow (Nat.le_refl _) _
  go_upto_region 10 with (first
    | ((with_reducible refine wpList_store_blk (op := ⟨none, .store 30 (.tmp 12) (.tmp 54), _, _, _, _⟩) ?_ 30 (.tmp 12) (.tmp 54) ?_ (wb0.heap.size) ?_ (cs := #[.int .i64 k0, .int .i64 k1, .int .i64 k2, .int .i64 k3]) ?_ (z := #[.int .i64 0, .int .i64 0, .int .i64 0, .int .i64 0]) (T := 30) ?_ ?_ ?_ ?_ ?_); rfl; rfl; rfl; rfl; exact Blk.new wb0 _ _; kernel_rfl; kernel_rfl; kernel_rfl)
    | fail)
  try simp only [Act.put]
  have xx := xx.trans y1
  have B7 := B7.ext y1
  have BS := BS.ext y1
  have B10 := B10.ext y1
  clear y1
  generalize (wb0.alloc (.cells #[.int .i64 0, .int .i64 0, .int .i64 0, .int .i64 0] 30)).setRow wb0.heap.size #[.int .i64 k0, .int .i64 k1, .int .i64 k2, .int .i64 k3] = wc0 at *
  generalize hbe : wb0.heap.size = b120 at *
  clear hbe
  apply wp_region_vars [false, false, false, false, false, false, false, false, false, false, false, true, false, true, false] [] [⟨some 11, 15, 0, some 13, 29, #[.int .i64 0, .int .i64 0, .int .i64 0, .int .i64 0], #[.int .i64 k0, .int .i64 k1, .int .i64 k2, .int .i64 k3]⟩] _ (by kernel_rfl) (by kernel_rfl) (by kernel_rfl)
  case H =>
    intro x0 hx
    have hne : Nonempty (Wx x0) := ⟨⟨x0, Ext.refl x0⟩⟩
    have kB7 := fun (y : Wx x0) => (B7.calm hx (by simp)).ext y.ext
    have qB7 := fun (y : Wx x0) => ((B7.calm hx (by simp)).ext y.ext).cell
    have kB10 := fun (y : Wx x0) => (B10.calm hx (by simp)).ext y.ext
    have qB10 := fun (y : Wx x0) => ((B10.calm hx (by simp)).ext y.ext).cell
    simp only [eraseM]
    repeat (first
      | (go_big_quiet_want; (with_reducible refine quiet_load_blk (op := ⟨some 57, _, _, _, _, _⟩) 55 (.tmp 7) ?_ b7 ?_ (z := #[.int .i64 ax, .int .i64 ay, .int .i64 bx, .int .i64 by_, .int .i64 cx, .int .i64 cy, .int .i64 d0, .int .i64 d1, .int .i64 d2, .int .i64 n0, .int .i64 n1, .int .i64 n2, .int .i64 a0, .int .i64 a1, .int .i64 a2, .int .i64 a3, .int .i64 b0, .int .i64 b1, .int .i64 b2, .int .i64 b3, .int .i64 c0, .int .i64 c1, .int .i64 c2, .int .i64 c3]) (T := 55) ?_ Try.underlying55 ?_ ?_ ?_); rfl; rfl; exact (fun u hu => by obtain ⟨y, rfl⟩ := hu; exact kB7 y); rfl; kernel_rfl; simp only [Act.put, List.setIfInBounds_toArray, List.set_cons_succ, List.set_cons_zero]; go_big_quiet_on)
      | go_big_quiet_step (first | (go_at_call 16; with_reducible exact calm_of (ref13_any _ _ _ _ _ _ _ _ _ _ _ _ _ _ _ _ _ _ _ _ _ _ _ _ _)) | (go_at_call 20; with_reducible exact calm_of (HR1.out _))))
    exact wpQuiet_nil rfl
  case hok =>
    simp only [List.forall_mem_cons, List.not_mem_nil, false_implies, implies_true, and_true]
    exact tgt_fresh (by simp) rfl rfl mkA4 rfl rfl rfl rfl (by kernel_rfl) (by kernel_rfl) rfl
  case hdis =>
    intro k k' t t' hk hk' _ ha
    exfalso
    have := List.mem_of_getElem? hk
    simp only [List.mem_cons, List.not_mem_nil, or_false] at this
    rcases this with rfl <;> cases ha
  rintro wd0 f hw ⟨zk0, zl0, zd0, zu0, -⟩
  have xx := xx.trans hw.ext
  simp only [pairs, putAll, Option.isSome_some, if_true, Act.put, List.setIfInBounds_toArray, List.set_cons_succ, List.set_cons_zero]
  generalize f 0 = b150 at *
  have B15 : Blk wd0 b150 #[.int .i64 k0, .int .i64 k1, .int .i64 k2, .int .i64 k3] 29 := zd0
  have B7 := B7.ext hw.ext
  have BS := BS.ext hw.ext
  have B12 := B12.ext hw.ext
  clear zk0 zl0 zd0 zu0 hw
  have c12 := B12.cell
  have c15 := B15.cell
  have hq := eqV k0 k1 k2 k3 wd0
  clear B10
  go_wp2_with fail
  clear c12 c15 hq B12 B15 HA1 HR1
  rw [rounds_succ]
  have RS := Lib.hid (BS.mid13 2 [.int .i64 p2, .int .i64 q2] rfl)
  have B10 := (Blk.new wd0 #[.int .i64 0, .int .i64 0] 37).setRow #[.int .i64 p2, .int .i64 q2]
  have y1 : Ext wd0 ((wd0.alloc (.cells #[.int .i64 0, .int .i64 0] 37)).setRow wd0.heap.size #[.int .i64 p2, .int .i64 q2]) := ((Ext.refl _).alloc _ _).setRow (Nat.le_refl _) _
  go_upto_region 9 with (first
    | ((with_reducible refine wpList_load_mid (op := ⟨some 45, _, _, _, _, _⟩) ?_ 37 (.tmp 44) ?_ bS 2 ?_ [.int .i64 p2, .int .i64 q2] _ RS.out Try.underlying37 ?_ ?_ ?_); rfl; rfl; rfl; rfl; kernel_rfl)
    | ((with_reducible refine wpList_store_blk (op := ⟨none, .store 37 (.tmp 10) (.tmp 45), _, _, _, _⟩) ?_ 37 (.tmp 10) (.tmp 45) ?_ (wd0.heap.size) ?_ (cs := #[.int .i64 p2, .int .i64 q2]) ?_ (z := #[.int .i64 0, .int .i64 0]) (T := 37) ?_ ?_ ?_ ?_ ?_); rfl; rfl; rfl; rfl; exact Blk.new wd0 _ _; kernel_rfl; kernel_rfl; kernel_rfl)
    | fail)
  try simp only [Act.put]
  have xx := xx.trans y1
  have B7 := B7.ext y1
  have BS := BS.ext y1
  clear y1
  generalize (wd0.alloc (.cells #[.int .i64 0, .int .i64 0] 37)).setRow wd0.heap.size #[.int .i64 p2, .int .i64 q2] = wa1 at *
  generalize hbe : wd0.heap.size = b101 at *
  clear hbe
  clear RS
  have c10 := B10.cell
  go_wp2_with (first
    | ((with_reducible refine wpList_load_blk (op := ⟨some 47, _, _, _, _, _⟩) ?_ 55 (.tmp 7) ?_ (b7) ?_ (z := _) (T := 55) B7 Try.underlying55 ?_ ?_ ?_); rfl; rfl; rfl; rfl; kernel_rfl)
    | fail)
  clear c10
  refine (HA2.out _).mono ?_
  rintro e wb1 ⟨rfl, x1⟩
  have xx := xx.trans x1
  have B7 := B7.ext x1
  have BS := BS.ext x1
  have B10 := B10.ext x1
  clear x1
  have B12 := (Blk.new wb1 #[.int .i64 0, .int .i64 0, .int .i64 0, .int .i64 0] 30).setRow #[.int .i64 j0, .int .i64 j1, .int .i64 j2, .int .i64 j3]
  have y1 : Ext wb1 ((wb1.alloc (.cells #[.int .i64 0, .int .i64 0, .int .i64 0, .int .i64 0] 30)).setRow wb1.heap.size #[.int .i64 j0, .int .i64 j1, .int .i64 j2, .int .i64 j3]) := ((Ext.refl _).alloc _ _).setRow (Nat.le_refl _) _
  go_upto_region 10 with (first
    | ((with_reducible refine wpList_store_blk (op := ⟨none, .store 30 (.tmp 12) (.tmp 54), _, _, _, _⟩) ?_ 30 (.tmp 12) (.tmp 54) ?_ (wb1.heap.size) ?_ (cs := #[.int .i64 j0, .int .i64 j1, .int .i64 j2, .int .i64 j3]) ?_ (z := #[.int .i64 0, .int .i64 0, .int .i64 0, .int .i64 0]) (T := 30) ?_ ?_ ?_ ?_ ?_); rfl; rfl; rfl; rfl; exact Blk.new wb1 _ _; kernel_rfl; kernel_rfl; kernel_rfl)
    | fail)
  try simp only [Act.put]
  have xx := xx.trans y1
  have B7 := B7.ext y1
  have BS := BS.ext y1
  have B10 := B10.ext y1
  clear y1
  generalize (wb1.alloc (.cells #[.int .i64 0, .int .i64 0, .int .i64 0, .int .i64 0] 30)).setRow wb1.heap.size #[.int .i64 j0, .int .i64 j1, .int .i64 j2, .int .i64 j3] = wc1 at *
  generalize hbe : wb1.heap.size = b121 at *
  clear hbe
  apply wp_region_vars [false, false, false, false, false, false, false, false, false, false, false, true, false, true, false] [] [⟨some 11, 15, 0, some 13, 29, #[.int .i64 0, .int .i64 0, .int .i64 0, .int .i64 0], #[.int .i64 j0, .int .i64 j1, .int .i64 j2, .int .i64 j3]⟩] _ (by kernel_rfl) (by kernel_rfl) (by kernel_rfl)
  case H =>
    intro x0 hx
    have hne : Nonempty (Wx x0) := ⟨⟨x0, Ext.refl x0⟩⟩
    have kB7 := fun (y : Wx x0) => (B7.calm hx (by simp)).ext y.ext
    have qB7 := fun (y : Wx x0) => ((B7.calm hx (by simp)).ext y.ext).cell
    have kB10 := fun (y : Wx x0) => (B10.calm hx (by simp)).ext y.ext
    have qB10 := fun (y : Wx x0) => ((B10.calm hx (by simp)).ext y.ext).cell
    simp only [eraseM]
    repeat (first
      | (go_big_quiet_want; (with_reducible refine quiet_load_blk (op := ⟨some 57, _, _, _, _, _⟩) 55 (.tmp 7) ?_ b7 ?_ (z := #[.int .i64 ax, .int .i64 ay, .int .i64 bx, .int .i64 by_, .int .i64 cx, .int .i64 cy, .int .i64 d0, .int .i64 d1, .int .i64 d2, .int .i64 n0, .int .i64 n1, .int .i64 n2, .int .i64 a0, .int .i64 a1, .int .i64 a2, .int .i64 a3, .int .i64 b0, .int .i64 b1, .int .i64 b2, .int .i64 b3, .int .i64 c0, .int .i64 c1, .int .i64 c2, .int .i64 c3]) (T := 55) ?_ Try.underlying55 ?_ ?_ ?_); rfl; rfl; exact (fun u hu => by obtain ⟨y, rfl⟩ := hu; exact kB7 y); rfl; kernel_rfl; simp only [Act.put, List.setIfInBounds_toArray, List.set_cons_succ, List.set_cons_zero]; go_big_quiet_on)
      | go_big_quiet_step (first | (go_at_call 16; with_reducible exact calm_of (ref13_any _ _ _ _ _ _ _ _ _ _ _ _ _ _ _ _ _ _ _ _ _ _ _ _ _)) | (go_at_call 20; with_reducible exact calm_of (HR2.out _))))
    exact wpQuiet_nil rfl
  case hok =>
    simp only [List.forall_mem_cons, List.not_mem_nil, false_implies, implies_true, and_true]
    exact tgt_fresh (by simp) rfl rfl mkA4 rfl rfl rfl rfl (by kernel_rfl) (by kernel_rfl) rfl
  case hdis =>
    intro k k' t t' hk hk' _ ha
    exfalso
    have := List.mem_of_getElem? hk
    simp only [List.mem_cons, List.not_mem_nil, or_false] at this
    rcases this with rfl <;> cases ha
  rintro wd1 f hw ⟨zk0, zl0, zd0, zu0, -⟩
  have xx := xx.trans hw.ext
  simp only [pairs, putAll, Option.isSome_some, if_true, Act.put, List.setIfInBounds_toArray, List.set_cons_succ, List.set_cons_zero]
  generalize f 0 = b151 at *
  have B15 : Blk wd1 b151 #[.int .i64 j0, .int .i64 j1, .int .i64 j2, .int .i64 j3] 29 := zd0
  have B7 := B7.ext hw.ext
  have BS := BS.ext hw.ext
  have B12 := B12.ext hw.ext
  clear zk0 zl0 zd0 zu0 hw
  have c12 := B12.cell
  have c15 := B15.cell
  have hq := eqV j0 j1 j2 j3 wd1
  clear B10
  go_wp2_with fail
  clear c12 c15 hq B12 B15 HA2 HR2
  rw [rounds_succ]
  go_wp2_with (first
    | ((with_reducible refine wpList_load_blk (op := ⟨some 81, _, _, _, _, _⟩) ?_ 55 (.tmp 7) ?_ (b7) ?_ (z := _) (T := 55) B7 Try.underlying55 ?_ ?_ ?_); rfl; rfl; rfl; rfl; kernel_rfl)
    | fail)
  refine (HK.out _).mono ?_
  rintro e we ⟨rfl, x1⟩
  have xx := xx.trans x1
  clear x1
  go_wp2
  go_ret
  exact ⟨rfl, xx⟩
set_option maxRecDepth 100000 in
theorem setupAt_row (s : S13) (x y : Int) (hs : s.ok) (hx : 0 ≤ x ∧ x ≤ 255) (hy : 0 ≤ y ∧ y ≤ 255) (w : World) :
    Calls Try.prog 4 #[.agg s.l.toArray, .int .u8 x, .int .u8 y] w fun e w' => e = .returned (.bool true) ∧ Ext w w' := by
  have hS := fun u => small13_any s hs u
  by_cases hz : 0 < s.tri.area
  · rw [decide_eq_true hz] at hS
    have hc := hs.chk hz
    have p1 := tm_bd (m := 64) hx.1 (by omega)
    have q1 := tm_bd (m := 64) hy.1 (by omega)
    have p2 := tm_bd (m := 24) hx.1 (by omega)
    have q2 := tm_bd (m := 24) hy.1 (by omega)
    have i1 : I64 (x.tmod 64) := by unfold I64; omega
    have i2 : I64 (y.tmod 64) := by unfold I64; omega
    have i3 : I64 (x.tmod 24) := by unfold I64; omega
    have i4 : I64 (y.tmod 24) := by unfold I64; omega
    have hK := fun u => checkT_any s.tri (rng_in64 hs.tri) u
    rw [hc] at hK
    exact at_yes s.s0 s.s1 s.s2 s.s3 s.s4 s.s5 s.e0 s.e1 s.e2 s.n0 s.n1 s.n2 s.a0 s.a1 s.a2 s.a3 s.b0 s.b1 s.b2 s.b3 s.c0 s.c1 s.c2 s.c3 s.sz s.tri.ax s.tri.ay s.tri.bx s.tri.by' s.tri.cx s.tri.cy s.tri.d0 s.tri.d1 s.tri.d2 s.tri.n0 s.tri.n1 s.tri.n2 s.tri.a0 s.tri.a1 s.tri.a2 s.tri.a3 s.tri.b0 s.tri.b1 s.tri.b2 s.tri.b3 s.tri.c0 s.tri.c1 s.tri.c2 s.tri.c3 x y (x.tmod 64) (y.tmod 64) (x.tmod 24) (y.tmod 24) (atF s.tri (x.tmod 64) (y.tmod 64)).d (atF s.tri (x.tmod 64) (y.tmod 64)).c0 (atF s.tri (x.tmod 64) (y.tmod 64)).c1 (atF s.tri (x.tmod 64) (y.tmod 64)).c2 (atF s.tri (x.tmod 64) (y.tmod 64)).c3 (atF s.tri (x.tmod 24) (y.tmod 24)).d (atF s.tri (x.tmod 24) (y.tmod 24)).c0 (atF s.tri (x.tmod 24) (y.tmod 24)).c1 (atF s.tri (x.tmod 24) (y.tmod 24)).c2 (atF s.tri (x.tmod 24) (y.tmod 24)).c3 (atF s.tri (x.tmod 64) (y.tmod 64)).is (atF s.tri (x.tmod 24) (y.tmod 24)).is rfl rfl rfl rfl ⟨p1.1, by omega⟩ ⟨q1.1, by omega⟩ ⟨p2.1, by omega⟩ ⟨q2.1, by omega⟩
      hS (fun u => atT_any s.tri (rng_in64 hs.tri) _ _ i1 i2 u) (fun u => rat_any s.tri hc _ _ ⟨p1.1, by omega⟩ ⟨q1.1, by omega⟩ u) (fun u => atT_any s.tri (rng_in64 hs.tri) _ _ i3 i4 u) (fun u => rat_any s.tri hc _ _ ⟨p2.1, by omega⟩ ⟨q2.1, by omega⟩ u) hK w
  · rw [decide_eq_false hz] at hS
    exact at_no s.s0 s.s1 s.s2 s.s3 s.s4 s.s5 s.e0 s.e1 s.e2 s.n0 s.n1 s.n2 s.a0 s.a1 s.a2 s.a3 s.b0 s.b1 s.b2 s.b3 s.c0 s.c1 s.c2 s.c3 s.sz s.tri.ax s.tri.ay s.tri.bx s.tri.by' s.tri.cx s.tri.cy s.tri.d0 s.tri.d1 s.tri.d2 s.tri.n0 s.tri.n1 s.tri.n2 s.tri.a0 s.tri.a1 s.tri.a2 s.tri.a3 s.tri.b0 s.tri.b1 s.tri.b2 s.tri.b3 s.tri.c0 s.tri.c1 s.tri.c2 s.tri.c3 x y hS w
end Go.Proofs.Ytglehnmkdapnpaa

