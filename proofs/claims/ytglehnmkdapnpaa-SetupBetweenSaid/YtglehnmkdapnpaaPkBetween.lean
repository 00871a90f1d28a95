/-
  DERIVED. SetupBetween (made by mklaw13.py).
-/
import Derived.Test.YtglehnmkdapnpaaPkDep
import Derived.Test.YtglehnmkdapnpaaPkSm
import Derived.Test.YtglehnmkdapnpaaPkGs
import Derived.Test.YtglehnmkdapnpaaPkFix
namespace Go.Proofs.Ytglehnmkdapnpaa
open Go.RowKit
set_option linter.unusedVariables false
set_option maxRecDepth 100000 in
set_option maxHeartbeats 4000000 in
theorem btw_out_true (s0 s1 s2 s3 s4 s5 e0 e1 e2 m0 m1 m2 oa0 oa1 oa2 oa3 ob0 ob1 ob2 ob3 oc0 oc1 oc2 oc3 sz ax ay bx by_ cx cy d0 d1 d2 n0 n1 n2 a0 a1 a2 a3 b0 b1 b2 b3 c0 c1 c2 c3 x y p1 q1 d k0 k1 k2 k3 : Int) (hx1 : x.tmod 32 = p1) (hy1 : y.tmod 32 = q1) (bp1 : 0 ≤ p1 ∧ p1 ≤ 63) (bq1 : 0 ≤ q1 ∧ q1 ≤ 63) (hS : ∀ u, Calls Try.prog 18 #[.agg #[.int .i8 s0, .int .i8 s1, .int .i8 s2, .int .i8 s3, .int .i8 s4, .int .i8 s5, .int .u16 e0, .int .u16 e1, .int .u16 e2, .int .u16 m0, .int .u16 m1, .int .u16 m2, .int .u16 oa0, .int .u16 oa1, .int .u16 oa2, .int .u16 oa3, .int .u16 ob0, .int .u16 ob1, .int .u16 ob2, .int .u16 ob3, .int .u16 oc0, .int .u16 oc1, .int .u16 oc2, .int .u16 oc3, .int .u8 sz]] u fun e w' => e = .returned (.tuple #[.agg #[.int .i64 ax, .int .i64 ay, .int .i64 bx, .int .i64 by_, .int .i64 cx, .int .i64 cy, .int .i64 d0, .int .i64 d1, .int .i64 d2, .int .i64 n0, .int .i64 n1, .int .i64 n2, .int .i64 a0, .int .i64 a1, .int .i64 a2, .int .i64 a3, .int .i64 b0, .int .i64 b1, .int .i64 b2, .int .i64 b3, .int .i64 c0, .int .i64 c1, .int .i64 c2, .int .i64 c3], .bool true]) ∧ Ext u w') (hA : ∀ u, Calls Try.prog 19 #[.agg #[.int .i64 ax, .int .i64 ay, .int .i64 bx, .int .i64 by_, .int .i64 cx, .int .i64 cy, .int .i64 d0, .int .i64 d1, .int .i64 d2, .int .i64 n0, .int .i64 n1, .int .i64 n2, .int .i64 a0, .int .i64 a1, .int .i64 a2, .int .i64 a3, .int .i64 b0, .int .i64 b1, .int .i64 b2, .int .i64 b3, .int .i64 c0, .int .i64 c1, .int .i64 c2, .int .i64 c3], .int .i64 p1, .int .i64 q1] u fun e w' => e = .returned (.tuple #[.int .i64 d, .agg #[.int .i64 k0, .int .i64 k1, .int .i64 k2, .int .i64 k3], .bool false]) ∧ Ext u w') (w : World) :
    Calls Try.prog 5 #[.agg #[.int .i8 s0, .int .i8 s1, .int .i8 s2, .int .i8 s3, .int .i8 s4, .int .i8 s5, .int .u16 e0, .int .u16 e1, .int .u16 e2, .int .u16 m0, .int .u16 m1, .int .u16 m2, .int .u16 oa0, .int .u16 oa1, .int .u16 oa2, .int .u16 oa3, .int .u16 ob0, .int .u16 ob1, .int .u16 ob2, .int .u16 ob3, .int .u16 oc0, .int .u16 oc1, .int .u16 oc2, .int .u16 oc3, .int .u8 sz], .int .u8 x, .int .u8 y] w fun e w' => e = .returned (.bool true) ∧ Ext w w' := by
  have HS := Lib.hid hS
  have HA := Lib.hid hA
  clear hS hA
  have wr : ∀ z : Int, 0 ≤ z ∧ z ≤ 63 → IntKind.i64.wrap z = z := fun z hz => by rw [IntKind.wrap_i64]; omega
  have wp1 := wr p1 bp1
  have wp2 := wr q1 bq1
  clear wr
  have xx : Ext w (w.alloc (.cells #[.int .i8 s0, .int .i8 s1, .int .i8 s2, .int .i8 s3, .int .i8 s4, .int .i8 s5, .int .u16 e0, .int .u16 e1, .int .u16 e2, .int .u16 m0, .int .u16 m1, .int .u16 m2, .int .u16 oa0, .int .u16 oa1, .int .u16 oa2, .int .u16 oa3, .int .u16 ob0, .int .u16 ob1, .int .u16 ob2, .int .u16 ob3, .int .u16 oc0, .int .u16 oc1, .int .u16 oc2, .int .u16 oc3, .int .u8 sz] 75)) := ((Ext.refl w).alloc _ _)
  have B0 := (Blk.new w #[.int .i8 s0, .int .i8 s1, .int .i8 s2, .int .i8 s3, .int .i8 s4, .int .i8 s5, .int .u16 e0, .int .u16 e1, .int .u16 e2, .int .u16 m0, .int .u16 m1, .int .u16 m2, .int .u16 oa0, .int .u16 oa1, .int .u16 oa2, .int .u16 oa3, .int .u16 ob0, .int .u16 ob1, .int .u16 ob2, .int .u16 ob3, .int .u16 oc0, .int .u16 oc1, .int .u16 oc2, .int .u16 oc3, .int .u8 sz] 75)
  go_enter Try.func5, Try.ntmps5
  go_upto_region 1 with fail

  generalize (w.alloc (.cells #[.int .i8 s0, .int .i8 s1, .int .i8 s2, .int .i8 s3, .int .i8 s4, .int .i8 s5, .int .u16 e0, .int .u16 e1, .int .u16 e2, .int .u16 m0, .int .u16 m1, .int .u16 m2, .int .u16 oa0, .int .u16 oa1, .int .u16 oa2, .int .u16 oa3, .int .u16 ob0, .int .u16 ob1, .int .u16 ob2, .int .u16 ob3, .int .u16 oc0, .int .u16 oc1, .int .u16 oc2, .int .u16 oc3, .int .u8 sz] 75)) = w0 at *
  go_wp2_with fail
  refine (awake13_any _).mono ?_
  rintro e w1 ⟨rfl, x1⟩
  have xx := xx.trans x1
  have B0 := B0.ext x1
  clear x1
  go_wp2_with (first
    | ((with_reducible refine wpList_load_blk (op := ⟨some 19, _, _, _, _, _⟩) ?_ 75 (.tmp 3) ?_ (w.heap.size) ?_ (z := _) (T := 75) B0 Try.underlying75 ?_ ?_ ?_); rfl; rfl; rfl; rfl; kernel_rfl)
    | fail)
  refine (HS.out _).mono ?_
  rintro e w2 ⟨rfl, x1⟩
  have xx := xx.trans x1
  clear x1
  have B7 := (Blk.new w2 #[.int .i64 0, .int .i64 0, .int .i64 0, .int .i64 0, .int .i64 0, .int .i64 0, .int .i64 0, .int .i64 0, .int .i64 0, .int .i64 0, .int .i64 0, .int .i64 0, .int .i64 0, .int .i64 0, .int .i64 0, .int .i64 0, .int .i64 0, .int .i64 0, .int .i64 0, .int .i64 0, .int .i64 0, .int .i64 0, .int .i64 0, .int .i64 0] 55).setRow #[.int .i64 ax, .int .i64 ay, .int .i64 bx, .int .i64 by_, .int .i64 cx, .int .i64 cy, .int .i64 d0, .int .i64 d1, .int .i64 d2, .int .i64 n0, .int .i64 n1, .int .i64 n2, .int .i64 a0, .int .i64 a1, .int .i64 a2, .int .i64 a3, .int .i64 b0, .int .i64 b1, .int .i64 b2, .int .i64 b3, .int .i64 c0, .int .i64 c1, .int .i64 c2, .int .i64 c3]
  have y1 : Ext w2 ((w2.alloc (.cells #[.int .i64 0, .int .i64 0, .int .i64 0, .int .i64 0, .int .i64 0, .int .i64 0, .int .i64 0, .int .i64 0, .int .i64 0, .int .i64 0, .int .i64 0, .int .i64 0, .int .i64 0, .int .i64 0, .int .i64 0, .int .i64 0, .int .i64 0, .int .i64 0, .int .i64 0, .int .i64 0, .int .i64 0, .int .i64 0, .int .i64 0, .int .i64 0] 55)).setRow w2.heap.size #[.int .i64 ax, .int .i64 ay, .int .i64 bx, .int .i64 by_, .int .i64 cx, .int .i64 cy, .int .i64 d0, .int .i64 d1, .int .i64 d2, .int .i64 n0, .int .i64 n1, .int .i64 n2, .int .i64 a0, .int .i64 a1, .int .i64 a2, .int .i64 a3, .int .i64 b0, .int .i64 b1, .int .i64 b2, .int .i64 b3, .int .i64 c0, .int .i64 c1, .int .i64 c2, .int .i64 c3]) := ((Ext.refl _).alloc _ _).setRow (Nat.le_refl _) _
  have hb7 : w.heap.size ≤ w2.heap.size := xx.size
  go_upto_region 4 with (first
    | ((with_reducible refine wpList_store_blk (op := ⟨none, .store 55 (.tmp 7) (.tmp 21), _, _, _, _⟩) ?_ 55 (.tmp 7) (.tmp 21) ?_ (w2.heap.size) ?_ (cs := #[.int .i64 ax, .int .i64 ay, .int .i64 bx, .int .i64 by_, .int .i64 cx, .int .i64 cy, .int .i64 d0, .int .i64 d1, .int .i64 d2, .int .i64 n0, .int .i64 n1, .int .i64 n2, .int .i64 a0, .int .i64 a1, .int .i64 a2, .int .i64 a3, .int .i64 b0, .int .i64 b1, .int .i64 b2, .int .i64 b3, .int .i64 c0, .int .i64 c1, .int .i64 c2, .int .i64 c3]) ?_ (z := #[.int .i64 0, .int .i64 0, .int .i64 0, .int .i64 0, .int .i64 0, .int .i64 0, .int .i64 0, .int .i64 0, .int .i64 0, .int .i64 0, .int .i64 0, .int .i64 0, .int .i64 0, .int .i64 0, .int .i64 0, .int .i64 0, .int .i64 0, .int .i64 0, .int .i64 0, .int .i64 0, .int .i64 0, .int .i64 0, .int .i64 0, .int .i64 0]) (T := 55) ?_ ?_ ?_ ?_ ?_); rfl; rfl; rfl; rfl; exact Blk.new w2 _ _; kernel_rfl; kernel_rfl; kernel_rfl)
    | fail)
  try simp only [Act.put]
  have xx := xx.trans y1
  clear y1
  generalize (w2.alloc (.cells #[.int .i64 0, .int .i64 0, .int .i64 0, .int .i64 0, .int .i64 0, .int .i64 0, .int .i64 0, .int .i64 0, .int .i64 0, .int .i64 0, .int .i64 0, .int .i64 0, .int .i64 0, .int .i64 0, .int .i64 0, .int .i64 0, .int .i64 0, .int .i64 0, .int .i64 0, .int .i64 0, .int .i64 0, .int .i64 0, .int .i64 0, .int .i64 0] 55)).setRow w2.heap.size #[.int .i64 ax, .int .i64 ay, .int .i64 bx, .int .i64 by_, .int .i64 cx, .int .i64 cy, .int .i64 d0, .int .i64 d1, .int .i64 d2, .int .i64 n0, .int .i64 n1, .int .i64 n2, .int .i64 a0, .int .i64 a1, .int .i64 a2, .int .i64 a3, .int .i64 b0, .int .i64 b1, .int .i64 b2, .int .i64 b3, .int .i64 c0, .int .i64 c1, .int .i64 c2, .int .i64 c3] = w3 at *
  generalize hbe : w2.heap.size = b7 at *
  clear hbe
  clear B0 HS
  go_wp2_with (first
    | ((with_reducible refine wpList_load_blk (op := ⟨some 24, _, _, _, _, _⟩) ?_ 55 (.tmp 7) ?_ (b7) ?_ (z := _) (T := 55) B7 Try.underlying55 ?_ ?_ ?_); rfl; rfl; rfl; rfl; kernel_rfl)
    | fail)
  refine (HA.out _).mono ?_
  rintro e w4 ⟨rfl, x1⟩
  have xx := xx.trans x1
  have B7 := B7.ext x1
  clear x1
  have B10 := (Blk.new w4 #[.int .i64 0, .int .i64 0, .int .i64 0, .int .i64 0] 30).setRow #[.int .i64 k0, .int .i64 k1, .int .i64 k2, .int .i64 k3]
  have y1 : Ext w4 ((w4.alloc (.cells #[.int .i64 0, .int .i64 0, .int .i64 0, .int .i64 0] 30)).setRow w4.heap.size #[.int .i64 k0, .int .i64 k1, .int .i64 k2, .int .i64 k3]) := ((Ext.refl _).alloc _ _).setRow (Nat.le_refl _) _
  go_upto_region 5 with (first
    | ((with_reducible refine wpList_store_blk (op := ⟨none, .store 30 (.tmp 10) (.tmp 33), _, _, _, _⟩) ?_ 30 (.tmp 10) (.tmp 33) ?_ (w4.heap.size) ?_ (cs := #[.int .i64 k0, .int .i64 k1, .int .i64 k2, .int .i64 k3]) ?_ (z := #[.int .i64 0, .int .i64 0, .int .i64 0, .int .i64 0]) (T := 30) ?_ ?_ ?_ ?_ ?_); rfl; rfl; rfl; rfl; exact Blk.new w4 _ _; kernel_rfl; kernel_rfl; kernel_rfl)
    | fail)
  try simp only [Act.put]
  have xx := xx.trans y1
  have B7 := B7.ext y1
  clear y1
  generalize (w4.alloc (.cells #[.int .i64 0, .int .i64 0, .int .i64 0, .int .i64 0] 30)).setRow w4.heap.size #[.int .i64 k0, .int .i64 k1, .int .i64 k2, .int .i64 k3] = w5 at *
  generalize hbe : w4.heap.size = b10 at *
  clear hbe
  clear B7 B10
  go_wp2_with fail
  go_ret
  exact ⟨rfl, xx⟩
set_option maxRecDepth 100000 in
set_option maxHeartbeats 4000000 in
theorem btw_out_false (s0 s1 s2 s3 s4 s5 e0 e1 e2 m0 m1 m2 oa0 oa1 oa2 oa3 ob0 ob1 ob2 ob3 oc0 oc1 oc2 oc3 sz ax ay bx by_ cx cy d0 d1 d2 n0 n1 n2 a0 a1 a2 a3 b0 b1 b2 b3 c0 c1 c2 c3 x y p1 q1 d k0 k1 k2 k3 : Int) (hx1 : x.tmod 32 = p1) (hy1 : y.tmod 32 = q1) (bp1 : 0 ≤ p1 ∧ p1 ≤ 63) (bq1 : 0 ≤ q1 ∧ q1 ≤ 63) (hS : ∀ u, Calls Try.prog 18 #[.agg #[.int .i8 s0, .int .i8 s1, .int .i8 s2, .int .i8 s3, .int .i8 s4, .int .i8 s5, .int .u16 e0, .int .u16 e1, .int .u16 e2, .int .u16 m0, .int .u16 m1, .int .u16 m2, .int .u16 oa0, .int .u16 oa1, .int .u16 oa2, .int .u16 oa3, .int .u16 ob0, .int .u16 ob1, .int .u16 ob2, .int .u16 ob3, .int .u16 oc0, .int .u16 oc1, .int .u16 oc2, .int .u16 oc3, .int .u8 sz]] u fun e w' => e = .returned (.tuple #[.agg #[.int .i64 ax, .int .i64 ay, .int .i64 bx, .int .i64 by_, .int .i64 cx, .int .i64 cy, .int .i64 d0, .int .i64 d1, .int .i64 d2, .int .i64 n0, .int .i64 n1, .int .i64 n2, .int .i64 a0, .int .i64 a1, .int .i64 a2, .int .i64 a3, .int .i64 b0, .int .i64 b1, .int .i64 b2, .int .i64 b3, .int .i64 c0, .int .i64 c1, .int .i64 c2, .int .i64 c3], .bool false]) ∧ Ext u w') (hA : ∀ u, Calls Try.prog 19 #[.agg #[.int .i64 ax, .int .i64 ay, .int .i64 bx, .int .i64 by_, .int .i64 cx, .int .i64 cy, .int .i64 d0, .int .i64 d1, .int .i64 d2, .int .i64 n0, .int .i64 n1, .int .i64 n2, .int .i64 a0, .int .i64 a1, .int .i64 a2, .int .i64 a3, .int .i64 b0, .int .i64 b1, .int .i64 b2, .int .i64 b3, .int .i64 c0, .int .i64 c1, .int .i64 c2, .int .i64 c3], .int .i64 p1, .int .i64 q1] u fun e w' => e = .returned (.tuple #[.int .i64 d, .agg #[.int .i64 k0, .int .i64 k1, .int .i64 k2, .int .i64 k3], .bool false]) ∧ Ext u w') (w : World) :
    Calls Try.prog 5 #[.agg #[.int .i8 s0, .int .i8 s1, .int .i8 s2, .int .i8 s3, .int .i8 s4, .int .i8 s5, .int .u16 e0, .int .u16 e1, .int .u16 e2, .int .u16 m0, .int .u16 m1, .int .u16 m2, .int .u16 oa0, .int .u16 oa1, .int .u16 oa2, .int .u16 oa3, .int .u16 ob0, .int .u16 ob1, .int .u16 ob2, .int .u16 ob3, .int .u16 oc0, .int .u16 oc1, .int .u16 oc2, .int .u16 oc3, .int .u8 sz], .int .u8 x, .int .u8 y] w fun e w' => e = .returned (.bool true) ∧ Ext w w' := by
  have HS := Lib.hid hS
  have HA := Lib.hid hA
  clear hS hA
  have wr : ∀ z : Int, 0 ≤ z ∧ z ≤ 63 → IntKind.i64.wrap z = z := fun z hz => by rw [IntKind.wrap_i64]; omega
  have wp1 := wr p1 bp1
  have wp2 := wr q1 bq1
  clear wr
  have xx : Ext w (w.alloc (.cells #[.int .i8 s0, .int .i8 s1, .int .i8 s2, .int .i8 s3, .int .i8 s4, .int .i8 s5, .int .u16 e0, .int .u16 e1, .int .u16 e2, .int .u16 m0, .int .u16 m1, .int .u16 m2, .int .u16 oa0, .int .u16 oa1, .int .u16 oa2, .int .u16 oa3, .int .u16 ob0, .int .u16 ob1, .int .u16 ob2, .int .u16 ob3, .int .u16 oc0, .int .u16 oc1, .int .u16 oc2, .int .u16 oc3, .int .u8 sz] 75)) := ((Ext.refl w).alloc _ _)
  have B0 := (Blk.new w #[.int .i8 s0, .int .i8 s1, .int .i8 s2, .int .i8 s3, .int .i8 s4, .int .i8 s5, .int .u16 e0, .int .u16 e1, .int .u16 e2, .int .u16 m0, .int .u16 m1, .int .u16 m2, .int .u16 oa0, .int .u16 oa1, .int .u16 oa2, .int .u16 oa3, .int .u16 ob0, .int .u16 ob1, .int .u16 ob2, .int .u16 ob3, .int .u16 oc0, .int .u16 oc1, .int .u16 oc2, .int .u16 oc3, .int .u8 sz] 75)
  go_enter Try.func5, Try.ntmps5
  go_upto_region 1 with fail

  generalize (w.alloc (.cells #[.int .i8 s0, .int .i8 s1, .int .i8 s2, .int .i8 s3, .int .i8 s4, .int .i8 s5, .int .u16 e0, .int .u16 e1, .int .u16 e2, .int .u16 m0, .int .u16 m1, .int .u16 m2, .int .u16 oa0, .int .u16 oa1, .int .u16 oa2, .int .u16 oa3, .int .u16 ob0, .int .u16 ob1, .int .u16 ob2, .int .u16 ob3, .int .u16 oc0, .int .u16 oc1, .int .u16 oc2, .int .u16 oc3, .int .u8 sz] 75)) = w0 at *
  go_wp2_with fail
  refine (awake13_any _).mono ?_
  rintro e w1 ⟨rfl, x1⟩
  have xx := xx.trans x1
  have B0 := B0.ext x1
  clear x1
  go_wp2_with (first
    | ((with_reducible refine wpList_load_blk (op := ⟨some 19, _, _, _, _, _⟩) ?_ 75 (.tmp 3) ?_ (w.heap.size) ?_ (z := _) (T := 75) B0 Try.underlying75 ?_ ?_ ?_); rfl; rfl; rfl; rfl; kernel_rfl)
    | fail)
  refine (HS.out _).mono ?_
  rintro e w2 ⟨rfl, x1⟩
  have xx := xx.trans x1
  clear x1
  have B7 := (Blk.new w2 #[.int .i64 0, .int .i64 0, .int .i64 0, .int .i64 0, .int .i64 0, .int .i64 0, .int .i64 0, .int .i64 0, .int .i64 0, .int .i64 0, .int .i64 0, .int .i64 0, .int .i64 0, .int .i64 0, .int .i64 0, .int .i64 0, .int .i64 0, .int .i64 0, .int .i64 0, .int .i64 0, .int .i64 0, .int .i64 0, .int .i64 0, .int .i64 0] 55).setRow #[.int .i64 ax, .int .i64 ay, .int .i64 bx, .int .i64 by_, .int .i64 cx, .int .i64 cy, .int .i64 d0, .int .i64 d1, .int .i64 d2, .int .i64 n0, .int .i64 n1, .int .i64 n2, .int .i64 a0, .int .i64 a1, .int .i64 a2, .int .i64 a3, .int .i64 b0, .int .i64 b1, .int .i64 b2, .int .i64 b3, .int .i64 c0, .int .i64 c1, .int .i64 c2, .int .i64 c3]
  have y1 : Ext w2 ((w2.alloc (.cells #[.int .i64 0, .int .i64 0, .int .i64 0, .int .i64 0, .int .i64 0, .int .i64 0, .int .i64 0, .int .i64 0, .int .i64 0, .int .i64 0, .int .i64 0, .int .i64 0, .int .i64 0, .int .i64 0, .int .i64 0, .int .i64 0, .int .i64 0, .int .i64 0, .int .i64 0, .int .i64 0, .int .i64 0, .int .i64 0, .int .i64 0, .int .i64 0] 55)).setRow w2.heap.size #[.int .i64 ax, .int .i64 ay, .int .i64 bx, .int .i64 by_, .int .i64 cx, .int .i64 cy, .int .i64 d0, .int .i64 d1, .int .i64 d2, .int .i64 n0, .int .i64 n1, .int .i64 n2, .int .i64 a0, .int .i64 a1, .int .i64 a2, .int .i64 a3, .int .i64 b0, .int .i64 b1, .int .i64 b2, .int .i64 b3, .int .i64 c0, .int .i64 c1, .int .i64 c2, .int .i64 c3]) := ((Ext.refl _).alloc _ _).setRow (Nat.le_refl _) _
  have hb7 : w.heap.size ≤ w2.heap.size := xx.size
  go_upto_region 4 with (first
    | ((with_reducible refine wpList_store_blk (op := ⟨none, .store 55 (.tmp 7) (.tmp 21), _, _, _, _⟩) ?_ 55 (.tmp 7) (.tmp 21) ?_ (w2.heap.size) ?_ (cs := #[.int .i64 ax, .int .i64 ay, .int .i64 bx, .int .i64 by_, .int .i64 cx, .int .i64 cy, .int .i64 d0, .int .i64 d1, .int .i64 d2, .int .i64 n0, .int .i64 n1, .int .i64 n2, .int .i64 a0, .int .i64 a1, .int .i64 a2, .int .i64 a3, .int .i64 b0, .int .i64 b1, .int .i64 b2, .int .i64 b3, .int .i64 c0, .int .i64 c1, .int .i64 c2, .int .i64 c3]) ?_ (z := #[.int .i64 0, .int .i64 0, .int .i64 0, .int .i64 0, .int .i64 0, .int .i64 0, .int .i64 0, .int .i64 0, .int .i64 0, .int .i64 0, .int .i64 0, .int .i64 0, .int .i64 0, .int .i64 0, .int .i64 0, .int .i64 0, .int .i64 0, .int .i64 0, .int .i64 0, .int .i64 0, .int .i64 0, .int .i64 0, .int .i64 0, .int .i64 0]) (T := 55) ?_ ?_ ?_ ?_ ?_); rfl; rfl; rfl; rfl; exact Blk.new w2 _ _; kernel_rfl; kernel_rfl; kernel_rfl)
    | fail)
  try simp only [Act.put]
  have xx := xx.trans y1
  clear y1
  generalize (w2.alloc (.cells #[.int .i64 0, .int .i64 0, .int .i64 0, .int .i64 0, .int .i64 0, .int .i64 0, .int .i64 0, .int .i64 0, .int .i64 0, .int .i64 0, .int .i64 0, .int .i64 0, .int .i64 0, .int .i64 0, .int .i64 0, .int .i64 0, .int .i64 0, .int .i64 0, .int .i64 0, .int .i64 0, .int .i64 0, .int .i64 0, .int .i64 0, .int .i64 0] 55)).setRow w2.heap.size #[.int .i64 ax, .int .i64 ay, .int .i64 bx, .int .i64 by_, .int .i64 cx, .int .i64 cy, .int .i64 d0, .int .i64 d1, .int .i64 d2, .int .i64 n0, .int .i64 n1, .int .i64 n2, .int .i64 a0, .int .i64 a1, .int .i64 a2, .int .i64 a3, .int .i64 b0, .int .i64 b1, .int .i64 b2, .int .i64 b3, .int .i64 c0, .int .i64 c1, .int .i64 c2, .int .i64 c3] = w3 at *
  generalize hbe : w2.heap.size = b7 at *
  clear hbe
  clear B0 HS
  go_wp2_with (first
    | ((with_reducible refine wpList_load_blk (op := ⟨some 24, _, _, _, _, _⟩) ?_ 55 (.tmp 7) ?_ (b7) ?_ (z := _) (T := 55) B7 Try.underlying55 ?_ ?_ ?_); rfl; rfl; rfl; rfl; kernel_rfl)
    | fail)
  refine (HA.out _).mono ?_
  rintro e w4 ⟨rfl, x1⟩
  have xx := xx.trans x1
  have B7 := B7.ext x1
  clear x1
  have B10 := (Blk.new w4 #[.int .i64 0, .int .i64 0, .int .i64 0, .int .i64 0] 30).setRow #[.int .i64 k0, .int .i64 k1, .int .i64 k2, .int .i64 k3]
  have y1 : Ext w4 ((w4.alloc (.cells #[.int .i64 0, .int .i64 0, .int .i64 0, .int .i64 0] 30)).setRow w4.heap.size #[.int .i64 k0, .int .i64 k1, .int .i64 k2, .int .i64 k3]) := ((Ext.refl _).alloc _ _).setRow (Nat.le_refl _) _
  go_upto_region 5 with (first
    | ((with_reducible refine wpList_store_blk (op := ⟨none, .store 30 (.tmp 10) (.tmp 33), _, _, _, _⟩) ?_ 30 (.tmp 10) (.tmp 33) ?_ (w4.heap.size) ?_ (cs := #[.int .i64 k0, .int .i64 k1, .int .i64 k2, .int .i64 k3]) ?_ (z := #[.int .i64 0, .int .i64 0, .int .i64 0, .int .i64 0]) (T := 30) ?_ ?_ ?_ ?_ ?_); rfl; rfl; rfl; rfl; exact Blk.new w4 _ _; kernel_rfl; kernel_rfl; kernel_rfl)
    | fail)
  try simp only [Act.put]
  have xx := xx.trans y1
  have B7 := B7.ext y1
  clear y1
  generalize (w4.alloc (.cells #[.int .i64 0, .int .i64 0, .int .i64 0, .int .i64 0] 30)).setRow w4.heap.size #[.int .i64 k0, .int .i64 k1, .int .i64 k2, .int .i64 k3] = w5 at *
  generalize hbe : w4.heap.size = b10 at *
  clear hbe
  clear B7 B10
  go_wp2_with fail
  go_ret
  exact ⟨rfl, xx⟩
set_option maxRecDepth 100000 in
set_option maxHeartbeats 4000000 in
theorem btw_in (s0 s1 s2 s3 s4 s5 e0 e1 e2 m0 m1 m2 oa0 oa1 oa2 oa3 ob0 ob1 ob2 ob3 oc0 oc1 oc2 oc3 sz ax ay bx by_ cx cy d0 d1 d2 n0 n1 n2 a0 a1 a2 a3 b0 b1 b2 b3 c0 c1 c2 c3 x y p1 q1 d k0 k1 k2 k3 : Int) (hx1 : x.tmod 32 = p1) (hy1 : y.tmod 32 = q1) (bp1 : 0 ≤ p1 ∧ p1 ≤ 63) (bq1 : 0 ≤ q1 ∧ q1 ≤ 63) (hS : ∀ u, Calls Try.prog 18 #[.agg #[.int .i8 s0, .int .i8 s1, .int .i8 s2, .int .i8 s3, .int .i8 s4, .int .i8 s5, .int .u16 e0, .int .u16 e1, .int .u16 e2, .int .u16 m0, .int .u16 m1, .int .u16 m2, .int .u16 oa0, .int .u16 oa1, .int .u16 oa2, .int .u16 oa3, .int .u16 ob0, .int .u16 ob1, .int .u16 ob2, .int .u16 ob3, .int .u16 oc0, .int .u16 oc1, .int .u16 oc2, .int .u16 oc3, .int .u8 sz]] u fun e w' => e = .returned (.tuple #[.agg #[.int .i64 ax, .int .i64 ay, .int .i64 bx, .int .i64 by_, .int .i64 cx, .int .i64 cy, .int .i64 d0, .int .i64 d1, .int .i64 d2, .int .i64 n0, .int .i64 n1, .int .i64 n2, .int .i64 a0, .int .i64 a1, .int .i64 a2, .int .i64 a3, .int .i64 b0, .int .i64 b1, .int .i64 b2, .int .i64 b3, .int .i64 c0, .int .i64 c1, .int .i64 c2, .int .i64 c3], .bool true]) ∧ Ext u w') (hA : ∀ u, Calls Try.prog 19 #[.agg #[.int .i64 ax, .int .i64 ay, .int .i64 bx, .int .i64 by_, .int .i64 cx, .int .i64 cy, .int .i64 d0, .int .i64 d1, .int .i64 d2, .int .i64 n0, .int .i64 n1, .int .i64 n2, .int .i64 a0, .int .i64 a1, .int .i64 a2, .int .i64 a3, .int .i64 b0, .int .i64 b1, .int .i64 b2, .int .i64 b3, .int .i64 c0, .int .i64 c1, .int .i64 c2, .int .i64 c3], .int .i64 p1, .int .i64 q1] u fun e w' => e = .returned (.tuple #[.int .i64 d, .agg #[.int .i64 k0, .int .i64 k1, .int .i64 k2, .int .i64 k3], .bool true]) ∧ Ext u w')
    (g0 : min (min a0 b0) c0 ≤ k0 ∧ k0 ≤ max (max a0 b0) c0) (g1 : min (min a1 b1) c1 ≤ k1 ∧ k1 ≤ max (max a1 b1) c1) (g2 : min (min a2 b2) c2 ≤ k2 ∧ k2 ≤ max (max a2 b2) c2) (g3 : min (min a3 b3) c3 ≤ k3 ∧ k3 ≤ max (max a3 b3) c3) (gd : min (min d0 d1) d2 ≤ d ∧ d ≤ max (max d0 d1) d2) (w : World) :
    Calls Try.prog 5 #[.agg #[.int .i8 s0, .int .i8 s1, .int .i8 s2, .int .i8 s3, .int .i8 s4, .int .i8 s5, .int .u16 e0, .int .u16 e1, .int .u16 e2, .int .u16 m0, .int .u16 m1, .int .u16 m2, .int .u16 oa0, .int .u16 oa1, .int .u16 oa2, .int .u16 oa3, .int .u16 ob0, .int .u16 ob1, .int .u16 ob2, .int .u16 ob3, .int .u16 oc0, .int .u16 oc1, .int .u16 oc2, .int .u16 oc3, .int .u8 sz], .int .u8 x, .int .u8 y] w fun e w' => e = .returned (.bool true) ∧ Ext w w' := by
  have lo0 : ¬ k0 < minI (minI a0 b0) c0 := by rw [minI_eq, minI_eq]; omega
  have up0 : ¬ maxI (maxI a0 b0) c0 < k0 := by rw [maxI_eq, maxI_eq]; omega
  have lo1 : ¬ k1 < minI (minI a1 b1) c1 := by rw [minI_eq, minI_eq]; omega
  have up1 : ¬ maxI (maxI a1 b1) c1 < k1 := by rw [maxI_eq, maxI_eq]; omega
  have lo2 : ¬ k2 < minI (minI a2 b2) c2 := by rw [minI_eq, minI_eq]; omega
  have up2 : ¬ maxI (maxI a2 b2) c2 < k2 := by rw [maxI_eq, maxI_eq]; omega
  have lo3 : ¬ k3 < minI (minI a3 b3) c3 := by rw [minI_eq, minI_eq]; omega
  have up3 : ¬ maxI (maxI a3 b3) c3 < k3 := by rw [maxI_eq, maxI_eq]; omega
  have lod : minI (minI d0 d1) d2 ≤ d := by rw [minI_eq, minI_eq]; omega
  have upd : d ≤ maxI (maxI d0 d1) d2 := by rw [maxI_eq, maxI_eq]; omega
  have LD := Lib.hid lod
  have UD := Lib.hid upd
  have LO0 := Lib.hid lo0
  have UP0 := Lib.hid up0
  have LO1 := Lib.hid lo1
  have UP1 := Lib.hid up1
  have LO2 := Lib.hid lo2
  have UP2 := Lib.hid up2
  have LO3 := Lib.hid lo3
  have UP3 := Lib.hid up3
  clear gd lod upd g0 lo0 up0 g1 lo1 up1 g2 lo2 up2 g3 lo3 up3
  have HS := Lib.hid hS
  have HA := Lib.hid hA
  clear hS hA
  have wr : ∀ z : Int, 0 ≤ z ∧ z ≤ 63 → IntKind.i64.wrap z = z := fun z hz => by rw [IntKind.wrap_i64]; omega
  have wp1 := wr p1 bp1
  have wp2 := wr q1 bq1
  clear wr
  have xx : Ext w (w.alloc (.cells #[.int .i8 s0, .int .i8 s1, .int .i8 s2, .int .i8 s3, .int .i8 s4, .int .i8 s5, .int .u16 e0, .int .u16 e1, .int .u16 e2, .int .u16 m0, .int .u16 m1, .int .u16 m2, .int .u16 oa0, .int .u16 oa1, .int .u16 oa2, .int .u16 oa3, .int .u16 ob0, .int .u16 ob1, .int .u16 ob2, .int .u16 ob3, .int .u16 oc0, .int .u16 oc1, .int .u16 oc2, .int .u16 oc3, .int .u8 sz] 75)) := ((Ext.refl w).alloc _ _)
  have B0 := (Blk.new w #[.int .i8 s0, .int .i8 s1, .int .i8 s2, .int .i8 s3, .int .i8 s4, .int .i8 s5, .int .u16 e0, .int .u16 e1, .int .u16 e2, .int .u16 m0, .int .u16 m1, .int .u16 m2, .int .u16 oa0, .int .u16 oa1, .int .u16 oa2, .int .u16 oa3, .int .u16 ob0, .int .u16 ob1, .int .u16 ob2, .int .u16 ob3, .int .u16 oc0, .int .u16 oc1, .int .u16 oc2, .int .u16 oc3, .int .u8 sz] 75)
  go_enter Try.func5, Try.ntmps5
  go_upto_region 1 with fail

  generalize (w.alloc (.cells #[.int .i8 s0, .int .i8 s1, .int .i8 s2, .int .i8 s3, .int .i8 s4, .int .i8 s5, .int .u16 e0, .int .u16 e1, .int .u16 e2, .int .u16 m0, .int .u16 m1, .int .u16 m2, .int .u16 oa0, .int .u16 oa1, .int .u16 oa2, .int .u16 oa3, .int .u16 ob0, .int .u16 ob1, .int .u16 ob2, .int .u16 ob3, .int .u16 oc0, .int .u16 oc1, .int .u16 oc2, .int .u16 oc3, .int .u8 sz] 75)) = w0 at *
  go_wp2_with fail
  refine (awake13_any _).mono ?_
  rintro e w1 ⟨rfl, x1⟩
  have xx := xx.trans x1
  have B0 := B0.ext x1
  clear x1
  go_wp2_with (first
    | ((with_reducible refine wpList_load_blk (op := ⟨some 19, _, _, _, _, _⟩) ?_ 75 (.tmp 3) ?_ (w.heap.size) ?_ (z := _) (T := 75) B0 Try.underlying75 ?_ ?_ ?_); rfl; rfl; rfl; rfl; kernel_rfl)
    | fail)
  refine (HS.out _).mono ?_
  rintro e w2 ⟨rfl, x1⟩
  have xx := xx.trans x1
  clear x1
  have B7 := (Blk.new w2 #[.int .i64 0, .int .i64 0, .int .i64 0, .int .i64 0, .int .i64 0, .int .i64 0, .int .i64 0, .int .i64 0, .int .i64 0, .int .i64 0, .int .i64 0, .int .i64 0, .int .i64 0, .int .i64 0, .int .i64 0, .int .i64 0, .int .i64 0, .int .i64 0, .int .i64 0, .int .i64 0, .int .i64 0, .int .i64 0, .int .i64 0, .int .i64 0] 55).setRow #[.int .i64 ax, .int .i64 ay, .int .i64 bx, .int .i64 by_, .int .i64 cx, .int .i64 cy, .int .i64 d0, .int .i64 d1, .int .i64 d2, .int .i64 n0, .int .i64 n1, .int .i64 n2, .int .i64 a0, .int .i64 a1, .int .i64 a2, .int .i64 a3, .int .i64 b0, .int .i64 b1, .int .i64 b2, .int .i64 b3, .int .i64 c0, .int .i64 c1, .int .i64 c2, .int .i64 c3]
  have y1 : Ext w2 ((w2.alloc (.cells #[.int .i64 0, .int .i64 0, .int .i64 0, .int .i64 0, .int .i64 0, .int .i64 0, .int .i64 0, .int .i64 0, .int .i64 0, .int .i64 0, .int .i64 0, .int .i64 0, .int .i64 0, .int .i64 0, .int .i64 0, .int .i64 0, .int .i64 0, .int .i64 0, .int .i64 0, .int .i64 0, .int .i64 0, .int .i64 0, .int .i64 0, .int .i64 0] 55)).setRow w2.heap.size #[.int .i64 ax, .int .i64 ay, .int .i64 bx, .int .i64 by_, .int .i64 cx, .int .i64 cy, .int .i64 d0, .int .i64 d1, .int .i64 d2, .int .i64 n0, .int .i64 n1, .int .i64 n2, .int .i64 a0, .int .i64 a1, .int .i64 a2, .int .i64 a3, .int .i64 b0, .int .i64 b1, .int .i64 b2, .int .i64 b3, .int .i64 c0, .int .i64 c1, .int .i64 c2, .int .i64 c3]) := ((Ext.refl _).alloc _ _).setRow (Nat.le_refl _) _
  have hb7 : w.heap.size ≤ w2.heap.size := xx.size
  go_upto_region 4 with (first
    | ((with_reducible refine wpList_store_blk (op := ⟨none, .store 55 (.tmp 7) (.tmp 21), _, _, _, _⟩) ?_ 55 (.tmp 7) (.tmp 21) ?_ (w2.heap.size) ?_ (cs := #[.int .i64 ax, .int .i64 ay, .int .i64 bx, .int .i64 by_, .int .i64 cx, .int .i64 cy, .int .i64 d0, .int .i64 d1, .int .i64 d2, .int .i64 n0, .int .i64 n1, .int .i64 n2, .int .i64 a0, .int .i64 a1, .int .i64 a2, .int .i64 a3, .int .i64 b0, .int .i64 b1, .int .i64 b2, .int .i64 b3, .int .i64 c0, .int .i64 c1, .int .i64 c2, .int .i64 c3]) ?_ (z := #[.int .i64 0, .int .i64 0, .int .i64 0, .int .i64 0, .int .i64 0, .int .i64 0, .int .i64 0, .int .i64 0, .int .i64 0, .int .i64 0, .int .i64 0, .int .i64 0, .int .i64 0, .int .i64 0, .int .i64 0, .int .i64 0, .int .i64 0, .int .i64 0, .int .i64 0, .int .i64 0, .int .i64 0, .int .i64 0, .int .i64 0, .int .i64 0]) (T := 55) ?_ ?_ ?_ ?_ ?_); rfl; rfl; rfl; rfl; exact Blk.new w2 _ _; kernel_rfl; kernel_rfl; kernel_rfl)
    | fail)
  try simp only [Act.put]
  have xx := xx.trans y1
  clear y1
  generalize (w2.alloc (.cells #[.int .i64 0, .int .i64 0, .int .i64 0, .int .i64 0, .int .i64 0, .int .i64 0, .int .i64 0, .int .i64 0, .int .i64 0, .int .i64 0, .int .i64 0, .int .i64 0, .int .i64 0, .int .i64 0, .int .i64 0, .int .i64 0, .int .i64 0, .int .i64 0, .int .i64 0, .int .i64 0, .int .i64 0, .int .i64 0, .int .i64 0, .int .i64 0] 55)).setRow w2.heap.size #[.int .i64 ax, .int .i64 ay, .int .i64 bx, .int .i64 by_, .int .i64 cx, .int .i64 cy, .int .i64 d0, .int .i64 d1, .int .i64 d2, .int .i64 n0, .int .i64 n1, .int .i64 n2, .int .i64 a0, .int .i64 a1, .int .i64 a2, .int .i64 a3, .int .i64 b0, .int .i64 b1, .int .i64 b2, .int .i64 b3, .int .i64 c0, .int .i64 c1, .int .i64 c2, .int .i64 c3] = w3 at *
  generalize hbe : w2.heap.size = b7 at *
  clear hbe
  clear B0 HS
  go_wp2_with (first
    | ((with_reducible refine wpList_load_blk (op := ⟨some 24, _, _, _, _, _⟩) ?_ 55 (.tmp 7) ?_ (b7) ?_ (z := _) (T := 55) B7 Try.underlying55 ?_ ?_ ?_); rfl; rfl; rfl; rfl; kernel_rfl)
    | fail)
  refine (HA.out _).mono ?_
  rintro e w4 ⟨rfl, x1⟩
  have xx := xx.trans x1
  have B7 := B7.ext x1
  clear x1
  have B10 := (Blk.new w4 #[.int .i64 0, .int .i64 0, .int .i64 0, .int .i64 0] 30).setRow #[.int .i64 k0, .int .i64 k1, .int .i64 k2, .int .i64 k3]
  have y1 : Ext w4 ((w4.alloc (.cells #[.int .i64 0, .int .i64 0, .int .i64 0, .int .i64 0] 30)).setRow w4.heap.size #[.int .i64 k0, .int .i64 k1, .int .i64 k2, .int .i64 k3]) := ((Ext.refl _).alloc _ _).setRow (Nat.le_refl _) _
  go_upto_region 5 with (first
    | ((with_reducible refine wpList_store_blk (op := ⟨none, .store 30 (.tmp 10) (.tmp 33), _, _, _, _⟩) ?_ 30 (.tmp 10) (.tmp 33) ?_ (w4.heap.size) ?_ (cs := #[.int .i64 k0, .int .i64 k1, .int .i64 k2, .int .i64 k3]) ?_ (z := #[.int .i64 0, .int .i64 0, .int .i64 0, .int .i64 0]) (T := 30) ?_ ?_ ?_ ?_ ?_); rfl; rfl; rfl; rfl; exact Blk.new w4 _ _; kernel_rfl; kernel_rfl; kernel_rfl)
    | fail)
  try simp only [Act.put]
  have xx := xx.trans y1
  have B7 := B7.ext y1
  clear y1
  generalize (w4.alloc (.cells #[.int .i64 0, .int .i64 0, .int .i64 0, .int .i64 0] 30)).setRow w4.heap.size #[.int .i64 k0, .int .i64 k1, .int .i64 k2, .int .i64 k3] = w5 at *
  generalize hbe : w4.heap.size = b10 at *
  clear hbe
  go_wp2_with fail
  refine wp_loop_rounds 5 ?_
  rw [rounds_succ]
  go_upto_region 10 with fail
  apply wp_region_reads2 _ (by kernel_rfl) (by kernel_rfl)
  case H =>
    intro x0 hx
    have hne : Nonempty (Wx x0) := ⟨⟨x0, Ext.refl x0⟩⟩
    have q7 := fun (y : Wx x0) => (B7.ext (hx.trans y.ext)).cell
    repeat (go_big_quiet_step (fail))
    exact wpQuiet_nil rfl
  intro wr0 hr
  have xx := xx.trans hr
  have B7 := B7.ext hr
  have B10 := B10.ext hr
  clear hr
  have c10 := B10.cell
  have hmi := minI_fold
  have hma := maxI_fold
  have lo := LO0.out
  have up := UP0.out
  go_wp2_with fail
  clear c10 lo up hmi hma
  rw [rounds_succ]
  go_upto_region 10 with fail
  apply wp_region_reads2 _ (by kernel_rfl) (by kernel_rfl)
  case H =>
    intro x0 hx
    have hne : Nonempty (Wx x0) := ⟨⟨x0, Ext.refl x0⟩⟩
    have q7 := fun (y : Wx x0) => (B7.ext (hx.trans y.ext)).cell
    repeat (go_big_quiet_step (fail))
    exact wpQuiet_nil rfl
  intro wr1 hr
  have xx := xx.trans hr
  have B7 := B7.ext hr
  have B10 := B10.ext hr
  clear hr
  have c10 := B10.cell
  have hmi := minI_fold
  have hma := maxI_fold
  have lo := LO1.out
  have up := UP1.out
  go_wp2_with fail
  clear c10 lo up hmi hma
  rw [rounds_succ]
  go_upto_region 10 with fail
  apply wp_region_reads2 _ (by kernel_rfl) (by kernel_rfl)
  case H =>
    intro x0 hx
    have hne : Nonempty (Wx x0) := ⟨⟨x0, Ext.refl x0⟩⟩
    have q7 := fun (y : Wx x0) => (B7.ext (hx.trans y.ext)).cell
    repeat (go_big_quiet_step (fail))
    exact wpQuiet_nil rfl
  intro wr2 hr
  have xx := xx.trans hr
  have B7 := B7.ext hr
  have B10 := B10.ext hr
  clear hr
  have c10 := B10.cell
  have hmi := minI_fold
  have hma := maxI_fold
  have lo := LO2.out
  have up := UP2.out
  go_wp2_with fail
  clear c10 lo up hmi hma
  rw [rounds_succ]
  go_upto_region 10 with fail
  apply wp_region_reads2 _ (by kernel_rfl) (by kernel_rfl)
  case H =>
    intro x0 hx
    have hne : Nonempty (Wx x0) := ⟨⟨x0, Ext.refl x0⟩⟩
    have q7 := fun (y : Wx x0) => (B7.ext (hx.trans y.ext)).cell
    repeat (go_big_quiet_step (fail))
    exact wpQuiet_nil rfl
  intro wr3 hr
  have xx := xx.trans hr
  have B7 := B7.ext hr
  have B10 := B10.ext hr
  clear hr
  have c10 := B10.cell
  have hmi := minI_fold
  have hma := maxI_fold
  have lo := LO3.out
  have up := UP3.out
  go_wp2_with fail
  clear c10 lo up hmi hma
  rw [rounds_succ]
  have hmi := minI_fold
  have hma := maxI_fold
  have lo := LD.out
  have up := UD.out
  have c7 := B7.cell
  clear B7 B10
  go_wp2_with fail
  go_ret
  exact ⟨rfl, xx⟩
set_option maxRecDepth 100000 in
theorem setupBetween_row (s : S13) (x y : Int) (hs : s.ok) (hx : 0 ≤ x ∧ x ≤ 255) (hy : 0 ≤ y ∧ y ≤ 255) (w : World) :
    Calls Try.prog 5 #[.agg s.l.toArray, .int .u8 x, .int .u8 y] w fun e w' => e = .returned (.bool true) ∧ Ext w w' := by
  have hS := fun u => small13_any s hs u
  have p1 := tm_bd (m := 32) hx.1 (by omega)
  have q1 := tm_bd (m := 32) hy.1 (by omega)
  have i1 : I64 (x.tmod 32) := by unfold I64; omega
  have i2 : I64 (y.tmod 32) := by unfold I64; omega
  have hA := fun u => atT_any s.tri (rng_in64 hs.tri) _ _ i1 i2 u
  by_cases hz : 0 < s.tri.area
  · rw [decide_eq_true hz] at hS
    by_cases hc : s.tri.cov (midI (x.tmod 32)) (midI (y.tmod 32)) = true
    · have e : atF s.tri (x.tmod 32) (y.tmod 32) = ⟨s.tri.dAt (midI (x.tmod 32)) (midI (y.tmod 32)), (s.tri.cAt (midI (x.tmod 32)) (midI (y.tmod 32)) s.tri.a0 s.tri.b0 s.tri.c0), (s.tri.cAt (midI (x.tmod 32)) (midI (y.tmod 32)) s.tri.a1 s.tri.b1 s.tri.c1), (s.tri.cAt (midI (x.tmod 32)) (midI (y.tmod 32)) s.tri.a2 s.tri.b2 s.tri.c2), (s.tri.cAt (midI (x.tmod 32)) (midI (y.tmod 32)) s.tri.a3 s.tri.b3 s.tri.c3), true⟩ := by
        unfold atF
        rw [if_pos ⟨hs.chk hz, hc⟩]
      rw [e] at hA
      obtain ⟨-, -, ⟨⟨n0, -⟩, ⟨n1, -⟩, ⟨n2, -⟩⟩, -⟩ := hs.tri
      exact btw_in s.s0 s.s1 s.s2 s.s3 s.s4 s.s5 s.e0 s.e1 s.e2 s.n0 s.n1 s.n2 s.a0 s.a1 s.a2 s.a3 s.b0 s.b1 s.b2 s.b3 s.c0 s.c1 s.c2 s.c3 s.sz s.tri.ax s.tri.ay s.tri.bx s.tri.by' s.tri.cx s.tri.cy s.tri.d0 s.tri.d1 s.tri.d2 s.tri.n0 s.tri.n1 s.tri.n2 s.tri.a0 s.tri.a1 s.tri.a2 s.tri.a3 s.tri.b0 s.tri.b1 s.tri.b2 s.tri.b3 s.tri.c0 s.tri.c1 s.tri.c2 s.tri.c3 x y (x.tmod 32) (y.tmod 32) (s.tri.dAt (midI (x.tmod 32)) (midI (y.tmod 32))) (s.tri.cAt (midI (x.tmod 32)) (midI (y.tmod 32)) s.tri.a0 s.tri.b0 s.tri.c0) (s.tri.cAt (midI (x.tmod 32)) (midI (y.tmod 32)) s.tri.a1 s.tri.b1 s.tri.c1) (s.tri.cAt (midI (x.tmod 32)) (midI (y.tmod 32)) s.tri.a2 s.tri.b2 s.tri.c2) (s.tri.cAt (midI (x.tmod 32)) (midI (y.tmod 32)) s.tri.a3 s.tri.b3 s.tri.c3) rfl rfl ⟨p1.1, by omega⟩ ⟨q1.1, by omega⟩ hS hA (cAt_in hc n0 n1 n2 (by omega) (by omega) (by omega)) (cAt_in hc n0 n1 n2 (by omega) (by omega) (by omega)) (cAt_in hc n0 n1 n2 (by omega) (by omega) (by omega)) (cAt_in hc n0 n1 n2 (by omega) (by omega) (by omega)) (dAt_in hc (by omega) (by omega) (by omega)) w
    · have e : atF s.tri (x.tmod 32) (y.tmod 32) = ⟨0, 0, 0, 0, 0, false⟩ := by
        unfold atF
        rw [if_neg (fun h => hc h.2)]
      rw [e] at hA
      exact btw_out_true s.s0 s.s1 s.s2 s.s3 s.s4 s.s5 s.e0 s.e1 s.e2 s.n0 s.n1 s.n2 s.a0 s.a1 s.a2 s.a3 s.b0 s.b1 s.b2 s.b3 s.c0 s.c1 s.c2 s.c3 s.sz s.tri.ax s.tri.ay s.tri.bx s.tri.by' s.tri.cx s.tri.cy s.tri.d0 s.tri.d1 s.tri.d2 s.tri.n0 s.tri.n1 s.tri.n2 s.tri.a0 s.tri.a1 s.tri.a2 s.tri.a3 s.tri.b0 s.tri.b1 s.tri.b2 s.tri.b3 s.tri.c0 s.tri.c1 s.tri.c2 s.tri.c3 x y (x.tmod 32) (y.tmod 32) 0 0 0 0 0 rfl rfl ⟨p1.1, by omega⟩ ⟨q1.1, by omega⟩ hS hA w
  · rw [decide_eq_false hz] at hS
    have e : atF s.tri (x.tmod 32) (y.tmod 32) = ⟨0, 0, 0, 0, 0, false⟩ := by
      unfold atF
      rw [if_neg (fun h => hz (chk_rng h.1).2)]
    rw [e] at hA
    exact btw_out_false s.s0 s.s1 s.s2 s.s3 s.s4 s.s5 s.e0 s.e1 s.e2 s.n0 s.n1 s.n2 s.a0 s.a1 s.a2 s.a3 s.b0 s.b1 s.b2 s.b3 s.c0 s.c1 s.c2 s.c3 s.sz s.tri.ax s.tri.ay s.tri.bx s.tri.by' s.tri.cx s.tri.cy s.tri.d0 s.tri.d1 s.tri.d2 s.tri.n0 s.tri.n1 s.tri.n2 s.tri.a0 s.tri.a1 s.tri.a2 s.tri.a3 s.tri.b0 s.tri.b1 s.tri.b2 s.tri.b3 s.tri.c0 s.tri.c1 s.tri.c2 s.tri.c3 x y (x.tmod 32) (y.tmod 32) 0 0 0 0 0 rfl rfl ⟨p1.1, by omega⟩ ⟨q1.1, by omega⟩ hS hA w
end Go.Proofs.Ytglehnmkdapnpaa

