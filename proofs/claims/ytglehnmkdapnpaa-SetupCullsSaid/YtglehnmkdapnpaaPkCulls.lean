/-
  DERIVED. SetupCulls: the walks (made by mklaw13.py). · SetupCulls (made by mklaw13.py).
-/
import Derived.Test.YtglehnmkdapnpaaPkDep
import Derived.Test.YtglehnmkdapnpaaPkEqs
import Derived.Test.YtglehnmkdapnpaaPkGs
import Derived.Test.YtglehnmkdapnpaaPkClipL
namespace Go.Proofs.Ytglehnmkdapnpaa
open Go.RowKit
set_option linter.unusedVariables false
theorem mkCn (u : World) : (Instr.alloc 59 true (.tuple #[])).run Try.prog u = .ok (.pointer (some ⟨u.heap.size, 0, none⟩)) (u.alloc (.cells #[.int .i64 0, .int .i64 0, .int .i64 0, .int .i64 0, .int .i64 0, .int .i64 0, .int .i64 0, .int .i64 0] 59)) := by
  simp [go_sem]
set_option maxRecDepth 100000 in
set_option maxHeartbeats 4000000 in
theorem culls_zero (xa_x xa_y xa_z xa_w xa_r xa_g xa_b xa_a xb_x xb_y xb_z xb_w xb_r xb_g xb_b xb_a xc_x xc_y xc_z xc_w xc_r xc_g xc_b xc_a : Int) (xa_f xb_f xc_f : Bool) (a0 a1 a2 a3 a4 a5 a6 a7 b0 b1 b2 b3 b4 b5 b6 b7 c0 c1 c2 c3 c4 c5 c6 c7 ca0 ca1 ca2 ca3 ca4 ca5 ca6 ca7 cb0 cb1 cb2 cb3 cb4 cb5 cb6 cb7 cc0 cc1 cc2 cc3 cc4 cc5 cc6 cc7 m0 m1 m2 m3 m4 m5 m6 m7 m8 m9 m10 m11 m12 m13 m14 m15 m16 m17 m18 m19 m20 m21 m22 m23 nx0 nx1 nx2 nx3 nx4 nx5 nx6 nx7 nx8 nx9 nx10 nx11 nx12 nx13 nx14 nx15 nx16 nx17 nx18 nx19 nx20 nx21 nx22 nx23 ny0 ny1 ny2 ny3 ny4 ny5 ny6 ny7 ny8 ny9 ny10 ny11 ny12 ny13 ny14 ny15 ny16 ny17 ny18 ny19 ny20 ny21 ny22 ny23 nz0 nz1 nz2 nz3 nz4 nz5 nz6 nz7 nz8 nz9 nz10 nz11 nz12 nz13 nz14 nz15 nz16 nz17 nz18 nz19 nz20 nz21 nz22 nz23 d k0 k1 k2 k3 wd x y n0 n p1 q1 : Int)  (hn0 : wd.tmod 50 = n0) (hn : 8 + n0 = n) (bn : 0 ≤ n0 ∧ n0 ≤ 49) (hx1 : x.tmod 64 = p1) (hy1 : y.tmod 64 = q1) (bp1 : 0 ≤ p1 ∧ p1 ≤ 63) (bq1 : 0 ≤ q1 ∧ q1 ≤ 63)
    (hV : ∀ u, Calls Try.prog 10 #[.agg #[.int .i16 xa_x, .int .i16 xa_y, .int .i16 xa_z, .int .i16 xa_w, .int .u8 xa_r, .int .u8 xa_g, .int .u8 xa_b, .int .u8 xa_a, .bool xa_f, .int .i16 xb_x, .int .i16 xb_y, .int .i16 xb_z, .int .i16 xb_w, .int .u8 xb_r, .int .u8 xb_g, .int .u8 xb_b, .int .u8 xb_a, .bool xb_f, .int .i16 xc_x, .int .i16 xc_y, .int .i16 xc_z, .int .i16 xc_w, .int .u8 xc_r, .int .u8 xc_g, .int .u8 xc_b, .int .u8 xc_a, .bool xc_f]] u fun e w' => e = .returned (.agg #[.int .i64 a0, .int .i64 a1, .int .i64 a2, .int .i64 a3, .int .i64 a4, .int .i64 a5, .int .i64 a6, .int .i64 a7, .int .i64 b0, .int .i64 b1, .int .i64 b2, .int .i64 b3, .int .i64 b4, .int .i64 b5, .int .i64 b6, .int .i64 b7, .int .i64 c0, .int .i64 c1, .int .i64 c2, .int .i64 c3, .int .i64 c4, .int .i64 c5, .int .i64 c6, .int .i64 c7]) ∧ Ext u w') (hO1 : ∀ u, Calls Try.prog 15 #[.agg #[.int .i64 a0, .int .i64 a1, .int .i64 a2, .int .i64 a3, .int .i64 a4, .int .i64 a5, .int .i64 a6, .int .i64 a7], .int .i64 n, .int .i64 n] u fun e w' => e = .returned (.agg #[.int .i64 ca0, .int .i64 ca1, .int .i64 ca2, .int .i64 ca3, .int .i64 ca4, .int .i64 ca5, .int .i64 ca6, .int .i64 ca7]) ∧ Ext u w') (hO2 : ∀ u, Calls Try.prog 15 #[.agg #[.int .i64 b0, .int .i64 b1, .int .i64 b2, .int .i64 b3, .int .i64 b4, .int .i64 b5, .int .i64 b6, .int .i64 b7], .int .i64 n, .int .i64 n] u fun e w' => e = .returned (.agg #[.int .i64 cb0, .int .i64 cb1, .int .i64 cb2, .int .i64 cb3, .int .i64 cb4, .int .i64 cb5, .int .i64 cb6, .int .i64 cb7]) ∧ Ext u w') (hO3 : ∀ u, Calls Try.prog 15 #[.agg #[.int .i64 c0, .int .i64 c1, .int .i64 c2, .int .i64 c3, .int .i64 c4, .int .i64 c5, .int .i64 c6, .int .i64 c7], .int .i64 n, .int .i64 n] u fun e w' => e = .returned (.agg #[.int .i64 cc0, .int .i64 cc1, .int .i64 cc2, .int .i64 cc3, .int .i64 cc4, .int .i64 cc5, .int .i64 cc6, .int .i64 cc7]) ∧ Ext u w')
    (hM : ∀ u, Calls Try.prog 14 #[.agg #[.int .i64 ca0, .int .i64 ca1, .int .i64 ca2, .int .i64 ca3, .int .i64 ca4, .int .i64 ca5, .int .i64 ca6, .int .i64 ca7], .agg #[.int .i64 cb0, .int .i64 cb1, .int .i64 cb2, .int .i64 cb3, .int .i64 cb4, .int .i64 cb5, .int .i64 cb6, .int .i64 cb7], .agg #[.int .i64 cc0, .int .i64 cc1, .int .i64 cc2, .int .i64 cc3, .int .i64 cc4, .int .i64 cc5, .int .i64 cc6, .int .i64 cc7], .int .u8 0] u fun e w' => e = .returned (.tuple #[.agg #[.int .i64 m0, .int .i64 m1, .int .i64 m2, .int .i64 m3, .int .i64 m4, .int .i64 m5, .int .i64 m6, .int .i64 m7, .int .i64 m8, .int .i64 m9, .int .i64 m10, .int .i64 m11, .int .i64 m12, .int .i64 m13, .int .i64 m14, .int .i64 m15, .int .i64 m16, .int .i64 m17, .int .i64 m18, .int .i64 m19, .int .i64 m20, .int .i64 m21, .int .i64 m22, .int .i64 m23], .bool false]) ∧ Ext u w') (hQ : ∀ u, Calls Try.prog 14 #[.agg #[.int .i64 ca0, .int .i64 ca1, .int .i64 ca2, .int .i64 ca3, .int .i64 ca4, .int .i64 ca5, .int .i64 ca6, .int .i64 ca7], .agg #[.int .i64 cc0, .int .i64 cc1, .int .i64 cc2, .int .i64 cc3, .int .i64 cc4, .int .i64 cc5, .int .i64 cc6, .int .i64 cc7], .agg #[.int .i64 cb0, .int .i64 cb1, .int .i64 cb2, .int .i64 cb3, .int .i64 cb4, .int .i64 cb5, .int .i64 cb6, .int .i64 cb7], .int .u8 0] u fun e w' => e = .returned (.tuple #[.agg #[.int .i64 m0, .int .i64 m1, .int .i64 m2, .int .i64 m3, .int .i64 m4, .int .i64 m5, .int .i64 m6, .int .i64 m7, .int .i64 m8, .int .i64 m9, .int .i64 m10, .int .i64 m11, .int .i64 m12, .int .i64 m13, .int .i64 m14, .int .i64 m15, .int .i64 m16, .int .i64 m17, .int .i64 m18, .int .i64 m19, .int .i64 m20, .int .i64 m21, .int .i64 m22, .int .i64 m23], .bool false]) ∧ Ext u w') (hB : ∀ u, Calls Try.prog 14 #[.agg #[.int .i64 ca0, .int .i64 ca1, .int .i64 ca2, .int .i64 ca3, .int .i64 ca4, .int .i64 ca5, .int .i64 ca6, .int .i64 ca7], .agg #[.int .i64 cb0, .int .i64 cb1, .int .i64 cb2, .int .i64 cb3, .int .i64 cb4, .int .i64 cb5, .int .i64 cb6, .int .i64 cb7], .agg #[.int .i64 cc0, .int .i64 cc1, .int .i64 cc2, .int .i64 cc3, .int .i64 cc4, .int .i64 cc5, .int .i64 cc6, .int .i64 cc7], .int .u8 1] u fun e w' => e = .returned (.tuple #[.agg #[.int .i64 nx0, .int .i64 nx1, .int .i64 nx2, .int .i64 nx3, .int .i64 nx4, .int .i64 nx5, .int .i64 nx6, .int .i64 nx7, .int .i64 nx8, .int .i64 nx9, .int .i64 nx10, .int .i64 nx11, .int .i64 nx12, .int .i64 nx13, .int .i64 nx14, .int .i64 nx15, .int .i64 nx16, .int .i64 nx17, .int .i64 nx18, .int .i64 nx19, .int .i64 nx20, .int .i64 nx21, .int .i64 nx22, .int .i64 nx23], .bool false]) ∧ Ext u w') (hF : ∀ u, Calls Try.prog 14 #[.agg #[.int .i64 ca0, .int .i64 ca1, .int .i64 ca2, .int .i64 ca3, .int .i64 ca4, .int .i64 ca5, .int .i64 ca6, .int .i64 ca7], .agg #[.int .i64 cb0, .int .i64 cb1, .int .i64 cb2, .int .i64 cb3, .int .i64 cb4, .int .i64 cb5, .int .i64 cb6, .int .i64 cb7], .agg #[.int .i64 cc0, .int .i64 cc1, .int .i64 cc2, .int .i64 cc3, .int .i64 cc4, .int .i64 cc5, .int .i64 cc6, .int .i64 cc7], .int .u8 2] u fun e w' => e = .returned (.tuple #[.agg #[.int .i64 ny0, .int .i64 ny1, .int .i64 ny2, .int .i64 ny3, .int .i64 ny4, .int .i64 ny5, .int .i64 ny6, .int .i64 ny7, .int .i64 ny8, .int .i64 ny9, .int .i64 ny10, .int .i64 ny11, .int .i64 ny12, .int .i64 ny13, .int .i64 ny14, .int .i64 ny15, .int .i64 ny16, .int .i64 ny17, .int .i64 ny18, .int .i64 ny19, .int .i64 ny20, .int .i64 ny21, .int .i64 ny22, .int .i64 ny23], .bool false]) ∧ Ext u w') (hT : ∀ u, Calls Try.prog 14 #[.agg #[.int .i64 ca0, .int .i64 ca1, .int .i64 ca2, .int .i64 ca3, .int .i64 ca4, .int .i64 ca5, .int .i64 ca6, .int .i64 ca7], .agg #[.int .i64 cc0, .int .i64 cc1, .int .i64 cc2, .int .i64 cc3, .int .i64 cc4, .int .i64 cc5, .int .i64 cc6, .int .i64 cc7], .agg #[.int .i64 cb0, .int .i64 cb1, .int .i64 cb2, .int .i64 cb3, .int .i64 cb4, .int .i64 cb5, .int .i64 cb6, .int .i64 cb7], .int .u8 1] u fun e w' => e = .returned (.tuple #[.agg #[.int .i64 nz0, .int .i64 nz1, .int .i64 nz2, .int .i64 nz3, .int .i64 nz4, .int .i64 nz5, .int .i64 nz6, .int .i64 nz7, .int .i64 nz8, .int .i64 nz9, .int .i64 nz10, .int .i64 nz11, .int .i64 nz12, .int .i64 nz13, .int .i64 nz14, .int .i64 nz15, .int .i64 nz16, .int .i64 nz17, .int .i64 nz18, .int .i64 nz19, .int .i64 nz20, .int .i64 nz21, .int .i64 nz22, .int .i64 nz23], .bool false]) ∧ Ext u w') (hA : ∀ u, Calls Try.prog 19 #[.agg #[.int .i64 m0, .int .i64 m1, .int .i64 m2, .int .i64 m3, .int .i64 m4, .int .i64 m5, .int .i64 m6, .int .i64 m7, .int .i64 m8, .int .i64 m9, .int .i64 m10, .int .i64 m11, .int .i64 m12, .int .i64 m13, .int .i64 m14, .int .i64 m15, .int .i64 m16, .int .i64 m17, .int .i64 m18, .int .i64 m19, .int .i64 m20, .int .i64 m21, .int .i64 m22, .int .i64 m23], .int .i64 p1, .int .i64 q1] u fun e w' => e = .returned (.tuple #[.int .i64 d, .agg #[.int .i64 k0, .int .i64 k1, .int .i64 k2, .int .i64 k3], .bool false]) ∧ Ext u w') (w : World) :
    Calls Try.prog 6 #[.agg #[.int .i16 xa_x, .int .i16 xa_y, .int .i16 xa_z, .int .i16 xa_w, .int .u8 xa_r, .int .u8 xa_g, .int .u8 xa_b, .int .u8 xa_a, .bool xa_f, .int .i16 xb_x, .int .i16 xb_y, .int .i16 xb_z, .int .i16 xb_w, .int .u8 xb_r, .int .u8 xb_g, .int .u8 xb_b, .int .u8 xb_a, .bool xb_f, .int .i16 xc_x, .int .i16 xc_y, .int .i16 xc_z, .int .i16 xc_w, .int .u8 xc_r, .int .u8 xc_g, .int .u8 xc_b, .int .u8 xc_a, .bool xc_f], .int .u8 wd, .int .u8 x, .int .u8 y] w fun e w' => e = .returned (.bool true) ∧ Ext w w' := by
  have HV := Lib.hid hV
  have HO1 := Lib.hid hO1
  have HO2 := Lib.hid hO2
  have HO3 := Lib.hid hO3
  have HM := Lib.hid hM
  have HQ := Lib.hid hQ
  have HB := Lib.hid hB
  have HF := Lib.hid hF
  have HT := Lib.hid hT
  have HA := Lib.hid hA
  clear hV hO1 hO2 hO3 hM hQ hB hF hT hA
  have wr : ∀ z : Int, 0 ≤ z ∧ z ≤ 63 → IntKind.i64.wrap z = z := fun z hz => by rw [IntKind.wrap_i64]; omega
  have wp1 := wr p1 bp1
  have wp2 := wr q1 bq1
  clear wr
  have wn0 : IntKind.i64.wrap n0 = n0 := by rw [IntKind.wrap_i64]; omega
  have wn : IntKind.i64.wrap n = n := by rw [IntKind.wrap_i64]; omega
  have xx : Ext w (w.alloc (.cells #[.int .i16 xa_x, .int .i16 xa_y, .int .i16 xa_z, .int .i16 xa_w, .int .u8 xa_r, .int .u8 xa_g, .int .u8 xa_b, .int .u8 xa_a, .bool xa_f, .int .i16 xb_x, .int .i16 xb_y, .int .i16 xb_z, .int .i16 xb_w, .int .u8 xb_r, .int .u8 xb_g, .int .u8 xb_b, .int .u8 xb_a, .bool xb_f, .int .i16 xc_x, .int .i16 xc_y, .int .i16 xc_z, .int .i16 xc_w, .int .u8 xc_r, .int .u8 xc_g, .int .u8 xc_b, .int .u8 xc_a, .bool xc_f] 27)) := ((Ext.refl w).alloc _ _)
  have D0 := (Blk.new w #[.int .i16 xa_x, .int .i16 xa_y, .int .i16 xa_z, .int .i16 xa_w, .int .u8 xa_r, .int .u8 xa_g, .int .u8 xa_b, .int .u8 xa_a, .bool xa_f, .int .i16 xb_x, .int .i16 xb_y, .int .i16 xb_z, .int .i16 xb_w, .int .u8 xb_r, .int .u8 xb_g, .int .u8 xb_b, .int .u8 xb_a, .bool xb_f, .int .i16 xc_x, .int .i16 xc_y, .int .i16 xc_z, .int .i16 xc_w, .int .u8 xc_r, .int .u8 xc_g, .int .u8 xc_b, .int .u8 xc_a, .bool xc_f] 27)
  go_enter Try.func6, Try.ntmps6
  go_upto_region 1 with fail

  generalize (w.alloc (.cells #[.int .i16 xa_x, .int .i16 xa_y, .int .i16 xa_z, .int .i16 xa_w, .int .u8 xa_r, .int .u8 xa_g, .int .u8 xa_b, .int .u8 xa_a, .bool xa_f, .int .i16 xb_x, .int .i16 xb_y, .int .i16 xb_z, .int .i16 xb_w, .int .u8 xb_r, .int .u8 xb_g, .int .u8 xb_b, .int .u8 xb_a, .bool xb_f, .int .i16 xc_x, .int .i16 xc_y, .int .i16 xc_z, .int .i16 xc_w, .int .u8 xc_r, .int .u8 xc_g, .int .u8 xc_b, .int .u8 xc_a, .bool xc_f] 27)) = w0 at *
  go_wp2_with fail
  refine (awake13_any _).mono ?_
  rintro e w1 ⟨rfl, x1⟩
  have xx := xx.trans x1
  have D0 := D0.ext x1
  clear x1
  go_wp2_with (first
    | ((with_reducible refine wpList_load_blk (op := ⟨some 29, _, _, _, _, _⟩) ?_ 27 (.tmp 4) ?_ (w.heap.size) ?_ (z := _) (T := 27) D0 Try.underlying27 ?_ ?_ ?_); rfl; rfl; rfl; rfl; kernel_rfl)
    | fail)
  refine (HV.out _).mono ?_
  rintro e w2 ⟨rfl, x1⟩
  have xx := xx.trans x1
  clear x1
  have B9 := (Blk.new w2 #[.int .i64 0, .int .i64 0, .int .i64 0, .int .i64 0, .int .i64 0, .int .i64 0, .int .i64 0, .int .i64 0, .int .i64 0, .int .i64 0, .int .i64 0, .int .i64 0, .int .i64 0, .int .i64 0, .int .i64 0, .int .i64 0, .int .i64 0, .int .i64 0, .int .i64 0, .int .i64 0, .int .i64 0, .int .i64 0, .int .i64 0, .int .i64 0] 33).setRow #[.int .i64 a0, .int .i64 a1, .int .i64 a2, .int .i64 a3, .int .i64 a4, .int .i64 a5, .int .i64 a6, .int .i64 a7, .int .i64 b0, .int .i64 b1, .int .i64 b2, .int .i64 b3, .int .i64 b4, .int .i64 b5, .int .i64 b6, .int .i64 b7, .int .i64 c0, .int .i64 c1, .int .i64 c2, .int .i64 c3, .int .i64 c4, .int .i64 c5, .int .i64 c6, .int .i64 c7]
  have y1 : Ext w2 ((w2.alloc (.cells #[.int .i64 0, .int .i64 0, .int .i64 0, .int .i64 0, .int .i64 0, .int .i64 0, .int .i64 0, .int .i64 0, .int .i64 0, .int .i64 0, .int .i64 0, .int .i64 0, .int .i64 0, .int .i64 0, .int .i64 0, .int .i64 0, .int .i64 0, .int .i64 0, .int .i64 0, .int .i64 0, .int .i64 0, .int .i64 0, .int .i64 0, .int .i64 0] 33)).setRow w2.heap.size #[.int .i64 a0, .int .i64 a1, .int .i64 a2, .int .i64 a3, .int .i64 a4, .int .i64 a5, .int .i64 a6, .int .i64 a7, .int .i64 b0, .int .i64 b1, .int .i64 b2, .int .i64 b3, .int .i64 b4, .int .i64 b5, .int .i64 b6, .int .i64 b7, .int .i64 c0, .int .i64 c1, .int .i64 c2, .int .i64 c3, .int .i64 c4, .int .i64 c5, .int .i64 c6, .int .i64 c7]) := ((Ext.refl _).alloc _ _).setRow (Nat.le_refl _) _
  go_upto_region 4 with (first
    | ((with_reducible refine wpList_store_blk (op := ⟨none, .store 33 (.tmp 9) (.tmp 30), _, _, _, _⟩) ?_ 33 (.tmp 9) (.tmp 30) ?_ (w2.heap.size) ?_ (cs := #[.int .i64 a0, .int .i64 a1, .int .i64 a2, .int .i64 a3, .int .i64 a4, .int .i64 a5, .int .i64 a6, .int .i64 a7, .int .i64 b0, .int .i64 b1, .int .i64 b2, .int .i64 b3, .int .i64 b4, .int .i64 b5, .int .i64 b6, .int .i64 b7, .int .i64 c0, .int .i64 c1, .int .i64 c2, .int .i64 c3, .int .i64 c4, .int .i64 c5, .int .i64 c6, .int .i64 c7]) ?_ (z := #[.int .i64 0, .int .i64 0, .int .i64 0, .int .i64 0, .int .i64 0, .int .i64 0, .int .i64 0, .int .i64 0, .int .i64 0, .int .i64 0, .int .i64 0, .int .i64 0, .int .i64 0, .int .i64 0, .int .i64 0, .int .i64 0, .int .i64 0, .int .i64 0, .int .i64 0, .int .i64 0, .int .i64 0, .int .i64 0, .int .i64 0, .int .i64 0]) (T := 33) ?_ ?_ ?_ ?_ ?_); rfl; rfl; rfl; rfl; exact Blk.new w2 _ _; kernel_rfl; kernel_rfl; kernel_rfl)
    | fail)
  try simp only [Act.put]
  have xx := xx.trans y1
  clear y1
  generalize (w2.alloc (.cells #[.int .i64 0, .int .i64 0, .int .i64 0, .int .i64 0, .int .i64 0, .int .i64 0, .int .i64 0, .int .i64 0, .int .i64 0, .int .i64 0, .int .i64 0, .int .i64 0, .int .i64 0, .int .i64 0, .int .i64 0, .int .i64 0, .int .i64 0, .int .i64 0, .int .i64 0, .int .i64 0, .int .i64 0, .int .i64 0, .int .i64 0, .int .i64 0] 33)).setRow w2.heap.size #[.int .i64 a0, .int .i64 a1, .int .i64 a2, .int .i64 a3, .int .i64 a4, .int .i64 a5, .int .i64 a6, .int .i64 a7, .int .i64 b0, .int .i64 b1, .int .i64 b2, .int .i64 b3, .int .i64 b4, .int .i64 b5, .int .i64 b6, .int .i64 b7, .int .i64 c0, .int .i64 c1, .int .i64 c2, .int .i64 c3, .int .i64 c4, .int .i64 c5, .int .i64 c6, .int .i64 c7] = w3 at *
  generalize hbe : w2.heap.size = b9 at *
  clear hbe
  clear D0
  go_upto_region 5 with fail
  apply wp_region_vars [false, false, false, false, false, false, false, false, false, false, false, false, false, false, false, true, true, true, true, true, true] [] [⟨some 15, 11, 0, some 18, 59, #[.int .i64 0, .int .i64 0, .int .i64 0, .int .i64 0, .int .i64 0, .int .i64 0, .int .i64 0, .int .i64 0], #[.int .i64 ca0, .int .i64 ca1, .int .i64 ca2, .int .i64 ca3, .int .i64 ca4, .int .i64 ca5, .int .i64 ca6, .int .i64 ca7]⟩, ⟨some 16, 12, 0, some 19, 59, #[.int .i64 0, .int .i64 0, .int .i64 0, .int .i64 0, .int .i64 0, .int .i64 0, .int .i64 0, .int .i64 0], #[.int .i64 cb0, .int .i64 cb1, .int .i64 cb2, .int .i64 cb3, .int .i64 cb4, .int .i64 cb5, .int .i64 cb6, .int .i64 cb7]⟩, ⟨some 17, 13, 0, some 20, 59, #[.int .i64 0, .int .i64 0, .int .i64 0, .int .i64 0, .int .i64 0, .int .i64 0, .int .i64 0, .int .i64 0], #[.int .i64 cc0, .int .i64 cc1, .int .i64 cc2, .int .i64 cc3, .int .i64 cc4, .int .i64 cc5, .int .i64 cc6, .int .i64 cc7]⟩] _ (by kernel_rfl) (by kernel_rfl) (by kernel_rfl)
  case H =>
    intro x0 hx
    have hne : Nonempty (Wx x0) := ⟨⟨x0, Ext.refl x0⟩⟩
    have kB9 := fun (y : Wx x0) => (B9.calm hx (by simp)).ext y.ext
    have qB9 := fun (y : Wx x0) => ((B9.calm hx (by simp)).ext y.ext).cell
    simp only [eraseM]
    repeat (go_big_quiet_step (first | (go_at_call 15; with_reducible exact calm_of (HO1.out _)) | (go_at_call 15; with_reducible exact calm_of (HO2.out _)) | (go_at_call 15; with_reducible exact calm_of (HO3.out _))))
    exact wpQuiet_nil rfl
  case hok =>
    simp only [List.forall_mem_cons, List.not_mem_nil, false_implies, implies_true, and_true]
    exact ⟨tgt_fresh (by simp) rfl rfl mkCn rfl rfl rfl rfl (by kernel_rfl) (by kernel_rfl) rfl, tgt_fresh (by simp) rfl rfl mkCn rfl rfl rfl rfl (by kernel_rfl) (by kernel_rfl) rfl, tgt_fresh (by simp) rfl rfl mkCn rfl rfl rfl rfl (by kernel_rfl) (by kernel_rfl) rfl⟩
  case hdis =>
    intro k k' t t' hk hk' _ ha
    exfalso
    have := List.mem_of_getElem? hk
    simp only [List.mem_cons, List.not_mem_nil, or_false] at this
    rcases this with rfl | rfl | rfl <;> cases ha
  rintro w4 f hw ⟨zk0, zl0, zd0, zu0, zk1, zl1, zd1, zu1, zk2, zl2, zd2, zu2, -⟩
  have xx := xx.trans hw.ext
  simp only [pairs, putAll, Option.isSome_some, if_true, Act.put, List.setIfInBounds_toArray, List.set_cons_succ, List.set_cons_zero, Nat.zero_add]
  generalize f 0 = z11 at *
  generalize f 1 = z12 at *
  generalize f 2 = z13 at *
  have B11 : Blk w4 z11 #[.int .i64 ca0, .int .i64 ca1, .int .i64 ca2, .int .i64 ca3, .int .i64 ca4, .int .i64 ca5, .int .i64 ca6, .int .i64 ca7] 59 := zd0
  have B12 : Blk w4 z12 #[.int .i64 cb0, .int .i64 cb1, .int .i64 cb2, .int .i64 cb3, .int .i64 cb4, .int .i64 cb5, .int .i64 cb6, .int .i64 cb7] 59 := zd1
  have B13 : Blk w4 z13 #[.int .i64 cc0, .int .i64 cc1, .int .i64 cc2, .int .i64 cc3, .int .i64 cc4, .int .i64 cc5, .int .i64 cc6, .int .i64 cc7] 59 := zd2
  clear zk0 zl0 zd0 zu0 zk1 zl1 zd1 zu1 zk2 zl2 zd2 zu2 hw
  clear B9
  go_wp2_with (first
    | ((with_reducible refine wpList_load_blk (op := ⟨some 51, _, _, _, _, _⟩) ?_ 59 (.tmp 11) ?_ (z11) ?_ (z := _) (T := 59) B11 Try.underlying59 ?_ ?_ ?_); rfl; rfl; rfl; rfl; kernel_rfl)
    | ((with_reducible refine wpList_load_blk (op := ⟨some 52, _, _, _, _, _⟩) ?_ 59 (.tmp 12) ?_ (z12) ?_ (z := _) (T := 59) B12 Try.underlying59 ?_ ?_ ?_); rfl; rfl; rfl; rfl; kernel_rfl)
    | ((with_reducible refine wpList_load_blk (op := ⟨some 53, _, _, _, _, _⟩) ?_ 59 (.tmp 13) ?_ (z13) ?_ (z := _) (T := 59) B13 Try.underlying59 ?_ ?_ ?_); rfl; rfl; rfl; rfl; kernel_rfl)
    | fail)
  refine (HM.out _).mono ?_
  rintro e w5_0 ⟨rfl, x1⟩
  have xx := xx.trans x1
  have B11 := B11.ext x1
  have B12 := B12.ext x1
  have B13 := B13.ext x1
  clear x1
  have B14 := (Blk.new w5_0 #[.int .i64 0, .int .i64 0, .int .i64 0, .int .i64 0, .int .i64 0, .int .i64 0, .int .i64 0, .int .i64 0, .int .i64 0, .int .i64 0, .int .i64 0, .int .i64 0, .int .i64 0, .int .i64 0, .int .i64 0, .int .i64 0, .int .i64 0, .int .i64 0, .int .i64 0, .int .i64 0, .int .i64 0, .int .i64 0, .int .i64 0, .int .i64 0] 55).setRow #[.int .i64 m0, .int .i64 m1, .int .i64 m2, .int .i64 m3, .int .i64 m4, .int .i64 m5, .int .i64 m6, .int .i64 m7, .int .i64 m8, .int .i64 m9, .int .i64 m10, .int .i64 m11, .int .i64 m12, .int .i64 m13, .int .i64 m14, .int .i64 m15, .int .i64 m16, .int .i64 m17, .int .i64 m18, .int .i64 m19, .int .i64 m20, .int .i64 m21, .int .i64 m22, .int .i64 m23]
  have y1 : Ext w5_0 ((w5_0.alloc (.cells #[.int .i64 0, .int .i64 0, .int .i64 0, .int .i64 0, .int .i64 0, .int .i64 0, .int .i64 0, .int .i64 0, .int .i64 0, .int .i64 0, .int .i64 0, .int .i64 0, .int .i64 0, .int .i64 0, .int .i64 0, .int .i64 0, .int .i64 0, .int .i64 0, .int .i64 0, .int .i64 0, .int .i64 0, .int .i64 0, .int .i64 0, .int .i64 0] 55)).setRow w5_0.heap.size #[.int .i64 m0, .int .i64 m1, .int .i64 m2, .int .i64 m3, .int .i64 m4, .int .i64 m5, .int .i64 m6, .int .i64 m7, .int .i64 m8, .int .i64 m9, .int .i64 m10, .int .i64 m11, .int .i64 m12, .int .i64 m13, .int .i64 m14, .int .i64 m15, .int .i64 m16, .int .i64 m17, .int .i64 m18, .int .i64 m19, .int .i64 m20, .int .i64 m21, .int .i64 m22, .int .i64 m23]) := ((Ext.refl _).alloc _ _).setRow (Nat.le_refl _) _
  go_upto_region 7 with (first
    | ((with_reducible refine wpList_store_blk (op := ⟨none, .store 55 (.tmp 14) (.tmp 55), _, _, _, _⟩) ?_ 55 (.tmp 14) (.tmp 55) ?_ (w5_0.heap.size) ?_ (cs := #[.int .i64 m0, .int .i64 m1, .int .i64 m2, .int .i64 m3, .int .i64 m4, .int .i64 m5, .int .i64 m6, .int .i64 m7, .int .i64 m8, .int .i64 m9, .int .i64 m10, .int .i64 m11, .int .i64 m12, .int .i64 m13, .int .i64 m14, .int .i64 m15, .int .i64 m16, .int .i64 m17, .int .i64 m18, .int .i64 m19, .int .i64 m20, .int .i64 m21, .int .i64 m22, .int .i64 m23]) ?_ (z := #[.int .i64 0, .int .i64 0, .int .i64 0, .int .i64 0, .int .i64 0, .int .i64 0, .int .i64 0, .int .i64 0, .int .i64 0, .int .i64 0, .int .i64 0, .int .i64 0, .int .i64 0, .int .i64 0, .int .i64 0, .int .i64 0, .int .i64 0, .int .i64 0, .int .i64 0, .int .i64 0, .int .i64 0, .int .i64 0, .int .i64 0, .int .i64 0]) (T := 55) ?_ ?_ ?_ ?_ ?_); rfl; rfl; rfl; rfl; exact Blk.new w5_0 _ _; kernel_rfl; kernel_rfl; kernel_rfl)
    | fail)
  try simp only [Act.put]
  have xx := xx.trans y1
  have B11 := B11.ext y1
  have B12 := B12.ext y1
  have B13 := B13.ext y1
  clear y1
  generalize (w5_0.alloc (.cells #[.int .i64 0, .int .i64 0, .int .i64 0, .int .i64 0, .int .i64 0, .int .i64 0, .int .i64 0, .int .i64 0, .int .i64 0, .int .i64 0, .int .i64 0, .int .i64 0, .int .i64 0, .int .i64 0, .int .i64 0, .int .i64 0, .int .i64 0, .int .i64 0, .int .i64 0, .int .i64 0, .int .i64 0, .int .i64 0, .int .i64 0, .int .i64 0] 55)).setRow w5_0.heap.size #[.int .i64 m0, .int .i64 m1, .int .i64 m2, .int .i64 m3, .int .i64 m4, .int .i64 m5, .int .i64 m6, .int .i64 m7, .int .i64 m8, .int .i64 m9, .int .i64 m10, .int .i64 m11, .int .i64 m12, .int .i64 m13, .int .i64 m14, .int .i64 m15, .int .i64 m16, .int .i64 m17, .int .i64 m18, .int .i64 m19, .int .i64 m20, .int .i64 m21, .int .i64 m22, .int .i64 m23] = w6_0 at *
  generalize hbe : w5_0.heap.size = b14 at *
  clear hbe
  go_wp2_with (first
    | ((with_reducible refine wpList_load_blk (op := ⟨some 58, _, _, _, _, _⟩) ?_ 59 (.tmp 11) ?_ (z11) ?_ (z := _) (T := 59) B11 Try.underlying59 ?_ ?_ ?_); rfl; rfl; rfl; rfl; kernel_rfl)
    | ((with_reducible refine wpList_load_blk (op := ⟨some 59, _, _, _, _, _⟩) ?_ 59 (.tmp 13) ?_ (z13) ?_ (z := _) (T := 59) B13 Try.underlying59 ?_ ?_ ?_); rfl; rfl; rfl; rfl; kernel_rfl)
    | ((with_reducible refine wpList_load_blk (op := ⟨some 60, _, _, _, _, _⟩) ?_ 59 (.tmp 12) ?_ (z12) ?_ (z := _) (T := 59) B12 Try.underlying59 ?_ ?_ ?_); rfl; rfl; rfl; rfl; kernel_rfl)
    | fail)
  refine (HQ.out _).mono ?_
  rintro e w5_1 ⟨rfl, x1⟩
  have xx := xx.trans x1
  have B11 := B11.ext x1
  have B12 := B12.ext x1
  have B13 := B13.ext x1
  have B14 := B14.ext x1
  clear x1
  have B16 := (Blk.new w5_1 #[.int .i64 0, .int .i64 0, .int .i64 0, .int .i64 0, .int .i64 0, .int .i64 0, .int .i64 0, .int .i64 0, .int .i64 0, .int .i64 0, .int .i64 0, .int .i64 0, .int .i64 0, .int .i64 0, .int .i64 0, .int .i64 0, .int .i64 0, .int .i64 0, .int .i64 0, .int .i64 0, .int .i64 0, .int .i64 0, .int .i64 0, .int .i64 0] 55).setRow #[.int .i64 m0, .int .i64 m1, .int .i64 m2, .int .i64 m3, .int .i64 m4, .int .i64 m5, .int .i64 m6, .int .i64 m7, .int .i64 m8, .int .i64 m9, .int .i64 m10, .int .i64 m11, .int .i64 m12, .int .i64 m13, .int .i64 m14, .int .i64 m15, .int .i64 m16, .int .i64 m17, .int .i64 m18, .int .i64 m19, .int .i64 m20, .int .i64 m21, .int .i64 m22, .int .i64 m23]
  have y1 : Ext w5_1 ((w5_1.alloc (.cells #[.int .i64 0, .int .i64 0, .int .i64 0, .int .i64 0, .int .i64 0, .int .i64 0, .int .i64 0, .int .i64 0, .int .i64 0, .int .i64 0, .int .i64 0, .int .i64 0, .int .i64 0, .int .i64 0, .int .i64 0, .int .i64 0, .int .i64 0, .int .i64 0, .int .i64 0, .int .i64 0, .int .i64 0, .int .i64 0, .int .i64 0, .int .i64 0] 55)).setRow w5_1.heap.size #[.int .i64 m0, .int .i64 m1, .int .i64 m2, .int .i64 m3, .int .i64 m4, .int .i64 m5, .int .i64 m6, .int .i64 m7, .int .i64 m8, .int .i64 m9, .int .i64 m10, .int .i64 m11, .int .i64 m12, .int .i64 m13, .int .i64 m14, .int .i64 m15, .int .i64 m16, .int .i64 m17, .int .i64 m18, .int .i64 m19, .int .i64 m20, .int .i64 m21, .int .i64 m22, .int .i64 m23]) := ((Ext.refl _).alloc _ _).setRow (Nat.le_refl _) _
  go_upto_region 8 with (first
    | ((with_reducible refine wpList_store_blk (op := ⟨none, .store 55 (.tmp 16) (.tmp 62), _, _, _, _⟩) ?_ 55 (.tmp 16) (.tmp 62) ?_ (w5_1.heap.size) ?_ (cs := #[.int .i64 m0, .int .i64 m1, .int .i64 m2, .int .i64 m3, .int .i64 m4, .int .i64 m5, .int .i64 m6, .int .i64 m7, .int .i64 m8, .int .i64 m9, .int .i64 m10, .int .i64 m11, .int .i64 m12, .int .i64 m13, .int .i64 m14, .int .i64 m15, .int .i64 m16, .int .i64 m17, .int .i64 m18, .int .i64 m19, .int .i64 m20, .int .i64 m21, .int .i64 m22, .int .i64 m23]) ?_ (z := #[.int .i64 0, .int .i64 0, .int .i64 0, .int .i64 0, .int .i64 0, .int .i64 0, .int .i64 0, .int .i64 0, .int .i64 0, .int .i64 0, .int .i64 0, .int .i64 0, .int .i64 0, .int .i64 0, .int .i64 0, .int .i64 0, .int .i64 0, .int .i64 0, .int .i64 0, .int .i64 0, .int .i64 0, .int .i64 0, .int .i64 0, .int .i64 0]) (T := 55) ?_ ?_ ?_ ?_ ?_); rfl; rfl; rfl; rfl; exact Blk.new w5_1 _ _; kernel_rfl; kernel_rfl; kernel_rfl)
    | fail)
  try simp only [Act.put]
  have xx := xx.trans y1
  have B11 := B11.ext y1
  have B12 := B12.ext y1
  have B13 := B13.ext y1
  have B14 := B14.ext y1
  clear y1
  generalize (w5_1.alloc (.cells #[.int .i64 0, .int .i64 0, .int .i64 0, .int .i64 0, .int .i64 0, .int .i64 0, .int .i64 0, .int .i64 0, .int .i64 0, .int .i64 0, .int .i64 0, .int .i64 0, .int .i64 0, .int .i64 0, .int .i64 0, .int .i64 0, .int .i64 0, .int .i64 0, .int .i64 0, .int .i64 0, .int .i64 0, .int .i64 0, .int .i64 0, .int .i64 0] 55)).setRow w5_1.heap.size #[.int .i64 m0, .int .i64 m1, .int .i64 m2, .int .i64 m3, .int .i64 m4, .int .i64 m5, .int .i64 m6, .int .i64 m7, .int .i64 m8, .int .i64 m9, .int .i64 m10, .int .i64 m11, .int .i64 m12, .int .i64 m13, .int .i64 m14, .int .i64 m15, .int .i64 m16, .int .i64 m17, .int .i64 m18, .int .i64 m19, .int .i64 m20, .int .i64 m21, .int .i64 m22, .int .i64 m23] = w6_1 at *
  generalize hbe : w5_1.heap.size = b16 at *
  clear hbe
  have hq := eqT55 m0 m1 m2 m3 m4 m5 m6 m7 m8 m9 m10 m11 m12 m13 m14 m15 m16 m17 m18 m19 m20 m21 m22 m23
  go_upto_region 10 with (first
    | ((with_reducible refine wpList_load_blkG (op := ⟨some 70, _, _, _, _, _⟩) ?_ 55 (.tmp 14) ?_ b14 ?_ (z := _) (T := 55) B14 Try.underlying55 ?_ ?_ ?_); rfl; rfl; rfl; rfl; kernel_rfl)
    | ((with_reducible refine wpList_load_blkG (op := ⟨some 71, _, _, _, _, _⟩) ?_ 55 (.tmp 16) ?_ b16 ?_ (z := _) (T := 55) B16 Try.underlying55 ?_ ?_ ?_); rfl; rfl; rfl; rfl; kernel_rfl)
    | fail)
  clear hq B16
  go_wp2_with (first
    | ((with_reducible refine wpList_load_blk (op := ⟨some 76, _, _, _, _, _⟩) ?_ 59 (.tmp 11) ?_ (z11) ?_ (z := _) (T := 59) B11 Try.underlying59 ?_ ?_ ?_); rfl; rfl; rfl; rfl; kernel_rfl)
    | ((with_reducible refine wpList_load_blk (op := ⟨some 77, _, _, _, _, _⟩) ?_ 59 (.tmp 12) ?_ (z12) ?_ (z := _) (T := 59) B12 Try.underlying59 ?_ ?_ ?_); rfl; rfl; rfl; rfl; kernel_rfl)
    | ((with_reducible refine wpList_load_blk (op := ⟨some 78, _, _, _, _, _⟩) ?_ 59 (.tmp 13) ?_ (z13) ?_ (z := _) (T := 59) B13 Try.underlying59 ?_ ?_ ?_); rfl; rfl; rfl; rfl; kernel_rfl)
    | fail)
  refine (HB.out _).mono ?_
  rintro e w7_0 ⟨rfl, x1⟩
  have xx := xx.trans x1
  have B11 := B11.ext x1
  have B12 := B12.ext x1
  have B13 := B13.ext x1
  have B14 := B14.ext x1
  clear x1
  have BB0 := (Blk.new w7_0 #[.int .i64 0, .int .i64 0, .int .i64 0, .int .i64 0, .int .i64 0, .int .i64 0, .int .i64 0, .int .i64 0, .int .i64 0, .int .i64 0, .int .i64 0, .int .i64 0, .int .i64 0, .int .i64 0, .int .i64 0, .int .i64 0, .int .i64 0, .int .i64 0, .int .i64 0, .int .i64 0, .int .i64 0, .int .i64 0, .int .i64 0, .int .i64 0] 55).setRow #[.int .i64 nx0, .int .i64 nx1, .int .i64 nx2, .int .i64 nx3, .int .i64 nx4, .int .i64 nx5, .int .i64 nx6, .int .i64 nx7, .int .i64 nx8, .int .i64 nx9, .int .i64 nx10, .int .i64 nx11, .int .i64 nx12, .int .i64 nx13, .int .i64 nx14, .int .i64 nx15, .int .i64 nx16, .int .i64 nx17, .int .i64 nx18, .int .i64 nx19, .int .i64 nx20, .int .i64 nx21, .int .i64 nx22, .int .i64 nx23]
  have y1 : Ext w7_0 ((w7_0.alloc (.cells #[.int .i64 0, .int .i64 0, .int .i64 0, .int .i64 0, .int .i64 0, .int .i64 0, .int .i64 0, .int .i64 0, .int .i64 0, .int .i64 0, .int .i64 0, .int .i64 0, .int .i64 0, .int .i64 0, .int .i64 0, .int .i64 0, .int .i64 0, .int .i64 0, .int .i64 0, .int .i64 0, .int .i64 0, .int .i64 0, .int .i64 0, .int .i64 0] 55)).setRow w7_0.heap.size #[.int .i64 nx0, .int .i64 nx1, .int .i64 nx2, .int .i64 nx3, .int .i64 nx4, .int .i64 nx5, .int .i64 nx6, .int .i64 nx7, .int .i64 nx8, .int .i64 nx9, .int .i64 nx10, .int .i64 nx11, .int .i64 nx12, .int .i64 nx13, .int .i64 nx14, .int .i64 nx15, .int .i64 nx16, .int .i64 nx17, .int .i64 nx18, .int .i64 nx19, .int .i64 nx20, .int .i64 nx21, .int .i64 nx22, .int .i64 nx23]) := ((Ext.refl _).alloc _ _).setRow (Nat.le_refl _) _
  go_upto_region 11 with (first
    | ((with_reducible refine wpList_store_blk (op := ⟨none, .store 55 (.tmp 18) (.tmp 80), _, _, _, _⟩) ?_ 55 (.tmp 18) (.tmp 80) ?_ (w7_0.heap.size) ?_ (cs := #[.int .i64 nx0, .int .i64 nx1, .int .i64 nx2, .int .i64 nx3, .int .i64 nx4, .int .i64 nx5, .int .i64 nx6, .int .i64 nx7, .int .i64 nx8, .int .i64 nx9, .int .i64 nx10, .int .i64 nx11, .int .i64 nx12, .int .i64 nx13, .int .i64 nx14, .int .i64 nx15, .int .i64 nx16, .int .i64 nx17, .int .i64 nx18, .int .i64 nx19, .int .i64 nx20, .int .i64 nx21, .int .i64 nx22, .int .i64 nx23]) ?_ (z := #[.int .i64 0, .int .i64 0, .int .i64 0, .int .i64 0, .int .i64 0, .int .i64 0, .int .i64 0, .int .i64 0, .int .i64 0, .int .i64 0, .int .i64 0, .int .i64 0, .int .i64 0, .int .i64 0, .int .i64 0, .int .i64 0, .int .i64 0, .int .i64 0, .int .i64 0, .int .i64 0, .int .i64 0, .int .i64 0, .int .i64 0, .int .i64 0]) (T := 55) ?_ ?_ ?_ ?_ ?_); rfl; rfl; rfl; rfl; exact Blk.new w7_0 _ _; kernel_rfl; kernel_rfl; kernel_rfl)
    | fail)
  try simp only [Act.put]
  have xx := xx.trans y1
  have B11 := B11.ext y1
  have B12 := B12.ext y1
  have B13 := B13.ext y1
  have B14 := B14.ext y1
  clear y1
  generalize (w7_0.alloc (.cells #[.int .i64 0, .int .i64 0, .int .i64 0, .int .i64 0, .int .i64 0, .int .i64 0, .int .i64 0, .int .i64 0, .int .i64 0, .int .i64 0, .int .i64 0, .int .i64 0, .int .i64 0, .int .i64 0, .int .i64 0, .int .i64 0, .int .i64 0, .int .i64 0, .int .i64 0, .int .i64 0, .int .i64 0, .int .i64 0, .int .i64 0, .int .i64 0] 55)).setRow w7_0.heap.size #[.int .i64 nx0, .int .i64 nx1, .int .i64 nx2, .int .i64 nx3, .int .i64 nx4, .int .i64 nx5, .int .i64 nx6, .int .i64 nx7, .int .i64 nx8, .int .i64 nx9, .int .i64 nx10, .int .i64 nx11, .int .i64 nx12, .int .i64 nx13, .int .i64 nx14, .int .i64 nx15, .int .i64 nx16, .int .i64 nx17, .int .i64 nx18, .int .i64 nx19, .int .i64 nx20, .int .i64 nx21, .int .i64 nx22, .int .i64 nx23] = w8_0 at *
  generalize hbe : w7_0.heap.size = bb0 at *
  clear hbe
  clear BB0
  go_wp2_with (first
    | ((with_reducible refine wpList_load_blk (op := ⟨some 83, _, _, _, _, _⟩) ?_ 59 (.tmp 11) ?_ (z11) ?_ (z := _) (T := 59) B11 Try.underlying59 ?_ ?_ ?_); rfl; rfl; rfl; rfl; kernel_rfl)
    | ((with_reducible refine wpList_load_blk (op := ⟨some 84, _, _, _, _, _⟩) ?_ 59 (.tmp 12) ?_ (z12) ?_ (z := _) (T := 59) B12 Try.underlying59 ?_ ?_ ?_); rfl; rfl; rfl; rfl; kernel_rfl)
    | ((with_reducible refine wpList_load_blk (op := ⟨some 85, _, _, _, _, _⟩) ?_ 59 (.tmp 13) ?_ (z13) ?_ (z := _) (T := 59) B13 Try.underlying59 ?_ ?_ ?_); rfl; rfl; rfl; rfl; kernel_rfl)
    | fail)
  refine (HF.out _).mono ?_
  rintro e w7_1 ⟨rfl, x1⟩
  have xx := xx.trans x1
  have B11 := B11.ext x1
  have B12 := B12.ext x1
  have B13 := B13.ext x1
  have B14 := B14.ext x1
  clear x1
  have BB1 := (Blk.new w7_1 #[.int .i64 0, .int .i64 0, .int .i64 0, .int .i64 0, .int .i64 0, .int .i64 0, .int .i64 0, .int .i64 0, .int .i64 0, .int .i64 0, .int .i64 0, .int .i64 0, .int .i64 0, .int .i64 0, .int .i64 0, .int .i64 0, .int .i64 0, .int .i64 0, .int .i64 0, .int .i64 0, .int .i64 0, .int .i64 0, .int .i64 0, .int .i64 0] 55).setRow #[.int .i64 ny0, .int .i64 ny1, .int .i64 ny2, .int .i64 ny3, .int .i64 ny4, .int .i64 ny5, .int .i64 ny6, .int .i64 ny7, .int .i64 ny8, .int .i64 ny9, .int .i64 ny10, .int .i64 ny11, .int .i64 ny12, .int .i64 ny13, .int .i64 ny14, .int .i64 ny15, .int .i64 ny16, .int .i64 ny17, .int .i64 ny18, .int .i64 ny19, .int .i64 ny20, .int .i64 ny21, .int .i64 ny22, .int .i64 ny23]
  have y1 : Ext w7_1 ((w7_1.alloc (.cells #[.int .i64 0, .int .i64 0, .int .i64 0, .int .i64 0, .int .i64 0, .int .i64 0, .int .i64 0, .int .i64 0, .int .i64 0, .int .i64 0, .int .i64 0, .int .i64 0, .int .i64 0, .int .i64 0, .int .i64 0, .int .i64 0, .int .i64 0, .int .i64 0, .int .i64 0, .int .i64 0, .int .i64 0, .int .i64 0, .int .i64 0, .int .i64 0] 55)).setRow w7_1.heap.size #[.int .i64 ny0, .int .i64 ny1, .int .i64 ny2, .int .i64 ny3, .int .i64 ny4, .int .i64 ny5, .int .i64 ny6, .int .i64 ny7, .int .i64 ny8, .int .i64 ny9, .int .i64 ny10, .int .i64 ny11, .int .i64 ny12, .int .i64 ny13, .int .i64 ny14, .int .i64 ny15, .int .i64 ny16, .int .i64 ny17, .int .i64 ny18, .int .i64 ny19, .int .i64 ny20, .int .i64 ny21, .int .i64 ny22, .int .i64 ny23]) := ((Ext.refl _).alloc _ _).setRow (Nat.le_refl _) _
  go_upto_region 12 with (first
    | ((with_reducible refine wpList_store_blk (op := ⟨none, .store 55 (.tmp 20) (.tmp 87), _, _, _, _⟩) ?_ 55 (.tmp 20) (.tmp 87) ?_ (w7_1.heap.size) ?_ (cs := #[.int .i64 ny0, .int .i64 ny1, .int .i64 ny2, .int .i64 ny3, .int .i64 ny4, .int .i64 ny5, .int .i64 ny6, .int .i64 ny7, .int .i64 ny8, .int .i64 ny9, .int .i64 ny10, .int .i64 ny11, .int .i64 ny12, .int .i64 ny13, .int .i64 ny14, .int .i64 ny15, .int .i64 ny16, .int .i64 ny17, .int .i64 ny18, .int .i64 ny19, .int .i64 ny20, .int .i64 ny21, .int .i64 ny22, .int .i64 ny23]) ?_ (z := #[.int .i64 0, .int .i64 0, .int .i64 0, .int .i64 0, .int .i64 0, .int .i64 0, .int .i64 0, .int .i64 0, .int .i64 0, .int .i64 0, .int .i64 0, .int .i64 0, .int .i64 0, .int .i64 0, .int .i64 0, .int .i64 0, .int .i64 0, .int .i64 0, .int .i64 0, .int .i64 0, .int .i64 0, .int .i64 0, .int .i64 0, .int .i64 0]) (T := 55) ?_ ?_ ?_ ?_ ?_); rfl; rfl; rfl; rfl; exact Blk.new w7_1 _ _; kernel_rfl; kernel_rfl; kernel_rfl)
    | fail)
  try simp only [Act.put]
  have xx := xx.trans y1
  have B11 := B11.ext y1
  have B12 := B12.ext y1
  have B13 := B13.ext y1
  have B14 := B14.ext y1
  clear y1
  generalize (w7_1.alloc (.cells #[.int .i64 0, .int .i64 0, .int .i64 0, .int .i64 0, .int .i64 0, .int .i64 0, .int .i64 0, .int .i64 0, .int .i64 0, .int .i64 0, .int .i64 0, .int .i64 0, .int .i64 0, .int .i64 0, .int .i64 0, .int .i64 0, .int .i64 0, .int .i64 0, .int .i64 0, .int .i64 0, .int .i64 0, .int .i64 0, .int .i64 0, .int .i64 0] 55)).setRow w7_1.heap.size #[.int .i64 ny0, .int .i64 ny1, .int .i64 ny2, .int .i64 ny3, .int .i64 ny4, .int .i64 ny5, .int .i64 ny6, .int .i64 ny7, .int .i64 ny8, .int .i64 ny9, .int .i64 ny10, .int .i64 ny11, .int .i64 ny12, .int .i64 ny13, .int .i64 ny14, .int .i64 ny15, .int .i64 ny16, .int .i64 ny17, .int .i64 ny18, .int .i64 ny19, .int .i64 ny20, .int .i64 ny21, .int .i64 ny22, .int .i64 ny23] = w8_1 at *
  generalize hbe : w7_1.heap.size = bb1 at *
  clear hbe
  clear BB1
  go_wp2_with (first
    | ((with_reducible refine wpList_load_blk (op := ⟨some 90, _, _, _, _, _⟩) ?_ 59 (.tmp 11) ?_ (z11) ?_ (z := _) (T := 59) B11 Try.underlying59 ?_ ?_ ?_); rfl; rfl; rfl; rfl; kernel_rfl)
    | ((with_reducible refine wpList_load_blk (op := ⟨some 91, _, _, _, _, _⟩) ?_ 59 (.tmp 13) ?_ (z13) ?_ (z := _) (T := 59) B13 Try.underlying59 ?_ ?_ ?_); rfl; rfl; rfl; rfl; kernel_rfl)
    | ((with_reducible refine wpList_load_blk (op := ⟨some 92, _, _, _, _, _⟩) ?_ 59 (.tmp 12) ?_ (z12) ?_ (z := _) (T := 59) B12 Try.underlying59 ?_ ?_ ?_); rfl; rfl; rfl; rfl; kernel_rfl)
    | fail)
  refine (HT.out _).mono ?_
  rintro e w7_2 ⟨rfl, x1⟩
  have xx := xx.trans x1
  have B11 := B11.ext x1
  have B12 := B12.ext x1
  have B13 := B13.ext x1
  have B14 := B14.ext x1
  clear x1
  have BB2 := (Blk.new w7_2 #[.int .i64 0, .int .i64 0, .int .i64 0, .int .i64 0, .int .i64 0, .int .i64 0, .int .i64 0, .int .i64 0, .int .i64 0, .int .i64 0, .int .i64 0, .int .i64 0, .int .i64 0, .int .i64 0, .int .i64 0, .int .i64 0, .int .i64 0, .int .i64 0, .int .i64 0, .int .i64 0, .int .i64 0, .int .i64 0, .int .i64 0, .int .i64 0] 55).setRow #[.int .i64 nz0, .int .i64 nz1, .int .i64 nz2, .int .i64 nz3, .int .i64 nz4, .int .i64 nz5, .int .i64 nz6, .int .i64 nz7, .int .i64 nz8, .int .i64 nz9, .int .i64 nz10, .int .i64 nz11, .int .i64 nz12, .int .i64 nz13, .int .i64 nz14, .int .i64 nz15, .int .i64 nz16, .int .i64 nz17, .int .i64 nz18, .int .i64 nz19, .int .i64 nz20, .int .i64 nz21, .int .i64 nz22, .int .i64 nz23]
  have y1 : Ext w7_2 ((w7_2.alloc (.cells #[.int .i64 0, .int .i64 0, .int .i64 0, .int .i64 0, .int .i64 0, .int .i64 0, .int .i64 0, .int .i64 0, .int .i64 0, .int .i64 0, .int .i64 0, .int .i64 0, .int .i64 0, .int .i64 0, .int .i64 0, .int .i64 0, .int .i64 0, .int .i64 0, .int .i64 0, .int .i64 0, .int .i64 0, .int .i64 0, .int .i64 0, .int .i64 0] 55)).setRow w7_2.heap.size #[.int .i64 nz0, .int .i64 nz1, .int .i64 nz2, .int .i64 nz3, .int .i64 nz4, .int .i64 nz5, .int .i64 nz6, .int .i64 nz7, .int .i64 nz8, .int .i64 nz9, .int .i64 nz10, .int .i64 nz11, .int .i64 nz12, .int .i64 nz13, .int .i64 nz14, .int .i64 nz15, .int .i64 nz16, .int .i64 nz17, .int .i64 nz18, .int .i64 nz19, .int .i64 nz20, .int .i64 nz21, .int .i64 nz22, .int .i64 nz23]) := ((Ext.refl _).alloc _ _).setRow (Nat.le_refl _) _
  go_upto_region 13 with (first
    | ((with_reducible refine wpList_store_blk (op := ⟨none, .store 55 (.tmp 22) (.tmp 94), _, _, _, _⟩) ?_ 55 (.tmp 22) (.tmp 94) ?_ (w7_2.heap.size) ?_ (cs := #[.int .i64 nz0, .int .i64 nz1, .int .i64 nz2, .int .i64 nz3, .int .i64 nz4, .int .i64 nz5, .int .i64 nz6, .int .i64 nz7, .int .i64 nz8, .int .i64 nz9, .int .i64 nz10, .int .i64 nz11, .int .i64 nz12, .int .i64 nz13, .int .i64 nz14, .int .i64 nz15, .int .i64 nz16, .int .i64 nz17, .int .i64 nz18, .int .i64 nz19, .int .i64 nz20, .int .i64 nz21, .int .i64 nz22, .int .i64 nz23]) ?_ (z := #[.int .i64 0, .int .i64 0, .int .i64 0, .int .i64 0, .int .i64 0, .int .i64 0, .int .i64 0, .int .i64 0, .int .i64 0, .int .i64 0, .int .i64 0, .int .i64 0, .int .i64 0, .int .i64 0, .int .i64 0, .int .i64 0, .int .i64 0, .int .i64 0, .int .i64 0, .int .i64 0, .int .i64 0, .int .i64 0, .int .i64 0, .int .i64 0]) (T := 55) ?_ ?_ ?_ ?_ ?_); rfl; rfl; rfl; rfl; exact Blk.new w7_2 _ _; kernel_rfl; kernel_rfl; kernel_rfl)
    | fail)
  try simp only [Act.put]
  have xx := xx.trans y1
  have B11 := B11.ext y1
  have B12 := B12.ext y1
  have B13 := B13.ext y1
  have B14 := B14.ext y1
  clear y1
  generalize (w7_2.alloc (.cells #[.int .i64 0, .int .i64 0, .int .i64 0, .int .i64 0, .int .i64 0, .int .i64 0, .int .i64 0, .int .i64 0, .int .i64 0, .int .i64 0, .int .i64 0, .int .i64 0, .int .i64 0, .int .i64 0, .int .i64 0, .int .i64 0, .int .i64 0, .int .i64 0, .int .i64 0, .int .i64 0, .int .i64 0, .int .i64 0, .int .i64 0, .int .i64 0] 55)).setRow w7_2.heap.size #[.int .i64 nz0, .int .i64 nz1, .int .i64 nz2, .int .i64 nz3, .int .i64 nz4, .int .i64 nz5, .int .i64 nz6, .int .i64 nz7, .int .i64 nz8, .int .i64 nz9, .int .i64 nz10, .int .i64 nz11, .int .i64 nz12, .int .i64 nz13, .int .i64 nz14, .int .i64 nz15, .int .i64 nz16, .int .i64 nz17, .int .i64 nz18, .int .i64 nz19, .int .i64 nz20, .int .i64 nz21, .int .i64 nz22, .int .i64 nz23] = w8_2 at *
  generalize hbe : w7_2.heap.size = bb2 at *
  clear hbe
  clear BB2
  clear B11 B12 B13
  go_wp2_with (first
    | ((with_reducible refine wpList_load_blk (op := ⟨some 97, _, _, _, _, _⟩) ?_ 55 (.tmp 14) ?_ (b14) ?_ (z := _) (T := 55) B14 Try.underlying55 ?_ ?_ ?_); rfl; rfl; rfl; rfl; kernel_rfl)
    | fail)
  refine (HA.out _).mono ?_
  rintro e w9 ⟨rfl, x1⟩
  have xx := xx.trans x1
  clear x1
  have B25 := (Blk.new w9 #[.int .i64 0, .int .i64 0, .int .i64 0, .int .i64 0] 30).setRow #[.int .i64 k0, .int .i64 k1, .int .i64 k2, .int .i64 k3]
  have y1 : Ext w9 ((w9.alloc (.cells #[.int .i64 0, .int .i64 0, .int .i64 0, .int .i64 0] 30)).setRow w9.heap.size #[.int .i64 k0, .int .i64 k1, .int .i64 k2, .int .i64 k3]) := ((Ext.refl _).alloc _ _).setRow (Nat.le_refl _) _
  go_upto_region 14 with (first
    | ((with_reducible refine wpList_store_blk (op := ⟨none, .store 30 (.tmp 25) (.tmp 106), _, _, _, _⟩) ?_ 30 (.tmp 25) (.tmp 106) ?_ (w9.heap.size) ?_ (cs := #[.int .i64 k0, .int .i64 k1, .int .i64 k2, .int .i64 k3]) ?_ (z := #[.int .i64 0, .int .i64 0, .int .i64 0, .int .i64 0]) (T := 30) ?_ ?_ ?_ ?_ ?_); rfl; rfl; rfl; rfl; exact Blk.new w9 _ _; kernel_rfl; kernel_rfl; kernel_rfl)
    | fail)
  try simp only [Act.put]
  have xx := xx.trans y1
  clear y1
  generalize (w9.alloc (.cells #[.int .i64 0, .int .i64 0, .int .i64 0, .int .i64 0] 30)).setRow w9.heap.size #[.int .i64 k0, .int .i64 k1, .int .i64 k2, .int .i64 k3] = w10 at *
  generalize hbe : w9.heap.size = b25 at *
  clear hbe
  clear B14 B25
  go_wp2_with fail
  go_ret
  exact ⟨rfl, xx⟩
set_option maxRecDepth 100000 in
set_option maxHeartbeats 4000000 in
theorem culls_pos (xa_x xa_y xa_z xa_w xa_r xa_g xa_b xa_a xb_x xb_y xb_z xb_w xb_r xb_g xb_b xb_a xc_x xc_y xc_z xc_w xc_r xc_g xc_b xc_a : Int) (xa_f xb_f xc_f : Bool) (a0 a1 a2 a3 a4 a5 a6 a7 b0 b1 b2 b3 b4 b5 b6 b7 c0 c1 c2 c3 c4 c5 c6 c7 ca0 ca1 ca2 ca3 ca4 ca5 ca6 ca7 cb0 cb1 cb2 cb3 cb4 cb5 cb6 cb7 cc0 cc1 cc2 cc3 cc4 cc5 cc6 cc7 m0 m1 m2 m3 m4 m5 m6 m7 m8 m9 m10 m11 m12 m13 m14 m15 m16 m17 m18 m19 m20 m21 m22 m23 nx0 nx1 nx2 nx3 nx4 nx5 nx6 nx7 nx8 nx9 nx10 nx11 nx12 nx13 nx14 nx15 nx16 nx17 nx18 nx19 nx20 nx21 nx22 nx23 ny0 ny1 ny2 ny3 ny4 ny5 ny6 ny7 ny8 ny9 ny10 ny11 ny12 ny13 ny14 ny15 ny16 ny17 ny18 ny19 ny20 ny21 ny22 ny23 nz0 nz1 nz2 nz3 nz4 nz5 nz6 nz7 nz8 nz9 nz10 nz11 nz12 nz13 nz14 nz15 nz16 nz17 nz18 nz19 nz20 nz21 nz22 nz23 d k0 k1 k2 k3 wd x y n0 n p1 q1 : Int) (cv : Bool) (hn0 : wd.tmod 50 = n0) (hn : 8 + n0 = n) (bn : 0 ≤ n0 ∧ n0 ≤ 49) (hx1 : x.tmod 64 = p1) (hy1 : y.tmod 64 = q1) (bp1 : 0 ≤ p1 ∧ p1 ≤ 63) (bq1 : 0 ≤ q1 ∧ q1 ≤ 63)
    (hV : ∀ u, Calls Try.prog 10 #[.agg #[.int .i16 xa_x, .int .i16 xa_y, .int .i16 xa_z, .int .i16 xa_w, .int .u8 xa_r, .int .u8 xa_g, .int .u8 xa_b, .int .u8 xa_a, .bool xa_f, .int .i16 xb_x, .int .i16 xb_y, .int .i16 xb_z, .int .i16 xb_w, .int .u8 xb_r, .int .u8 xb_g, .int .u8 xb_b, .int .u8 xb_a, .bool xb_f, .int .i16 xc_x, .int .i16 xc_y, .int .i16 xc_z, .int .i16 xc_w, .int .u8 xc_r, .int .u8 xc_g, .int .u8 xc_b, .int .u8 xc_a, .bool xc_f]] u fun e w' => e = .returned (.agg #[.int .i64 a0, .int .i64 a1, .int .i64 a2, .int .i64 a3, .int .i64 a4, .int .i64 a5, .int .i64 a6, .int .i64 a7, .int .i64 b0, .int .i64 b1, .int .i64 b2, .int .i64 b3, .int .i64 b4, .int .i64 b5, .int .i64 b6, .int .i64 b7, .int .i64 c0, .int .i64 c1, .int .i64 c2, .int .i64 c3, .int .i64 c4, .int .i64 c5, .int .i64 c6, .int .i64 c7]) ∧ Ext u w') (hO1 : ∀ u, Calls Try.prog 15 #[.agg #[.int .i64 a0, .int .i64 a1, .int .i64 a2, .int .i64 a3, .int .i64 a4, .int .i64 a5, .int .i64 a6, .int .i64 a7], .int .i64 n, .int .i64 n] u fun e w' => e = .returned (.agg #[.int .i64 ca0, .int .i64 ca1, .int .i64 ca2, .int .i64 ca3, .int .i64 ca4, .int .i64 ca5, .int .i64 ca6, .int .i64 ca7]) ∧ Ext u w') (hO2 : ∀ u, Calls Try.prog 15 #[.agg #[.int .i64 b0, .int .i64 b1, .int .i64 b2, .int .i64 b3, .int .i64 b4, .int .i64 b5, .int .i64 b6, .int .i64 b7], .int .i64 n, .int .i64 n] u fun e w' => e = .returned (.agg #[.int .i64 cb0, .int .i64 cb1, .int .i64 cb2, .int .i64 cb3, .int .i64 cb4, .int .i64 cb5, .int .i64 cb6, .int .i64 cb7]) ∧ Ext u w') (hO3 : ∀ u, Calls Try.prog 15 #[.agg #[.int .i64 c0, .int .i64 c1, .int .i64 c2, .int .i64 c3, .int .i64 c4, .int .i64 c5, .int .i64 c6, .int .i64 c7], .int .i64 n, .int .i64 n] u fun e w' => e = .returned (.agg #[.int .i64 cc0, .int .i64 cc1, .int .i64 cc2, .int .i64 cc3, .int .i64 cc4, .int .i64 cc5, .int .i64 cc6, .int .i64 cc7]) ∧ Ext u w')
    (hM : ∀ u, Calls Try.prog 14 #[.agg #[.int .i64 ca0, .int .i64 ca1, .int .i64 ca2, .int .i64 ca3, .int .i64 ca4, .int .i64 ca5, .int .i64 ca6, .int .i64 ca7], .agg #[.int .i64 cb0, .int .i64 cb1, .int .i64 cb2, .int .i64 cb3, .int .i64 cb4, .int .i64 cb5, .int .i64 cb6, .int .i64 cb7], .agg #[.int .i64 cc0, .int .i64 cc1, .int .i64 cc2, .int .i64 cc3, .int .i64 cc4, .int .i64 cc5, .int .i64 cc6, .int .i64 cc7], .int .u8 0] u fun e w' => e = .returned (.tuple #[.agg #[.int .i64 m0, .int .i64 m1, .int .i64 m2, .int .i64 m3, .int .i64 m4, .int .i64 m5, .int .i64 m6, .int .i64 m7, .int .i64 m8, .int .i64 m9, .int .i64 m10, .int .i64 m11, .int .i64 m12, .int .i64 m13, .int .i64 m14, .int .i64 m15, .int .i64 m16, .int .i64 m17, .int .i64 m18, .int .i64 m19, .int .i64 m20, .int .i64 m21, .int .i64 m22, .int .i64 m23], .bool true]) ∧ Ext u w') (hQ : ∀ u, Calls Try.prog 14 #[.agg #[.int .i64 ca0, .int .i64 ca1, .int .i64 ca2, .int .i64 ca3, .int .i64 ca4, .int .i64 ca5, .int .i64 ca6, .int .i64 ca7], .agg #[.int .i64 cc0, .int .i64 cc1, .int .i64 cc2, .int .i64 cc3, .int .i64 cc4, .int .i64 cc5, .int .i64 cc6, .int .i64 cc7], .agg #[.int .i64 cb0, .int .i64 cb1, .int .i64 cb2, .int .i64 cb3, .int .i64 cb4, .int .i64 cb5, .int .i64 cb6, .int .i64 cb7], .int .u8 0] u fun e w' => e = .returned (.tuple #[.agg #[.int .i64 m0, .int .i64 m1, .int .i64 m2, .int .i64 m3, .int .i64 m4, .int .i64 m5, .int .i64 m6, .int .i64 m7, .int .i64 m8, .int .i64 m9, .int .i64 m10, .int .i64 m11, .int .i64 m12, .int .i64 m13, .int .i64 m14, .int .i64 m15, .int .i64 m16, .int .i64 m17, .int .i64 m18, .int .i64 m19, .int .i64 m20, .int .i64 m21, .int .i64 m22, .int .i64 m23], .bool true]) ∧ Ext u w') (hB : ∀ u, Calls Try.prog 14 #[.agg #[.int .i64 ca0, .int .i64 ca1, .int .i64 ca2, .int .i64 ca3, .int .i64 ca4, .int .i64 ca5, .int .i64 ca6, .int .i64 ca7], .agg #[.int .i64 cb0, .int .i64 cb1, .int .i64 cb2, .int .i64 cb3, .int .i64 cb4, .int .i64 cb5, .int .i64 cb6, .int .i64 cb7], .agg #[.int .i64 cc0, .int .i64 cc1, .int .i64 cc2, .int .i64 cc3, .int .i64 cc4, .int .i64 cc5, .int .i64 cc6, .int .i64 cc7], .int .u8 1] u fun e w' => e = .returned (.tuple #[.agg #[.int .i64 nx0, .int .i64 nx1, .int .i64 nx2, .int .i64 nx3, .int .i64 nx4, .int .i64 nx5, .int .i64 nx6, .int .i64 nx7, .int .i64 nx8, .int .i64 nx9, .int .i64 nx10, .int .i64 nx11, .int .i64 nx12, .int .i64 nx13, .int .i64 nx14, .int .i64 nx15, .int .i64 nx16, .int .i64 nx17, .int .i64 nx18, .int .i64 nx19, .int .i64 nx20, .int .i64 nx21, .int .i64 nx22, .int .i64 nx23], .bool true]) ∧ Ext u w') (hF : ∀ u, Calls Try.prog 14 #[.agg #[.int .i64 ca0, .int .i64 ca1, .int .i64 ca2, .int .i64 ca3, .int .i64 ca4, .int .i64 ca5, .int .i64 ca6, .int .i64 ca7], .agg #[.int .i64 cb0, .int .i64 cb1, .int .i64 cb2, .int .i64 cb3, .int .i64 cb4, .int .i64 cb5, .int .i64 cb6, .int .i64 cb7], .agg #[.int .i64 cc0, .int .i64 cc1, .int .i64 cc2, .int .i64 cc3, .int .i64 cc4, .int .i64 cc5, .int .i64 cc6, .int .i64 cc7], .int .u8 2] u fun e w' => e = .returned (.tuple #[.agg #[.int .i64 ny0, .int .i64 ny1, .int .i64 ny2, .int .i64 ny3, .int .i64 ny4, .int .i64 ny5, .int .i64 ny6, .int .i64 ny7, .int .i64 ny8, .int .i64 ny9, .int .i64 ny10, .int .i64 ny11, .int .i64 ny12, .int .i64 ny13, .int .i64 ny14, .int .i64 ny15, .int .i64 ny16, .int .i64 ny17, .int .i64 ny18, .int .i64 ny19, .int .i64 ny20, .int .i64 ny21, .int .i64 ny22, .int .i64 ny23], .bool false]) ∧ Ext u w') (hT : ∀ u, Calls Try.prog 14 #[.agg #[.int .i64 ca0, .int .i64 ca1, .int .i64 ca2, .int .i64 ca3, .int .i64 ca4, .int .i64 ca5, .int .i64 ca6, .int .i64 ca7], .agg #[.int .i64 cc0, .int .i64 cc1, .int .i64 cc2, .int .i64 cc3, .int .i64 cc4, .int .i64 cc5, .int .i64 cc6, .int .i64 cc7], .agg #[.int .i64 cb0, .int .i64 cb1, .int .i64 cb2, .int .i64 cb3, .int .i64 cb4, .int .i64 cb5, .int .i64 cb6, .int .i64 cb7], .int .u8 1] u fun e w' => e = .returned (.tuple #[.agg #[.int .i64 nz0, .int .i64 nz1, .int .i64 nz2, .int .i64 nz3, .int .i64 nz4, .int .i64 nz5, .int .i64 nz6, .int .i64 nz7, .int .i64 nz8, .int .i64 nz9, .int .i64 nz10, .int .i64 nz11, .int .i64 nz12, .int .i64 nz13, .int .i64 nz14, .int .i64 nz15, .int .i64 nz16, .int .i64 nz17, .int .i64 nz18, .int .i64 nz19, .int .i64 nz20, .int .i64 nz21, .int .i64 nz22, .int .i64 nz23], .bool false]) ∧ Ext u w') (hA : ∀ u, Calls Try.prog 19 #[.agg #[.int .i64 m0, .int .i64 m1, .int .i64 m2, .int .i64 m3, .int .i64 m4, .int .i64 m5, .int .i64 m6, .int .i64 m7, .int .i64 m8, .int .i64 m9, .int .i64 m10, .int .i64 m11, .int .i64 m12, .int .i64 m13, .int .i64 m14, .int .i64 m15, .int .i64 m16, .int .i64 m17, .int .i64 m18, .int .i64 m19, .int .i64 m20, .int .i64 m21, .int .i64 m22, .int .i64 m23], .int .i64 p1, .int .i64 q1] u fun e w' => e = .returned (.tuple #[.int .i64 d, .agg #[.int .i64 k0, .int .i64 k1, .int .i64 k2, .int .i64 k3], .bool cv]) ∧ Ext u w') (w : World) :
    Calls Try.prog 6 #[.agg #[.int .i16 xa_x, .int .i16 xa_y, .int .i16 xa_z, .int .i16 xa_w, .int .u8 xa_r, .int .u8 xa_g, .int .u8 xa_b, .int .u8 xa_a, .bool xa_f, .int .i16 xb_x, .int .i16 xb_y, .int .i16 xb_z, .int .i16 xb_w, .int .u8 xb_r, .int .u8 xb_g, .int .u8 xb_b, .int .u8 xb_a, .bool xb_f, .int .i16 xc_x, .int .i16 xc_y, .int .i16 xc_z, .int .i16 xc_w, .int .u8 xc_r, .int .u8 xc_g, .int .u8 xc_b, .int .u8 xc_a, .bool xc_f], .int .u8 wd, .int .u8 x, .int .u8 y] w fun e w' => e = .returned (.bool true) ∧ Ext w w' := by
  have HV := Lib.hid hV
  have HO1 := Lib.hid hO1
  have HO2 := Lib.hid hO2
  have HO3 := Lib.hid hO3
  have HM := Lib.hid hM
  have HQ := Lib.hid hQ
  have HB := Lib.hid hB
  have HF := Lib.hid hF
  have HT := Lib.hid hT
  have HA := Lib.hid hA
  clear hV hO1 hO2 hO3 hM hQ hB hF hT hA
  have wr : ∀ z : Int, 0 ≤ z ∧ z ≤ 63 → IntKind.i64.wrap z = z := fun z hz => by rw [IntKind.wrap_i64]; omega
  have wp1 := wr p1 bp1
  have wp2 := wr q1 bq1
  clear wr
  have wn0 : IntKind.i64.wrap n0 = n0 := by rw [IntKind.wrap_i64]; omega
  have wn : IntKind.i64.wrap n = n := by rw [IntKind.wrap_i64]; omega
  have xx : Ext w (w.alloc (.cells #[.int .i16 xa_x, .int .i16 xa_y, .int .i16 xa_z, .int .i16 xa_w, .int .u8 xa_r, .int .u8 xa_g, .int .u8 xa_b, .int .u8 xa_a, .bool xa_f, .int .i16 xb_x, .int .i16 xb_y, .int .i16 xb_z, .int .i16 xb_w, .int .u8 xb_r, .int .u8 xb_g, .int .u8 xb_b, .int .u8 xb_a, .bool xb_f, .int .i16 xc_x, .int .i16 xc_y, .int .i16 xc_z, .int .i16 xc_w, .int .u8 xc_r, .int .u8 xc_g, .int .u8 xc_b, .int .u8 xc_a, .bool xc_f] 27)) := ((Ext.refl w).alloc _ _)
  have D0 := (Blk.new w #[.int .i16 xa_x, .int .i16 xa_y, .int .i16 xa_z, .int .i16 xa_w, .int .u8 xa_r, .int .u8 xa_g, .int .u8 xa_b, .int .u8 xa_a, .bool xa_f, .int .i16 xb_x, .int .i16 xb_y, .int .i16 xb_z, .int .i16 xb_w, .int .u8 xb_r, .int .u8 xb_g, .int .u8 xb_b, .int .u8 xb_a, .bool xb_f, .int .i16 xc_x, .int .i16 xc_y, .int .i16 xc_z, .int .i16 xc_w, .int .u8 xc_r, .int .u8 xc_g, .int .u8 xc_b, .int .u8 xc_a, .bool xc_f] 27)
  go_enter Try.func6, Try.ntmps6
  go_upto_region 1 with fail

  generalize (w.alloc (.cells #[.int .i16 xa_x, .int .i16 xa_y, .int .i16 xa_z, .int .i16 xa_w, .int .u8 xa_r, .int .u8 xa_g, .int .u8 xa_b, .int .u8 xa_a, .bool xa_f, .int .i16 xb_x, .int .i16 xb_y, .int .i16 xb_z, .int .i16 xb_w, .int .u8 xb_r, .int .u8 xb_g, .int .u8 xb_b, .int .u8 xb_a, .bool xb_f, .int .i16 xc_x, .int .i16 xc_y, .int .i16 xc_z, .int .i16 xc_w, .int .u8 xc_r, .int .u8 xc_g, .int .u8 xc_b, .int .u8 xc_a, .bool xc_f] 27)) = w0 at *
  go_wp2_with fail
  refine (awake13_any _).mono ?_
  rintro e w1 ⟨rfl, x1⟩
  have xx := xx.trans x1
  have D0 := D0.ext x1
  clear x1
  go_wp2_with (first
    | ((with_reducible refine wpList_load_blk (op := ⟨some 29, _, _, _, _, _⟩) ?_ 27 (.tmp 4) ?_ (w.heap.size) ?_ (z := _) (T := 27) D0 Try.underlying27 ?_ ?_ ?_); rfl; rfl; rfl; rfl; kernel_rfl)
    | fail)
  refine (HV.out _).mono ?_
  rintro e w2 ⟨rfl, x1⟩
  have xx := xx.trans x1
  clear x1
  have B9 := (Blk.new w2 #[.int .i64 0, .int .i64 0, .int .i64 0, .int .i64 0, .int .i64 0, .int .i64 0, .int .i64 0, .int .i64 0, .int .i64 0, .int .i64 0, .int .i64 0, .int .i64 0, .int .i64 0, .int .i64 0, .int .i64 0, .int .i64 0, .int .i64 0, .int .i64 0, .int .i64 0, .int .i64 0, .int .i64 0, .int .i64 0, .int .i64 0, .int .i64 0] 33).setRow #[.int .i64 a0, .int .i64 a1, .int .i64 a2, .int .i64 a3, .int .i64 a4, .int .i64 a5, .int .i64 a6, .int .i64 a7, .int .i64 b0, .int .i64 b1, .int .i64 b2, .int .i64 b3, .int .i64 b4, .int .i64 b5, .int .i64 b6, .int .i64 b7, .int .i64 c0, .int .i64 c1, .int .i64 c2, .int .i64 c3, .int .i64 c4, .int .i64 c5, .int .i64 c6, .int .i64 c7]
  have y1 : Ext w2 ((w2.alloc (.cells #[.int .i64 0, .int .i64 0, .int .i64 0, .int .i64 0, .int .i64 0, .int .i64 0, .int .i64 0, .int .i64 0, .int .i64 0, .int .i64 0, .int .i64 0, .int .i64 0, .int .i64 0, .int .i64 0, .int .i64 0, .int .i64 0, .int .i64 0, .int .i64 0, .int .i64 0, .int .i64 0, .int .i64 0, .int .i64 0, .int .i64 0, .int .i64 0] 33)).setRow w2.heap.size #[.int .i64 a0, .int .i64 a1, .int .i64 a2, .int .i64 a3, .int .i64 a4, .int .i64 a5, .int .i64 a6, .int .i64 a7, .int .i64 b0, .int .i64 b1, .int .i64 b2, .int .i64 b3, .int .i64 b4, .int .i64 b5, .int .i64 b6, .int .i64 b7, .int .i64 c0, .int .i64 c1, .int .i64 c2, .int .i64 c3, .int .i64 c4, .int .i64 c5, .int .i64 c6, .int .i64 c7]) := ((Ext.refl _).alloc _ _).setRow (Nat.le_refl _) _
  go_upto_region 4 with (first
    | ((with_reducible refine wpList_store_blk (op := ⟨none, .store 33 (.tmp 9) (.tmp 30), _, _, _, _⟩) ?_ 33 (.tmp 9) (.tmp 30) ?_ (w2.heap.size) ?_ (cs := #[.int .i64 a0, .int .i64 a1, .int .i64 a2, .int .i64 a3, .int .i64 a4, .int .i64 a5, .int .i64 a6, .int .i64 a7, .int .i64 b0, .int .i64 b1, .int .i64 b2, .int .i64 b3, .int .i64 b4, .int .i64 b5, .int .i64 b6, .int .i64 b7, .int .i64 c0, .int .i64 c1, .int .i64 c2, .int .i64 c3, .int .i64 c4, .int .i64 c5, .int .i64 c6, .int .i64 c7]) ?_ (z := #[.int .i64 0, .int .i64 0, .int .i64 0, .int .i64 0, .int .i64 0, .int .i64 0, .int .i64 0, .int .i64 0, .int .i64 0, .int .i64 0, .int .i64 0, .int .i64 0, .int .i64 0, .int .i64 0, .int .i64 0, .int .i64 0, .int .i64 0, .int .i64 0, .int .i64 0, .int .i64 0, .int .i64 0, .int .i64 0, .int .i64 0, .int .i64 0]) (T := 33) ?_ ?_ ?_ ?_ ?_); rfl; rfl; rfl; rfl; exact Blk.new w2 _ _; kernel_rfl; kernel_rfl; kernel_rfl)
    | fail)
  try simp only [Act.put]
  have xx := xx.trans y1
  clear y1
  generalize (w2.alloc (.cells #[.int .i64 0, .int .i64 0, .int .i64 0, .int .i64 0, .int .i64 0, .int .i64 0, .int .i64 0, .int .i64 0, .int .i64 0, .int .i64 0, .int .i64 0, .int .i64 0, .int .i64 0, .int .i64 0, .int .i64 0, .int .i64 0, .int .i64 0, .int .i64 0, .int .i64 0, .int .i64 0, .int .i64 0, .int .i64 0, .int .i64 0, .int .i64 0] 33)).setRow w2.heap.size #[.int .i64 a0, .int .i64 a1, .int .i64 a2, .int .i64 a3, .int .i64 a4, .int .i64 a5, .int .i64 a6, .int .i64 a7, .int .i64 b0, .int .i64 b1, .int .i64 b2, .int .i64 b3, .int .i64 b4, .int .i64 b5, .int .i64 b6, .int .i64 b7, .int .i64 c0, .int .i64 c1, .int .i64 c2, .int .i64 c3, .int .i64 c4, .int .i64 c5, .int .i64 c6, .int .i64 c7] = w3 at *
  generalize hbe : w2.heap.size = b9 at *
  clear hbe
  clear D0
  go_upto_region 5 with fail
  apply wp_region_vars [false, false, false, false, false, false, false, false, false, false, false, false, false, false, false, true, true, true, true, true, true] [] [⟨some 15, 11, 0, some 18, 59, #[.int .i64 0, .int .i64 0, .int .i64 0, .int .i64 0, .int .i64 0, .int .i64 0, .int .i64 0, .int .i64 0], #[.int .i64 ca0, .int .i64 ca1, .int .i64 ca2, .int .i64 ca3, .int .i64 ca4, .int .i64 ca5, .int .i64 ca6, .int .i64 ca7]⟩, ⟨some 16, 12, 0, some 19, 59, #[.int .i64 0, .int .i64 0, .int .i64 0, .int .i64 0, .int .i64 0, .int .i64 0, .int .i64 0, .int .i64 0], #[.int .i64 cb0, .int .i64 cb1, .int .i64 cb2, .int .i64 cb3, .int .i64 cb4, .int .i64 cb5, .int .i64 cb6, .int .i64 cb7]⟩, ⟨some 17, 13, 0, some 20, 59, #[.int .i64 0, .int .i64 0, .int .i64 0, .int .i64 0, .int .i64 0, .int .i64 0, .int .i64 0, .int .i64 0], #[.int .i64 cc0, .int .i64 cc1, .int .i64 cc2, .int .i64 cc3, .int .i64 cc4, .int .i64 cc5, .int .i64 cc6, .int .i64 cc7]⟩] _ (by kernel_rfl) (by kernel_rfl) (by kernel_rfl)
  case H =>
    intro x0 hx
    have hne : Nonempty (Wx x0) := ⟨⟨x0, Ext.refl x0⟩⟩
    have kB9 := fun (y : Wx x0) => (B9.calm hx (by simp)).ext y.ext
    have qB9 := fun (y : Wx x0) => ((B9.calm hx (by simp)).ext y.ext).cell
    simp only [eraseM]
    repeat (go_big_quiet_step (first | (go_at_call 15; with_reducible exact calm_of (HO1.out _)) | (go_at_call 15; with_reducible exact calm_of (HO2.out _)) | (go_at_call 15; with_reducible exact calm_of (HO3.out _))))
    exact wpQuiet_nil rfl
  case hok =>
    simp only [List.forall_mem_cons, List.not_mem_nil, false_implies, implies_true, and_true]
    exact ⟨tgt_fresh (by simp) rfl rfl mkCn rfl rfl rfl rfl (by kernel_rfl) (by kernel_rfl) rfl, tgt_fresh (by simp) rfl rfl mkCn rfl rfl rfl rfl (by kernel_rfl) (by kernel_rfl) rfl, tgt_fresh (by simp) rfl rfl mkCn rfl rfl rfl rfl (by kernel_rfl) (by kernel_rfl) rfl⟩
  case hdis =>
    intro k k' t t' hk hk' _ ha
    exfalso
    have := List.mem_of_getElem? hk
    simp only [List.mem_cons, List.not_mem_nil, or_false] at this
    rcases this with rfl | rfl | rfl <;> cases ha
  rintro w4 f hw ⟨zk0, zl0, zd0, zu0, zk1, zl1, zd1, zu1, zk2, zl2, zd2, zu2, -⟩
  have xx := xx.trans hw.ext
  simp only [pairs, putAll, Option.isSome_some, if_true, Act.put, List.setIfInBounds_toArray, List.set_cons_succ, List.set_cons_zero, Nat.zero_add]
  generalize f 0 = z11 at *
  generalize f 1 = z12 at *
  generalize f 2 = z13 at *
  have B11 : Blk w4 z11 #[.int .i64 ca0, .int .i64 ca1, .int .i64 ca2, .int .i64 ca3, .int .i64 ca4, .int .i64 ca5, .int .i64 ca6, .int .i64 ca7] 59 := zd0
  have B12 : Blk w4 z12 #[.int .i64 cb0, .int .i64 cb1, .int .i64 cb2, .int .i64 cb3, .int .i64 cb4, .int .i64 cb5, .int .i64 cb6, .int .i64 cb7] 59 := zd1
  have B13 : Blk w4 z13 #[.int .i64 cc0, .int .i64 cc1, .int .i64 cc2, .int .i64 cc3, .int .i64 cc4, .int .i64 cc5, .int .i64 cc6, .int .i64 cc7] 59 := zd2
  clear zk0 zl0 zd0 zu0 zk1 zl1 zd1 zu1 zk2 zl2 zd2 zu2 hw
  clear B9
  go_wp2_with (first
    | ((with_reducible refine wpList_load_blk (op := ⟨some 51, _, _, _, _, _⟩) ?_ 59 (.tmp 11) ?_ (z11) ?_ (z := _) (T := 59) B11 Try.underlying59 ?_ ?_ ?_); rfl; rfl; rfl; rfl; kernel_rfl)
    | ((with_reducible refine wpList_load_blk (op := ⟨some 52, _, _, _, _, _⟩) ?_ 59 (.tmp 12) ?_ (z12) ?_ (z := _) (T := 59) B12 Try.underlying59 ?_ ?_ ?_); rfl; rfl; rfl; rfl; kernel_rfl)
    | ((with_reducible refine wpList_load_blk (op := ⟨some 53, _, _, _, _, _⟩) ?_ 59 (.tmp 13) ?_ (z13) ?_ (z := _) (T := 59) B13 Try.underlying59 ?_ ?_ ?_); rfl; rfl; rfl; rfl; kernel_rfl)
    | fail)
  refine (HM.out _).mono ?_
  rintro e w5_0 ⟨rfl, x1⟩
  have xx := xx.trans x1
  have B11 := B11.ext x1
  have B12 := B12.ext x1
  have B13 := B13.ext x1
  clear x1
  have B14 := (Blk.new w5_0 #[.int .i64 0, .int .i64 0, .int .i64 0, .int .i64 0, .int .i64 0, .int .i64 0, .int .i64 0, .int .i64 0, .int .i64 0, .int .i64 0, .int .i64 0, .int .i64 0, .int .i64 0, .int .i64 0, .int .i64 0, .int .i64 0, .int .i64 0, .int .i64 0, .int .i64 0, .int .i64 0, .int .i64 0, .int .i64 0, .int .i64 0, .int .i64 0] 55).setRow #[.int .i64 m0, .int .i64 m1, .int .i64 m2, .int .i64 m3, .int .i64 m4, .int .i64 m5, .int .i64 m6, .int .i64 m7, .int .i64 m8, .int .i64 m9, .int .i64 m10, .int .i64 m11, .int .i64 m12, .int .i64 m13, .int .i64 m14, .int .i64 m15, .int .i64 m16, .int .i64 m17, .int .i64 m18, .int .i64 m19, .int .i64 m20, .int .i64 m21, .int .i64 m22, .int .i64 m23]
  have y1 : Ext w5_0 ((w5_0.alloc (.cells #[.int .i64 0, .int .i64 0, .int .i64 0, .int .i64 0, .int .i64 0, .int .i64 0, .int .i64 0, .int .i64 0, .int .i64 0, .int .i64 0, .int .i64 0, .int .i64 0, .int .i64 0, .int .i64 0, .int .i64 0, .int .i64 0, .int .i64 0, .int .i64 0, .int .i64 0, .int .i64 0, .int .i64 0, .int .i64 0, .int .i64 0, .int .i64 0] 55)).setRow w5_0.heap.size #[.int .i64 m0, .int .i64 m1, .int .i64 m2, .int .i64 m3, .int .i64 m4, .int .i64 m5, .int .i64 m6, .int .i64 m7, .int .i64 m8, .int .i64 m9, .int .i64 m10, .int .i64 m11, .int .i64 m12, .int .i64 m13, .int .i64 m14, .int .i64 m15, .int .i64 m16, .int .i64 m17, .int .i64 m18, .int .i64 m19, .int .i64 m20, .int .i64 m21, .int .i64 m22, .int .i64 m23]) := ((Ext.refl _).alloc _ _).setRow (Nat.le_refl _) _
  go_upto_region 7 with (first
    | ((with_reducible refine wpList_store_blk (op := ⟨none, .store 55 (.tmp 14) (.tmp 55), _, _, _, _⟩) ?_ 55 (.tmp 14) (.tmp 55) ?_ (w5_0.heap.size) ?_ (cs := #[.int .i64 m0, .int .i64 m1, .int .i64 m2, .int .i64 m3, .int .i64 m4, .int .i64 m5, .int .i64 m6, .int .i64 m7, .int .i64 m8, .int .i64 m9, .int .i64 m10, .int .i64 m11, .int .i64 m12, .int .i64 m13, .int .i64 m14, .int .i64 m15, .int .i64 m16, .int .i64 m17, .int .i64 m18, .int .i64 m19, .int .i64 m20, .int .i64 m21, .int .i64 m22, .int .i64 m23]) ?_ (z := #[.int .i64 0, .int .i64 0, .int .i64 0, .int .i64 0, .int .i64 0, .int .i64 0, .int .i64 0, .int .i64 0, .int .i64 0, .int .i64 0, .int .i64 0, .int .i64 0, .int .i64 0, .int .i64 0, .int .i64 0, .int .i64 0, .int .i64 0, .int .i64 0, .int .i64 0, .int .i64 0, .int .i64 0, .int .i64 0, .int .i64 0, .int .i64 0]) (T := 55) ?_ ?_ ?_ ?_ ?_); rfl; rfl; rfl; rfl; exact Blk.new w5_0 _ _; kernel_rfl; kernel_rfl; kernel_rfl)
    | fail)
  try simp only [Act.put]
  have xx := xx.trans y1
  have B11 := B11.ext y1
  have B12 := B12.ext y1
  have B13 := B13.ext y1
  clear y1
  generalize (w5_0.alloc (.cells #[.int .i64 0, .int .i64 0, .int .i64 0, .int .i64 0, .int .i64 0, .int .i64 0, .int .i64 0, .int .i64 0, .int .i64 0, .int .i64 0, .int .i64 0, .int .i64 0, .int .i64 0, .int .i64 0, .int .i64 0, .int .i64 0, .int .i64 0, .int .i64 0, .int .i64 0, .int .i64 0, .int .i64 0, .int .i64 0, .int .i64 0, .int .i64 0] 55)).setRow w5_0.heap.size #[.int .i64 m0, .int .i64 m1, .int .i64 m2, .int .i64 m3, .int .i64 m4, .int .i64 m5, .int .i64 m6, .int .i64 m7, .int .i64 m8, .int .i64 m9, .int .i64 m10, .int .i64 m11, .int .i64 m12, .int .i64 m13, .int .i64 m14, .int .i64 m15, .int .i64 m16, .int .i64 m17, .int .i64 m18, .int .i64 m19, .int .i64 m20, .int .i64 m21, .int .i64 m22, .int .i64 m23] = w6_0 at *
  generalize hbe : w5_0.heap.size = b14 at *
  clear hbe
  go_wp2_with (first
    | ((with_reducible refine wpList_load_blk (op := ⟨some 58, _, _, _, _, _⟩) ?_ 59 (.tmp 11) ?_ (z11) ?_ (z := _) (T := 59) B11 Try.underlying59 ?_ ?_ ?_); rfl; rfl; rfl; rfl; kernel_rfl)
    | ((with_reducible refine wpList_load_blk (op := ⟨some 59, _, _, _, _, _⟩) ?_ 59 (.tmp 13) ?_ (z13) ?_ (z := _) (T := 59) B13 Try.underlying59 ?_ ?_ ?_); rfl; rfl; rfl; rfl; kernel_rfl)
    | ((with_reducible refine wpList_load_blk (op := ⟨some 60, _, _, _, _, _⟩) ?_ 59 (.tmp 12) ?_ (z12) ?_ (z := _) (T := 59) B12 Try.underlying59 ?_ ?_ ?_); rfl; rfl; rfl; rfl; kernel_rfl)
    | fail)
  refine (HQ.out _).mono ?_
  rintro e w5_1 ⟨rfl, x1⟩
  have xx := xx.trans x1
  have B11 := B11.ext x1
  have B12 := B12.ext x1
  have B13 := B13.ext x1
  have B14 := B14.ext x1
  clear x1
  have B16 := (Blk.new w5_1 #[.int .i64 0, .int .i64 0, .int .i64 0, .int .i64 0, .int .i64 0, .int .i64 0, .int .i64 0, .int .i64 0, .int .i64 0, .int .i64 0, .int .i64 0, .int .i64 0, .int .i64 0, .int .i64 0, .int .i64 0, .int .i64 0, .int .i64 0, .int .i64 0, .int .i64 0, .int .i64 0, .int .i64 0, .int .i64 0, .int .i64 0, .int .i64 0] 55).setRow #[.int .i64 m0, .int .i64 m1, .int .i64 m2, .int .i64 m3, .int .i64 m4, .int .i64 m5, .int .i64 m6, .int .i64 m7, .int .i64 m8, .int .i64 m9, .int .i64 m10, .int .i64 m11, .int .i64 m12, .int .i64 m13, .int .i64 m14, .int .i64 m15, .int .i64 m16, .int .i64 m17, .int .i64 m18, .int .i64 m19, .int .i64 m20, .int .i64 m21, .int .i64 m22, .int .i64 m23]
  have y1 : Ext w5_1 ((w5_1.alloc (.cells #[.int .i64 0, .int .i64 0, .int .i64 0, .int .i64 0, .int .i64 0, .int .i64 0, .int .i64 0, .int .i64 0, .int .i64 0, .int .i64 0, .int .i64 0, .int .i64 0, .int .i64 0, .int .i64 0, .int .i64 0, .int .i64 0, .int .i64 0, .int .i64 0, .int .i64 0, .int .i64 0, .int .i64 0, .int .i64 0, .int .i64 0, .int .i64 0] 55)).setRow w5_1.heap.size #[.int .i64 m0, .int .i64 m1, .int .i64 m2, .int .i64 m3, .int .i64 m4, .int .i64 m5, .int .i64 m6, .int .i64 m7, .int .i64 m8, .int .i64 m9, .int .i64 m10, .int .i64 m11, .int .i64 m12, .int .i64 m13, .int .i64 m14, .int .i64 m15, .int .i64 m16, .int .i64 m17, .int .i64 m18, .int .i64 m19, .int .i64 m20, .int .i64 m21, .int .i64 m22, .int .i64 m23]) := ((Ext.refl _).alloc _ _).setRow (Nat.le_refl _) _
  go_upto_region 8 with (first
    | ((with_reducible refine wpList_store_blk (op := ⟨none, .store 55 (.tmp 16) (.tmp 62), _, _, _, _⟩) ?_ 55 (.tmp 16) (.tmp 62) ?_ (w5_1.heap.size) ?_ (cs := #[.int .i64 m0, .int .i64 m1, .int .i64 m2, .int .i64 m3, .int .i64 m4, .int .i64 m5, .int .i64 m6, .int .i64 m7, .int .i64 m8, .int .i64 m9, .int .i64 m10, .int .i64 m11, .int .i64 m12, .int .i64 m13, .int .i64 m14, .int .i64 m15, .int .i64 m16, .int .i64 m17, .int .i64 m18, .int .i64 m19, .int .i64 m20, .int .i64 m21, .int .i64 m22, .int .i64 m23]) ?_ (z := #[.int .i64 0, .int .i64 0, .int .i64 0, .int .i64 0, .int .i64 0, .int .i64 0, .int .i64 0, .int .i64 0, .int .i64 0, .int .i64 0, .int .i64 0, .int .i64 0, .int .i64 0, .int .i64 0, .int .i64 0, .int .i64 0, .int .i64 0, .int .i64 0, .int .i64 0, .int .i64 0, .int .i64 0, .int .i64 0, .int .i64 0, .int .i64 0]) (T := 55) ?_ ?_ ?_ ?_ ?_); rfl; rfl; rfl; rfl; exact Blk.new w5_1 _ _; kernel_rfl; kernel_rfl; kernel_rfl)
    | fail)
  try simp only [Act.put]
  have xx := xx.trans y1
  have B11 := B11.ext y1
  have B12 := B12.ext y1
  have B13 := B13.ext y1
  have B14 := B14.ext y1
  clear y1
  generalize (w5_1.alloc (.cells #[.int .i64 0, .int .i64 0, .int .i64 0, .int .i64 0, .int .i64 0, .int .i64 0, .int .i64 0, .int .i64 0, .int .i64 0, .int .i64 0, .int .i64 0, .int .i64 0, .int .i64 0, .int .i64 0, .int .i64 0, .int .i64 0, .int .i64 0, .int .i64 0, .int .i64 0, .int .i64 0, .int .i64 0, .int .i64 0, .int .i64 0, .int .i64 0] 55)).setRow w5_1.heap.size #[.int .i64 m0, .int .i64 m1, .int .i64 m2, .int .i64 m3, .int .i64 m4, .int .i64 m5, .int .i64 m6, .int .i64 m7, .int .i64 m8, .int .i64 m9, .int .i64 m10, .int .i64 m11, .int .i64 m12, .int .i64 m13, .int .i64 m14, .int .i64 m15, .int .i64 m16, .int .i64 m17, .int .i64 m18, .int .i64 m19, .int .i64 m20, .int .i64 m21, .int .i64 m22, .int .i64 m23] = w6_1 at *
  generalize hbe : w5_1.heap.size = b16 at *
  clear hbe
  have hq := eqT55 m0 m1 m2 m3 m4 m5 m6 m7 m8 m9 m10 m11 m12 m13 m14 m15 m16 m17 m18 m19 m20 m21 m22 m23
  go_upto_region 10 with (first
    | ((with_reducible refine wpList_load_blkG (op := ⟨some 70, _, _, _, _, _⟩) ?_ 55 (.tmp 14) ?_ b14 ?_ (z := _) (T := 55) B14 Try.underlying55 ?_ ?_ ?_); rfl; rfl; rfl; rfl; kernel_rfl)
    | ((with_reducible refine wpList_load_blkG (op := ⟨some 71, _, _, _, _, _⟩) ?_ 55 (.tmp 16) ?_ b16 ?_ (z := _) (T := 55) B16 Try.underlying55 ?_ ?_ ?_); rfl; rfl; rfl; rfl; kernel_rfl)
    | fail)
  clear hq B16
  go_wp2_with (first
    | ((with_reducible refine wpList_load_blk (op := ⟨some 76, _, _, _, _, _⟩) ?_ 59 (.tmp 11) ?_ (z11) ?_ (z := _) (T := 59) B11 Try.underlying59 ?_ ?_ ?_); rfl; rfl; rfl; rfl; kernel_rfl)
    | ((with_reducible refine wpList_load_blk (op := ⟨some 77, _, _, _, _, _⟩) ?_ 59 (.tmp 12) ?_ (z12) ?_ (z := _) (T := 59) B12 Try.underlying59 ?_ ?_ ?_); rfl; rfl; rfl; rfl; kernel_rfl)
    | ((with_reducible refine wpList_load_blk (op := ⟨some 78, _, _, _, _, _⟩) ?_ 59 (.tmp 13) ?_ (z13) ?_ (z := _) (T := 59) B13 Try.underlying59 ?_ ?_ ?_); rfl; rfl; rfl; rfl; kernel_rfl)
    | fail)
  refine (HB.out _).mono ?_
  rintro e w7_0 ⟨rfl, x1⟩
  have xx := xx.trans x1
  have B11 := B11.ext x1
  have B12 := B12.ext x1
  have B13 := B13.ext x1
  have B14 := B14.ext x1
  clear x1
  have BB0 := (Blk.new w7_0 #[.int .i64 0, .int .i64 0, .int .i64 0, .int .i64 0, .int .i64 0, .int .i64 0, .int .i64 0, .int .i64 0, .int .i64 0, .int .i64 0, .int .i64 0, .int .i64 0, .int .i64 0, .int .i64 0, .int .i64 0, .int .i64 0, .int .i64 0, .int .i64 0, .int .i64 0, .int .i64 0, .int .i64 0, .int .i64 0, .int .i64 0, .int .i64 0] 55).setRow #[.int .i64 nx0, .int .i64 nx1, .int .i64 nx2, .int .i64 nx3, .int .i64 nx4, .int .i64 nx5, .int .i64 nx6, .int .i64 nx7, .int .i64 nx8, .int .i64 nx9, .int .i64 nx10, .int .i64 nx11, .int .i64 nx12, .int .i64 nx13, .int .i64 nx14, .int .i64 nx15, .int .i64 nx16, .int .i64 nx17, .int .i64 nx18, .int .i64 nx19, .int .i64 nx20, .int .i64 nx21, .int .i64 nx22, .int .i64 nx23]
  have y1 : Ext w7_0 ((w7_0.alloc (.cells #[.int .i64 0, .int .i64 0, .int .i64 0, .int .i64 0, .int .i64 0, .int .i64 0, .int .i64 0, .int .i64 0, .int .i64 0, .int .i64 0, .int .i64 0, .int .i64 0, .int .i64 0, .int .i64 0, .int .i64 0, .int .i64 0, .int .i64 0, .int .i64 0, .int .i64 0, .int .i64 0, .int .i64 0, .int .i64 0, .int .i64 0, .int .i64 0] 55)).setRow w7_0.heap.size #[.int .i64 nx0, .int .i64 nx1, .int .i64 nx2, .int .i64 nx3, .int .i64 nx4, .int .i64 nx5, .int .i64 nx6, .int .i64 nx7, .int .i64 nx8, .int .i64 nx9, .int .i64 nx10, .int .i64 nx11, .int .i64 nx12, .int .i64 nx13, .int .i64 nx14, .int .i64 nx15, .int .i64 nx16, .int .i64 nx17, .int .i64 nx18, .int .i64 nx19, .int .i64 nx20, .int .i64 nx21, .int .i64 nx22, .int .i64 nx23]) := ((Ext.refl _).alloc _ _).setRow (Nat.le_refl _) _
  go_upto_region 11 with (first
    | ((with_reducible refine wpList_store_blk (op := ⟨none, .store 55 (.tmp 18) (.tmp 80), _, _, _, _⟩) ?_ 55 (.tmp 18) (.tmp 80) ?_ (w7_0.heap.size) ?_ (cs := #[.int .i64 nx0, .int .i64 nx1, .int .i64 nx2, .int .i64 nx3, .int .i64 nx4, .int .i64 nx5, .int .i64 nx6, .int .i64 nx7, .int .i64 nx8, .int .i64 nx9, .int .i64 nx10, .int .i64 nx11, .int .i64 nx12, .int .i64 nx13, .int .i64 nx14, .int .i64 nx15, .int .i64 nx16, .int .i64 nx17, .int .i64 nx18, .int .i64 nx19, .int .i64 nx20, .int .i64 nx21, .int .i64 nx22, .int .i64 nx23]) ?_ (z := #[.int .i64 0, .int .i64 0, .int .i64 0, .int .i64 0, .int .i64 0, .int .i64 0, .int .i64 0, .int .i64 0, .int .i64 0, .int .i64 0, .int .i64 0, .int .i64 0, .int .i64 0, .int .i64 0, .int .i64 0, .int .i64 0, .int .i64 0, .int .i64 0, .int .i64 0, .int .i64 0, .int .i64 0, .int .i64 0, .int .i64 0, .int .i64 0]) (T := 55) ?_ ?_ ?_ ?_ ?_); rfl; rfl; rfl; rfl; exact Blk.new w7_0 _ _; kernel_rfl; kernel_rfl; kernel_rfl)
    | fail)
  try simp only [Act.put]
  have xx := xx.trans y1
  have B11 := B11.ext y1
  have B12 := B12.ext y1
  have B13 := B13.ext y1
  have B14 := B14.ext y1
  clear y1
  generalize (w7_0.alloc (.cells #[.int .i64 0, .int .i64 0, .int .i64 0, .int .i64 0, .int .i64 0, .int .i64 0, .int .i64 0, .int .i64 0, .int .i64 0, .int .i64 0, .int .i64 0, .int .i64 0, .int .i64 0, .int .i64 0, .int .i64 0, .int .i64 0, .int .i64 0, .int .i64 0, .int .i64 0, .int .i64 0, .int .i64 0, .int .i64 0, .int .i64 0, .int .i64 0] 55)).setRow w7_0.heap.size #[.int .i64 nx0, .int .i64 nx1, .int .i64 nx2, .int .i64 nx3, .int .i64 nx4, .int .i64 nx5, .int .i64 nx6, .int .i64 nx7, .int .i64 nx8, .int .i64 nx9, .int .i64 nx10, .int .i64 nx11, .int .i64 nx12, .int .i64 nx13, .int .i64 nx14, .int .i64 nx15, .int .i64 nx16, .int .i64 nx17, .int .i64 nx18, .int .i64 nx19, .int .i64 nx20, .int .i64 nx21, .int .i64 nx22, .int .i64 nx23] = w8_0 at *
  generalize hbe : w7_0.heap.size = bb0 at *
  clear hbe
  clear BB0
  go_wp2_with (first
    | ((with_reducible refine wpList_load_blk (op := ⟨some 83, _, _, _, _, _⟩) ?_ 59 (.tmp 11) ?_ (z11) ?_ (z := _) (T := 59) B11 Try.underlying59 ?_ ?_ ?_); rfl; rfl; rfl; rfl; kernel_rfl)
    | ((with_reducible refine wpList_load_blk (op := ⟨some 84, _, _, _, _, _⟩) ?_ 59 (.tmp 12) ?_ (z12) ?_ (z := _) (T := 59) B12 Try.underlying59 ?_ ?_ ?_); rfl; rfl; rfl; rfl; kernel_rfl)
    | ((with_reducible refine wpList_load_blk (op := ⟨some 85, _, _, _, _, _⟩) ?_ 59 (.tmp 13) ?_ (z13) ?_ (z := _) (T := 59) B13 Try.underlying59 ?_ ?_ ?_); rfl; rfl; rfl; rfl; kernel_rfl)
    | fail)
  refine (HF.out _).mono ?_
  rintro e w7_1 ⟨rfl, x1⟩
  have xx := xx.trans x1
  have B11 := B11.ext x1
  have B12 := B12.ext x1
  have B13 := B13.ext x1
  have B14 := B14.ext x1
  clear x1
  have BB1 := (Blk.new w7_1 #[.int .i64 0, .int .i64 0, .int .i64 0, .int .i64 0, .int .i64 0, .int .i64 0, .int .i64 0, .int .i64 0, .int .i64 0, .int .i64 0, .int .i64 0, .int .i64 0, .int .i64 0, .int .i64 0, .int .i64 0, .int .i64 0, .int .i64 0, .int .i64 0, .int .i64 0, .int .i64 0, .int .i64 0, .int .i64 0, .int .i64 0, .int .i64 0] 55).setRow #[.int .i64 ny0, .int .i64 ny1, .int .i64 ny2, .int .i64 ny3, .int .i64 ny4, .int .i64 ny5, .int .i64 ny6, .int .i64 ny7, .int .i64 ny8, .int .i64 ny9, .int .i64 ny10, .int .i64 ny11, .int .i64 ny12, .int .i64 ny13, .int .i64 ny14, .int .i64 ny15, .int .i64 ny16, .int .i64 ny17, .int .i64 ny18, .int .i64 ny19, .int .i64 ny20, .int .i64 ny21, .int .i64 ny22, .int .i64 ny23]
  have y1 : Ext w7_1 ((w7_1.alloc (.cells #[.int .i64 0, .int .i64 0, .int .i64 0, .int .i64 0, .int .i64 0, .int .i64 0, .int .i64 0, .int .i64 0, .int .i64 0, .int .i64 0, .int .i64 0, .int .i64 0, .int .i64 0, .int .i64 0, .int .i64 0, .int .i64 0, .int .i64 0, .int .i64 0, .int .i64 0, .int .i64 0, .int .i64 0, .int .i64 0, .int .i64 0, .int .i64 0] 55)).setRow w7_1.heap.size #[.int .i64 ny0, .int .i64 ny1, .int .i64 ny2, .int .i64 ny3, .int .i64 ny4, .int .i64 ny5, .int .i64 ny6, .int .i64 ny7, .int .i64 ny8, .int .i64 ny9, .int .i64 ny10, .int .i64 ny11, .int .i64 ny12, .int .i64 ny13, .int .i64 ny14, .int .i64 ny15, .int .i64 ny16, .int .i64 ny17, .int .i64 ny18, .int .i64 ny19, .int .i64 ny20, .int .i64 ny21, .int .i64 ny22, .int .i64 ny23]) := ((Ext.refl _).alloc _ _).setRow (Nat.le_refl _) _
  go_upto_region 12 with (first
    | ((with_reducible refine wpList_store_blk (op := ⟨none, .store 55 (.tmp 20) (.tmp 87), _, _, _, _⟩) ?_ 55 (.tmp 20) (.tmp 87) ?_ (w7_1.heap.size) ?_ (cs := #[.int .i64 ny0, .int .i64 ny1, .int .i64 ny2, .int .i64 ny3, .int .i64 ny4, .int .i64 ny5, .int .i64 ny6, .int .i64 ny7, .int .i64 ny8, .int .i64 ny9, .int .i64 ny10, .int .i64 ny11, .int .i64 ny12, .int .i64 ny13, .int .i64 ny14, .int .i64 ny15, .int .i64 ny16, .int .i64 ny17, .int .i64 ny18, .int .i64 ny19, .int .i64 ny20, .int .i64 ny21, .int .i64 ny22, .int .i64 ny23]) ?_ (z := #[.int .i64 0, .int .i64 0, .int .i64 0, .int .i64 0, .int .i64 0, .int .i64 0, .int .i64 0, .int .i64 0, .int .i64 0, .int .i64 0, .int .i64 0, .int .i64 0, .int .i64 0, .int .i64 0, .int .i64 0, .int .i64 0, .int .i64 0, .int .i64 0, .int .i64 0, .int .i64 0, .int .i64 0, .int .i64 0, .int .i64 0, .int .i64 0]) (T := 55) ?_ ?_ ?_ ?_ ?_); rfl; rfl; rfl; rfl; exact Blk.new w7_1 _ _; kernel_rfl; kernel_rfl; kernel_rfl)
    | fail)
  try simp only [Act.put]
  have xx := xx.trans y1
  have B11 := B11.ext y1
  have B12 := B12.ext y1
  have B13 := B13.ext y1
  have B14 := B14.ext y1
  clear y1
  generalize (w7_1.alloc (.cells #[.int .i64 0, .int .i64 0, .int .i64 0, .int .i64 0, .int .i64 0, .int .i64 0, .int .i64 0, .int .i64 0, .int .i64 0, .int .i64 0, .int .i64 0, .int .i64 0, .int .i64 0, .int .i64 0, .int .i64 0, .int .i64 0, .int .i64 0, .int .i64 0, .int .i64 0, .int .i64 0, .int .i64 0, .int .i64 0, .int .i64 0, .int .i64 0] 55)).setRow w7_1.heap.size #[.int .i64 ny0, .int .i64 ny1, .int .i64 ny2, .int .i64 ny3, .int .i64 ny4, .int .i64 ny5, .int .i64 ny6, .int .i64 ny7, .int .i64 ny8, .int .i64 ny9, .int .i64 ny10, .int .i64 ny11, .int .i64 ny12, .int .i64 ny13, .int .i64 ny14, .int .i64 ny15, .int .i64 ny16, .int .i64 ny17, .int .i64 ny18, .int .i64 ny19, .int .i64 ny20, .int .i64 ny21, .int .i64 ny22, .int .i64 ny23] = w8_1 at *
  generalize hbe : w7_1.heap.size = bb1 at *
  clear hbe
  clear BB1
  go_wp2_with (first
    | ((with_reducible refine wpList_load_blk (op := ⟨some 90, _, _, _, _, _⟩) ?_ 59 (.tmp 11) ?_ (z11) ?_ (z := _) (T := 59) B11 Try.underlying59 ?_ ?_ ?_); rfl; rfl; rfl; rfl; kernel_rfl)
    | ((with_reducible refine wpList_load_blk (op := ⟨some 91, _, _, _, _, _⟩) ?_ 59 (.tmp 13) ?_ (z13) ?_ (z := _) (T := 59) B13 Try.underlying59 ?_ ?_ ?_); rfl; rfl; rfl; rfl; kernel_rfl)
    | ((with_reducible refine wpList_load_blk (op := ⟨some 92, _, _, _, _, _⟩) ?_ 59 (.tmp 12) ?_ (z12) ?_ (z := _) (T := 59) B12 Try.underlying59 ?_ ?_ ?_); rfl; rfl; rfl; rfl; kernel_rfl)
    | fail)
  refine (HT.out _).mono ?_
  rintro e w7_2 ⟨rfl, x1⟩
  have xx := xx.trans x1
  have B11 := B11.ext x1
  have B12 := B12.ext x1
  have B13 := B13.ext x1
  have B14 := B14.ext x1
  clear x1
  have BB2 := (Blk.new w7_2 #[.int .i64 0, .int .i64 0, .int .i64 0, .int .i64 0, .int .i64 0, .int .i64 0, .int .i64 0, .int .i64 0, .int .i64 0, .int .i64 0, .int .i64 0, .int .i64 0, .int .i64 0, .int .i64 0, .int .i64 0, .int .i64 0, .int .i64 0, .int .i64 0, .int .i64 0, .int .i64 0, .int .i64 0, .int .i64 0, .int .i64 0, .int .i64 0] 55).setRow #[.int .i64 nz0, .int .i64 nz1, .int .i64 nz2, .int .i64 nz3, .int .i64 nz4, .int .i64 nz5, .int .i64 nz6, .int .i64 nz7, .int .i64 nz8, .int .i64 nz9, .int .i64 nz10, .int .i64 nz11, .int .i64 nz12, .int .i64 nz13, .int .i64 nz14, .int .i64 nz15, .int .i64 nz16, .int .i64 nz17, .int .i64 nz18, .int .i64 nz19, .int .i64 nz20, .int .i64 nz21, .int .i64 nz22, .int .i64 nz23]
  have y1 : Ext w7_2 ((w7_2.alloc (.cells #[.int .i64 0, .int .i64 0, .int .i64 0, .int .i64 0, .int .i64 0, .int .i64 0, .int .i64 0, .int .i64 0, .int .i64 0, .int .i64 0, .int .i64 0, .int .i64 0, .int .i64 0, .int .i64 0, .int .i64 0, .int .i64 0, .int .i64 0, .int .i64 0, .int .i64 0, .int .i64 0, .int .i64 0, .int .i64 0, .int .i64 0, .int .i64 0] 55)).setRow w7_2.heap.size #[.int .i64 nz0, .int .i64 nz1, .int .i64 nz2, .int .i64 nz3, .int .i64 nz4, .int .i64 nz5, .int .i64 nz6, .int .i64 nz7, .int .i64 nz8, .int .i64 nz9, .int .i64 nz10, .int .i64 nz11, .int .i64 nz12, .int .i64 nz13, .int .i64 nz14, .int .i64 nz15, .int .i64 nz16, .int .i64 nz17, .int .i64 nz18, .int .i64 nz19, .int .i64 nz20, .int .i64 nz21, .int .i64 nz22, .int .i64 nz23]) := ((Ext.refl _).alloc _ _).setRow (Nat.le_refl _) _
  go_upto_region 13 with (first
    | ((with_reducible refine wpList_store_blk (op := ⟨none, .store 55 (.tmp 22) (.tmp 94), _, _, _, _⟩) ?_ 55 (.tmp 22) (.tmp 94) ?_ (w7_2.heap.size) ?_ (cs := #[.int .i64 nz0, .int .i64 nz1, .int .i64 nz2, .int .i64 nz3, .int .i64 nz4, .int .i64 nz5, .int .i64 nz6, .int .i64 nz7, .int .i64 nz8, .int .i64 nz9, .int .i64 nz10, .int .i64 nz11, .int .i64 nz12, .int .i64 nz13, .int .i64 nz14, .int .i64 nz15, .int .i64 nz16, .int .i64 nz17, .int .i64 nz18, .int .i64 nz19, .int .i64 nz20, .int .i64 nz21, .int .i64 nz22, .int .i64 nz23]) ?_ (z := #[.int .i64 0, .int .i64 0, .int .i64 0, .int .i64 0, .int .i64 0, .int .i64 0, .int .i64 0, .int .i64 0, .int .i64 0, .int .i64 0, .int .i64 0, .int .i64 0, .int .i64 0, .int .i64 0, .int .i64 0, .int .i64 0, .int .i64 0, .int .i64 0, .int .i64 0, .int .i64 0, .int .i64 0, .int .i64 0, .int .i64 0, .int .i64 0]) (T := 55) ?_ ?_ ?_ ?_ ?_); rfl; rfl; rfl; rfl; exact Blk.new w7_2 _ _; kernel_rfl; kernel_rfl; kernel_rfl)
    | fail)
  try simp only [Act.put]
  have xx := xx.trans y1
  have B11 := B11.ext y1
  have B12 := B12.ext y1
  have B13 := B13.ext y1
  have B14 := B14.ext y1
  clear y1
  generalize (w7_2.alloc (.cells #[.int .i64 0, .int .i64 0, .int .i64 0, .int .i64 0, .int .i64 0, .int .i64 0, .int .i64 0, .int .i64 0, .int .i64 0, .int .i64 0, .int .i64 0, .int .i64 0, .int .i64 0, .int .i64 0, .int .i64 0, .int .i64 0, .int .i64 0, .int .i64 0, .int .i64 0, .int .i64 0, .int .i64 0, .int .i64 0, .int .i64 0, .int .i64 0] 55)).setRow w7_2.heap.size #[.int .i64 nz0, .int .i64 nz1, .int .i64 nz2, .int .i64 nz3, .int .i64 nz4, .int .i64 nz5, .int .i64 nz6, .int .i64 nz7, .int .i64 nz8, .int .i64 nz9, .int .i64 nz10, .int .i64 nz11, .int .i64 nz12, .int .i64 nz13, .int .i64 nz14, .int .i64 nz15, .int .i64 nz16, .int .i64 nz17, .int .i64 nz18, .int .i64 nz19, .int .i64 nz20, .int .i64 nz21, .int .i64 nz22, .int .i64 nz23] = w8_2 at *
  generalize hbe : w7_2.heap.size = bb2 at *
  clear hbe
  clear BB2
  clear B11 B12 B13
  go_wp2_with (first
    | ((with_reducible refine wpList_load_blk (op := ⟨some 97, _, _, _, _, _⟩) ?_ 55 (.tmp 14) ?_ (b14) ?_ (z := _) (T := 55) B14 Try.underlying55 ?_ ?_ ?_); rfl; rfl; rfl; rfl; kernel_rfl)
    | fail)
  refine (HA.out _).mono ?_
  rintro e w9 ⟨rfl, x1⟩
  have xx := xx.trans x1
  clear x1
  have B25 := (Blk.new w9 #[.int .i64 0, .int .i64 0, .int .i64 0, .int .i64 0] 30).setRow #[.int .i64 k0, .int .i64 k1, .int .i64 k2, .int .i64 k3]
  have y1 : Ext w9 ((w9.alloc (.cells #[.int .i64 0, .int .i64 0, .int .i64 0, .int .i64 0] 30)).setRow w9.heap.size #[.int .i64 k0, .int .i64 k1, .int .i64 k2, .int .i64 k3]) := ((Ext.refl _).alloc _ _).setRow (Nat.le_refl _) _
  go_upto_region 14 with (first
    | ((with_reducible refine wpList_store_blk (op := ⟨none, .store 30 (.tmp 25) (.tmp 106), _, _, _, _⟩) ?_ 30 (.tmp 25) (.tmp 106) ?_ (w9.heap.size) ?_ (cs := #[.int .i64 k0, .int .i64 k1, .int .i64 k2, .int .i64 k3]) ?_ (z := #[.int .i64 0, .int .i64 0, .int .i64 0, .int .i64 0]) (T := 30) ?_ ?_ ?_ ?_ ?_); rfl; rfl; rfl; rfl; exact Blk.new w9 _ _; kernel_rfl; kernel_rfl; kernel_rfl)
    | fail)
  try simp only [Act.put]
  have xx := xx.trans y1
  clear y1
  generalize (w9.alloc (.cells #[.int .i64 0, .int .i64 0, .int .i64 0, .int .i64 0] 30)).setRow w9.heap.size #[.int .i64 k0, .int .i64 k1, .int .i64 k2, .int .i64 k3] = w10 at *
  generalize hbe : w9.heap.size = b25 at *
  clear hbe
  clear B14 B25
  go_wp2_with fail
  go_ret
  exact ⟨rfl, xx⟩
set_option maxRecDepth 100000 in
set_option maxHeartbeats 4000000 in
theorem culls_neg (xa_x xa_y xa_z xa_w xa_r xa_g xa_b xa_a xb_x xb_y xb_z xb_w xb_r xb_g xb_b xb_a xc_x xc_y xc_z xc_w xc_r xc_g xc_b xc_a : Int) (xa_f xb_f xc_f : Bool) (a0 a1 a2 a3 a4 a5 a6 a7 b0 b1 b2 b3 b4 b5 b6 b7 c0 c1 c2 c3 c4 c5 c6 c7 ca0 ca1 ca2 ca3 ca4 ca5 ca6 ca7 cb0 cb1 cb2 cb3 cb4 cb5 cb6 cb7 cc0 cc1 cc2 cc3 cc4 cc5 cc6 cc7 m0 m1 m2 m3 m4 m5 m6 m7 m8 m9 m10 m11 m12 m13 m14 m15 m16 m17 m18 m19 m20 m21 m22 m23 nx0 nx1 nx2 nx3 nx4 nx5 nx6 nx7 nx8 nx9 nx10 nx11 nx12 nx13 nx14 nx15 nx16 nx17 nx18 nx19 nx20 nx21 nx22 nx23 ny0 ny1 ny2 ny3 ny4 ny5 ny6 ny7 ny8 ny9 ny10 ny11 ny12 ny13 ny14 ny15 ny16 ny17 ny18 ny19 ny20 ny21 ny22 ny23 nz0 nz1 nz2 nz3 nz4 nz5 nz6 nz7 nz8 nz9 nz10 nz11 nz12 nz13 nz14 nz15 nz16 nz17 nz18 nz19 nz20 nz21 nz22 nz23 d k0 k1 k2 k3 wd x y n0 n p1 q1 : Int) (cv : Bool) (hn0 : wd.tmod 50 = n0) (hn : 8 + n0 = n) (bn : 0 ≤ n0 ∧ n0 ≤ 49) (hx1 : x.tmod 64 = p1) (hy1 : y.tmod 64 = q1) (bp1 : 0 ≤ p1 ∧ p1 ≤ 63) (bq1 : 0 ≤ q1 ∧ q1 ≤ 63)
    (hV : ∀ u, Calls Try.prog 10 #[.agg #[.int .i16 xa_x, .int .i16 xa_y, .int .i16 xa_z, .int .i16 xa_w, .int .u8 xa_r, .int .u8 xa_g, .int .u8 xa_b, .int .u8 xa_a, .bool xa_f, .int .i16 xb_x, .int .i16 xb_y, .int .i16 xb_z, .int .i16 xb_w, .int .u8 xb_r, .int .u8 xb_g, .int .u8 xb_b, .int .u8 xb_a, .bool xb_f, .int .i16 xc_x, .int .i16 xc_y, .int .i16 xc_z, .int .i16 xc_w, .int .u8 xc_r, .int .u8 xc_g, .int .u8 xc_b, .int .u8 xc_a, .bool xc_f]] u fun e w' => e = .returned (.agg #[.int .i64 a0, .int .i64 a1, .int .i64 a2, .int .i64 a3, .int .i64 a4, .int .i64 a5, .int .i64 a6, .int .i64 a7, .int .i64 b0, .int .i64 b1, .int .i64 b2, .int .i64 b3, .int .i64 b4, .int .i64 b5, .int .i64 b6, .int .i64 b7, .int .i64 c0, .int .i64 c1, .int .i64 c2, .int .i64 c3, .int .i64 c4, .int .i64 c5, .int .i64 c6, .int .i64 c7]) ∧ Ext u w') (hO1 : ∀ u, Calls Try.prog 15 #[.agg #[.int .i64 a0, .int .i64 a1, .int .i64 a2, .int .i64 a3, .int .i64 a4, .int .i64 a5, .int .i64 a6, .int .i64 a7], .int .i64 n, .int .i64 n] u fun e w' => e = .returned (.agg #[.int .i64 ca0, .int .i64 ca1, .int .i64 ca2, .int .i64 ca3, .int .i64 ca4, .int .i64 ca5, .int .i64 ca6, .int .i64 ca7]) ∧ Ext u w') (hO2 : ∀ u, Calls Try.prog 15 #[.agg #[.int .i64 b0, .int .i64 b1, .int .i64 b2, .int .i64 b3, .int .i64 b4, .int .i64 b5, .int .i64 b6, .int .i64 b7], .int .i64 n, .int .i64 n] u fun e w' => e = .returned (.agg #[.int .i64 cb0, .int .i64 cb1, .int .i64 cb2, .int .i64 cb3, .int .i64 cb4, .int .i64 cb5, .int .i64 cb6, .int .i64 cb7]) ∧ Ext u w') (hO3 : ∀ u, Calls Try.prog 15 #[.agg #[.int .i64 c0, .int .i64 c1, .int .i64 c2, .int .i64 c3, .int .i64 c4, .int .i64 c5, .int .i64 c6, .int .i64 c7], .int .i64 n, .int .i64 n] u fun e w' => e = .returned (.agg #[.int .i64 cc0, .int .i64 cc1, .int .i64 cc2, .int .i64 cc3, .int .i64 cc4, .int .i64 cc5, .int .i64 cc6, .int .i64 cc7]) ∧ Ext u w')
    (hM : ∀ u, Calls Try.prog 14 #[.agg #[.int .i64 ca0, .int .i64 ca1, .int .i64 ca2, .int .i64 ca3, .int .i64 ca4, .int .i64 ca5, .int .i64 ca6, .int .i64 ca7], .agg #[.int .i64 cb0, .int .i64 cb1, .int .i64 cb2, .int .i64 cb3, .int .i64 cb4, .int .i64 cb5, .int .i64 cb6, .int .i64 cb7], .agg #[.int .i64 cc0, .int .i64 cc1, .int .i64 cc2, .int .i64 cc3, .int .i64 cc4, .int .i64 cc5, .int .i64 cc6, .int .i64 cc7], .int .u8 0] u fun e w' => e = .returned (.tuple #[.agg #[.int .i64 m0, .int .i64 m1, .int .i64 m2, .int .i64 m3, .int .i64 m4, .int .i64 m5, .int .i64 m6, .int .i64 m7, .int .i64 m8, .int .i64 m9, .int .i64 m10, .int .i64 m11, .int .i64 m12, .int .i64 m13, .int .i64 m14, .int .i64 m15, .int .i64 m16, .int .i64 m17, .int .i64 m18, .int .i64 m19, .int .i64 m20, .int .i64 m21, .int .i64 m22, .int .i64 m23], .bool true]) ∧ Ext u w') (hQ : ∀ u, Calls Try.prog 14 #[.agg #[.int .i64 ca0, .int .i64 ca1, .int .i64 ca2, .int .i64 ca3, .int .i64 ca4, .int .i64 ca5, .int .i64 ca6, .int .i64 ca7], .agg #[.int .i64 cc0, .int .i64 cc1, .int .i64 cc2, .int .i64 cc3, .int .i64 cc4, .int .i64 cc5, .int .i64 cc6, .int .i64 cc7], .agg #[.int .i64 cb0, .int .i64 cb1, .int .i64 cb2, .int .i64 cb3, .int .i64 cb4, .int .i64 cb5, .int .i64 cb6, .int .i64 cb7], .int .u8 0] u fun e w' => e = .returned (.tuple #[.agg #[.int .i64 m0, .int .i64 m1, .int .i64 m2, .int .i64 m3, .int .i64 m4, .int .i64 m5, .int .i64 m6, .int .i64 m7, .int .i64 m8, .int .i64 m9, .int .i64 m10, .int .i64 m11, .int .i64 m12, .int .i64 m13, .int .i64 m14, .int .i64 m15, .int .i64 m16, .int .i64 m17, .int .i64 m18, .int .i64 m19, .int .i64 m20, .int .i64 m21, .int .i64 m22, .int .i64 m23], .bool true]) ∧ Ext u w') (hB : ∀ u, Calls Try.prog 14 #[.agg #[.int .i64 ca0, .int .i64 ca1, .int .i64 ca2, .int .i64 ca3, .int .i64 ca4, .int .i64 ca5, .int .i64 ca6, .int .i64 ca7], .agg #[.int .i64 cb0, .int .i64 cb1, .int .i64 cb2, .int .i64 cb3, .int .i64 cb4, .int .i64 cb5, .int .i64 cb6, .int .i64 cb7], .agg #[.int .i64 cc0, .int .i64 cc1, .int .i64 cc2, .int .i64 cc3, .int .i64 cc4, .int .i64 cc5, .int .i64 cc6, .int .i64 cc7], .int .u8 1] u fun e w' => e = .returned (.tuple #[.agg #[.int .i64 nx0, .int .i64 nx1, .int .i64 nx2, .int .i64 nx3, .int .i64 nx4, .int .i64 nx5, .int .i64 nx6, .int .i64 nx7, .int .i64 nx8, .int .i64 nx9, .int .i64 nx10, .int .i64 nx11, .int .i64 nx12, .int .i64 nx13, .int .i64 nx14, .int .i64 nx15, .int .i64 nx16, .int .i64 nx17, .int .i64 nx18, .int .i64 nx19, .int .i64 nx20, .int .i64 nx21, .int .i64 nx22, .int .i64 nx23], .bool false]) ∧ Ext u w') (hF : ∀ u, Calls Try.prog 14 #[.agg #[.int .i64 ca0, .int .i64 ca1, .int .i64 ca2, .int .i64 ca3, .int .i64 ca4, .int .i64 ca5, .int .i64 ca6, .int .i64 ca7], .agg #[.int .i64 cb0, .int .i64 cb1, .int .i64 cb2, .int .i64 cb3, .int .i64 cb4, .int .i64 cb5, .int .i64 cb6, .int .i64 cb7], .agg #[.int .i64 cc0, .int .i64 cc1, .int .i64 cc2, .int .i64 cc3, .int .i64 cc4, .int .i64 cc5, .int .i64 cc6, .int .i64 cc7], .int .u8 2] u fun e w' => e = .returned (.tuple #[.agg #[.int .i64 ny0, .int .i64 ny1, .int .i64 ny2, .int .i64 ny3, .int .i64 ny4, .int .i64 ny5, .int .i64 ny6, .int .i64 ny7, .int .i64 ny8, .int .i64 ny9, .int .i64 ny10, .int .i64 ny11, .int .i64 ny12, .int .i64 ny13, .int .i64 ny14, .int .i64 ny15, .int .i64 ny16, .int .i64 ny17, .int .i64 ny18, .int .i64 ny19, .int .i64 ny20, .int .i64 ny21, .int .i64 ny22, .int .i64 ny23], .bool true]) ∧ Ext u w') (hT : ∀ u, Calls Try.prog 14 #[.agg #[.int .i64 ca0, .int .i64 ca1, .int .i64 ca2, .int .i64 ca3, .int .i64 ca4, .int .i64 ca5, .int .i64 ca6, .int .i64 ca7], .agg #[.int .i64 cc0, .int .i64 cc1, .int .i64 cc2, .int .i64 cc3, .int .i64 cc4, .int .i64 cc5, .int .i64 cc6, .int .i64 cc7], .agg #[.int .i64 cb0, .int .i64 cb1, .int .i64 cb2, .int .i64 cb3, .int .i64 cb4, .int .i64 cb5, .int .i64 cb6, .int .i64 cb7], .int .u8 1] u fun e w' => e = .returned (.tuple #[.agg #[.int .i64 nz0, .int .i64 nz1, .int .i64 nz2, .int .i64 nz3, .int .i64 nz4, .int .i64 nz5, .int .i64 nz6, .int .i64 nz7, .int .i64 nz8, .int .i64 nz9, .int .i64 nz10, .int .i64 nz11, .int .i64 nz12, .int .i64 nz13, .int .i64 nz14, .int .i64 nz15, .int .i64 nz16, .int .i64 nz17, .int .i64 nz18, .int .i64 nz19, .int .i64 nz20, .int .i64 nz21, .int .i64 nz22, .int .i64 nz23], .bool true]) ∧ Ext u w') (hA : ∀ u, Calls Try.prog 19 #[.agg #[.int .i64 m0, .int .i64 m1, .int .i64 m2, .int .i64 m3, .int .i64 m4, .int .i64 m5, .int .i64 m6, .int .i64 m7, .int .i64 m8, .int .i64 m9, .int .i64 m10, .int .i64 m11, .int .i64 m12, .int .i64 m13, .int .i64 m14, .int .i64 m15, .int .i64 m16, .int .i64 m17, .int .i64 m18, .int .i64 m19, .int .i64 m20, .int .i64 m21, .int .i64 m22, .int .i64 m23], .int .i64 p1, .int .i64 q1] u fun e w' => e = .returned (.tuple #[.int .i64 d, .agg #[.int .i64 k0, .int .i64 k1, .int .i64 k2, .int .i64 k3], .bool cv]) ∧ Ext u w') (w : World) :
    Calls Try.prog 6 #[.agg #[.int .i16 xa_x, .int .i16 xa_y, .int .i16 xa_z, .int .i16 xa_w, .int .u8 xa_r, .int .u8 xa_g, .int .u8 xa_b, .int .u8 xa_a, .bool xa_f, .int .i16 xb_x, .int .i16 xb_y, .int .i16 xb_z, .int .i16 xb_w, .int .u8 xb_r, .int .u8 xb_g, .int .u8 xb_b, .int .u8 xb_a, .bool xb_f, .int .i16 xc_x, .int .i16 xc_y, .int .i16 xc_z, .int .i16 xc_w, .int .u8 xc_r, .int .u8 xc_g, .int .u8 xc_b, .int .u8 xc_a, .bool xc_f], .int .u8 wd, .int .u8 x, .int .u8 y] w fun e w' => e = .returned (.bool true) ∧ Ext w w' := by
  have HV := Lib.hid hV
  have HO1 := Lib.hid hO1
  have HO2 := Lib.hid hO2
  have HO3 := Lib.hid hO3
  have HM := Lib.hid hM
  have HQ := Lib.hid hQ
  have HB := Lib.hid hB
  have HF := Lib.hid hF
  have HT := Lib.hid hT
  have HA := Lib.hid hA
  clear hV hO1 hO2 hO3 hM hQ hB hF hT hA
  have wr : ∀ z : Int, 0 ≤ z ∧ z ≤ 63 → IntKind.i64.wrap z = z := fun z hz => by rw [IntKind.wrap_i64]; omega
  have wp1 := wr p1 bp1
  have wp2 := wr q1 bq1
  clear wr
  have wn0 : IntKind.i64.wrap n0 = n0 := by rw [IntKind.wrap_i64]; omega
  have wn : IntKind.i64.wrap n = n := by rw [IntKind.wrap_i64]; omega
  have xx : Ext w (w.alloc (.cells #[.int .i16 xa_x, .int .i16 xa_y, .int .i16 xa_z, .int .i16 xa_w, .int .u8 xa_r, .int .u8 xa_g, .int .u8 xa_b, .int .u8 xa_a, .bool xa_f, .int .i16 xb_x, .int .i16 xb_y, .int .i16 xb_z, .int .i16 xb_w, .int .u8 xb_r, .int .u8 xb_g, .int .u8 xb_b, .int .u8 xb_a, .bool xb_f, .int .i16 xc_x, .int .i16 xc_y, .int .i16 xc_z, .int .i16 xc_w, .int .u8 xc_r, .int .u8 xc_g, .int .u8 xc_b, .int .u8 xc_a, .bool xc_f] 27)) := ((Ext.refl w).alloc _ _)
  have D0 := (Blk.new w #[.int .i16 xa_x, .int .i16 xa_y, .int .i16 xa_z, .int .i16 xa_w, .int .u8 xa_r, .int .u8 xa_g, .int .u8 xa_b, .int .u8 xa_a, .bool xa_f, .int .i16 xb_x, .int .i16 xb_y, .int .i16 xb_z, .int .i16 xb_w, .int .u8 xb_r, .int .u8 xb_g, .int .u8 xb_b, .int .u8 xb_a, .bool xb_f, .int .i16 xc_x, .int .i16 xc_y, .int .i16 xc_z, .int .i16 xc_w, .int .u8 xc_r, .int .u8 xc_g, .int .u8 xc_b, .int .u8 xc_a, .bool xc_f] 27)
  go_enter Try.func6, Try.ntmps6
  go_upto_region 1 with fail

  generalize (w.alloc (.cells #[.int .i16 xa_x, .int .i16 xa_y, .int .i16 xa_z, .int .i16 xa_w, .int .u8 xa_r, .int .u8 xa_g, .int .u8 xa_b, .int .u8 xa_a, .bool xa_f, .int .i16 xb_x, .int .i16 xb_y, .int .i16 xb_z, .int .i16 xb_w, .int .u8 xb_r, .int .u8 xb_g, .int .u8 xb_b, .int .u8 xb_a, .bool xb_f, .int .i16 xc_x, .int .i16 xc_y, .int .i16 xc_z, .int .i16 xc_w, .int .u8 xc_r, .int .u8 xc_g, .int .u8 xc_b, .int .u8 xc_a, .bool xc_f] 27)) = w0 at *
  go_wp2_with fail
  refine (awake13_any _).mono ?_
  rintro e w1 ⟨rfl, x1⟩
  have xx := xx.trans x1
  have D0 := D0.ext x1
  clear x1
  go_wp2_with (first
    | ((with_reducible refine wpList_load_blk (op := ⟨some 29, _, _, _, _, _⟩) ?_ 27 (.tmp 4) ?_ (w.heap.size) ?_ (z := _) (T := 27) D0 Try.underlying27 ?_ ?_ ?_); rfl; rfl; rfl; rfl; kernel_rfl)
    | fail)
  refine (HV.out _).mono ?_
  rintro e w2 ⟨rfl, x1⟩
  have xx := xx.trans x1
  clear x1
  have B9 := (Blk.new w2 #[.int .i64 0, .int .i64 0, .int .i64 0, .int .i64 0, .int .i64 0, .int .i64 0, .int .i64 0, .int .i64 0, .int .i64 0, .int .i64 0, .int .i64 0, .int .i64 0, .int .i64 0, .int .i64 0, .int .i64 0, .int .i64 0, .int .i64 0, .int .i64 0, .int .i64 0, .int .i64 0, .int .i64 0, .int .i64 0, .int .i64 0, .int .i64 0] 33).setRow #[.int .i64 a0, .int .i64 a1, .int .i64 a2, .int .i64 a3, .int .i64 a4, .int .i64 a5, .int .i64 a6, .int .i64 a7, .int .i64 b0, .int .i64 b1, .int .i64 b2, .int .i64 b3, .int .i64 b4, .int .i64 b5, .int .i64 b6, .int .i64 b7, .int .i64 c0, .int .i64 c1, .int .i64 c2, .int .i64 c3, .int .i64 c4, .int .i64 c5, .int .i64 c6, .int .i64 c7]
  have y1 : Ext w2 ((w2.alloc (.cells #[.int .i64 0, .int .i64 0, .int .i64 0, .int .i64 0, .int .i64 0, .int .i64 0, .int .i64 0, .int .i64 0, .int .i64 0, .int .i64 0, .int .i64 0, .int .i64 0, .int .i64 0, .int .i64 0, .int .i64 0, .int .i64 0, .int .i64 0, .int .i64 0, .int .i64 0, .int .i64 0, .int .i64 0, .int .i64 0, .int .i64 0, .int .i64 0] 33)).setRow w2.heap.size #[.int .i64 a0, .int .i64 a1, .int .i64 a2, .int .i64 a3, .int .i64 a4, .int .i64 a5, .int .i64 a6, .int .i64 a7, .int .i64 b0, .int .i64 b1, .int .i64 b2, .int .i64 b3, .int .i64 b4, .int .i64 b5, .int .i64 b6, .int .i64 b7, .int .i64 c0, .int .i64 c1, .int .i64 c2, .int .i64 c3, .int .i64 c4, .int .i64 c5, .int .i64 c6, .int .i64 c7]) := ((Ext.refl _).alloc _ _).setRow (Nat.le_refl _) _
  go_upto_region 4 with (first
    | ((with_reducible refine wpList_store_blk (op := ⟨none, .store 33 (.tmp 9) (.tmp 30), _, _, _, _⟩) ?_ 33 (.tmp 9) (.tmp 30) ?_ (w2.heap.size) ?_ (cs := #[.int .i64 a0, .int .i64 a1, .int .i64 a2, .int .i64 a3, .int .i64 a4, .int .i64 a5, .int .i64 a6, .int .i64 a7, .int .i64 b0, .int .i64 b1, .int .i64 b2, .int .i64 b3, .int .i64 b4, .int .i64 b5, .int .i64 b6, .int .i64 b7, .int .i64 c0, .int .i64 c1, .int .i64 c2, .int .i64 c3, .int .i64 c4, .int .i64 c5, .int .i64 c6, .int .i64 c7]) ?_ (z := #[.int .i64 0, .int .i64 0, .int .i64 0, .int .i64 0, .int .i64 0, .int .i64 0, .int .i64 0, .int .i64 0, .int .i64 0, .int .i64 0, .int .i64 0, .int .i64 0, .int .i64 0, .int .i64 0, .int .i64 0, .int .i64 0, .int .i64 0, .int .i64 0, .int .i64 0, .int .i64 0, .int .i64 0, .int .i64 0, .int .i64 0, .int .i64 0]) (T := 33) ?_ ?_ ?_ ?_ ?_); rfl; rfl; rfl; rfl; exact Blk.new w2 _ _; kernel_rfl; kernel_rfl; kernel_rfl)
    | fail)
  try simp only [Act.put]
  have xx := xx.trans y1
  clear y1
  generalize (w2.alloc (.cells #[.int .i64 0, .int .i64 0, .int .i64 0, .int .i64 0, .int .i64 0, .int .i64 0, .int .i64 0, .int .i64 0, .int .i64 0, .int .i64 0, .int .i64 0, .int .i64 0, .int .i64 0, .int .i64 0, .int .i64 0, .int .i64 0, .int .i64 0, .int .i64 0, .int .i64 0, .int .i64 0, .int .i64 0, .int .i64 0, .int .i64 0, .int .i64 0] 33)).setRow w2.heap.size #[.int .i64 a0, .int .i64 a1, .int .i64 a2, .int .i64 a3, .int .i64 a4, .int .i64 a5, .int .i64 a6, .int .i64 a7, .int .i64 b0, .int .i64 b1, .int .i64 b2, .int .i64 b3, .int .i64 b4, .int .i64 b5, .int .i64 b6, .int .i64 b7, .int .i64 c0, .int .i64 c1, .int .i64 c2, .int .i64 c3, .int .i64 c4, .int .i64 c5, .int .i64 c6, .int .i64 c7] = w3 at *
  generalize hbe : w2.heap.size = b9 at *
  clear hbe
  clear D0
  go_upto_region 5 with fail
  apply wp_region_vars [false, false, false, false, false, false, false, false, false, false, false, false, false, false, false, true, true, true, true, true, true] [] [⟨some 15, 11, 0, some 18, 59, #[.int .i64 0, .int .i64 0, .int .i64 0, .int .i64 0, .int .i64 0, .int .i64 0, .int .i64 0, .int .i64 0], #[.int .i64 ca0, .int .i64 ca1, .int .i64 ca2, .int .i64 ca3, .int .i64 ca4, .int .i64 ca5, .int .i64 ca6, .int .i64 ca7]⟩, ⟨some 16, 12, 0, some 19, 59, #[.int .i64 0, .int .i64 0, .int .i64 0, .int .i64 0, .int .i64 0, .int .i64 0, .int .i64 0, .int .i64 0], #[.int .i64 cb0, .int .i64 cb1, .int .i64 cb2, .int .i64 cb3, .int .i64 cb4, .int .i64 cb5, .int .i64 cb6, .int .i64 cb7]⟩, ⟨some 17, 13, 0, some 20, 59, #[.int .i64 0, .int .i64 0, .int .i64 0, .int .i64 0, .int .i64 0, .int .i64 0, .int .i64 0, .int .i64 0], #[.int .i64 cc0, .int .i64 cc1, .int .i64 cc2, .int .i64 cc3, .int .i64 cc4, .int .i64 cc5, .int .i64 cc6, .int .i64 cc7]⟩] _ (by kernel_rfl) (by kernel_rfl) (by kernel_rfl)
  case H =>
    intro x0 hx
    have hne : Nonempty (Wx x0) := ⟨⟨x0, Ext.refl x0⟩⟩
    have kB9 := fun (y : Wx x0) => (B9.calm hx (by simp)).ext y.ext
    have qB9 := fun (y : Wx x0) => ((B9.calm hx (by simp)).ext y.ext).cell
    simp only [eraseM]
    repeat (go_big_quiet_step (first | (go_at_call 15; with_reducible exact calm_of (HO1.out _)) | (go_at_call 15; with_reducible exact calm_of (HO2.out _)) | (go_at_call 15; with_reducible exact calm_of (HO3.out _))))
    exact wpQuiet_nil rfl
  case hok =>
    simp only [List.forall_mem_cons, List.not_mem_nil, false_implies, implies_true, and_true]
    exact ⟨tgt_fresh (by simp) rfl rfl mkCn rfl rfl rfl rfl (by kernel_rfl) (by kernel_rfl) rfl, tgt_fresh (by simp) rfl rfl mkCn rfl rfl rfl rfl (by kernel_rfl) (by kernel_rfl) rfl, tgt_fresh (by simp) rfl rfl mkCn rfl rfl rfl rfl (by kernel_rfl) (by kernel_rfl) rfl⟩
  case hdis =>
    intro k k' t t' hk hk' _ ha
    exfalso
    have := List.mem_of_getElem? hk
    simp only [List.mem_cons, List.not_mem_nil, or_false] at this
    rcases this with rfl | rfl | rfl <;> cases ha
  rintro w4 f hw ⟨zk0, zl0, zd0, zu0, zk1, zl1, zd1, zu1, zk2, zl2, zd2, zu2, -⟩
  have xx := xx.trans hw.ext
  simp only [pairs, putAll, Option.isSome_some, if_true, Act.put, List.setIfInBounds_toArray, List.set_cons_succ, List.set_cons_zero, Nat.zero_add]
  generalize f 0 = z11 at *
  generalize f 1 = z12 at *
  generalize f 2 = z13 at *
  have B11 : Blk w4 z11 #[.int .i64 ca0, .int .i64 ca1, .int .i64 ca2, .int .i64 ca3, .int .i64 ca4, .int .i64 ca5, .int .i64 ca6, .int .i64 ca7] 59 := zd0
  have B12 : Blk w4 z12 #[.int .i64 cb0, .int .i64 cb1, .int .i64 cb2, .int .i64 cb3, .int .i64 cb4, .int .i64 cb5, .int .i64 cb6, .int .i64 cb7] 59 := zd1
  have B13 : Blk w4 z13 #[.int .i64 cc0, .int .i64 cc1, .int .i64 cc2, .int .i64 cc3, .int .i64 cc4, .int .i64 cc5, .int .i64 cc6, .int .i64 cc7] 59 := zd2
  clear zk0 zl0 zd0 zu0 zk1 zl1 zd1 zu1 zk2 zl2 zd2 zu2 hw
  clear B9
  go_wp2_with (first
    | ((with_reducible refine wpList_load_blk (op := ⟨some 51, _, _, _, _, _⟩) ?_ 59 (.tmp 11) ?_ (z11) ?_ (z := _) (T := 59) B11 Try.underlying59 ?_ ?_ ?_); rfl; rfl; rfl; rfl; kernel_rfl)
    | ((with_reducible refine wpList_load_blk (op := ⟨some 52, _, _, _, _, _⟩) ?_ 59 (.tmp 12) ?_ (z12) ?_ (z := _) (T := 59) B12 Try.underlying59 ?_ ?_ ?_); rfl; rfl; rfl; rfl; kernel_rfl)
    | ((with_reducible refine wpList_load_blk (op := ⟨some 53, _, _, _, _, _⟩) ?_ 59 (.tmp 13) ?_ (z13) ?_ (z := _) (T := 59) B13 Try.underlying59 ?_ ?_ ?_); rfl; rfl; rfl; rfl; kernel_rfl)
    | fail)
  refine (HM.out _).mono ?_
  rintro e w5_0 ⟨rfl, x1⟩
  have xx := xx.trans x1
  have B11 := B11.ext x1
  have B12 := B12.ext x1
  have B13 := B13.ext x1
  clear x1
  have B14 := (Blk.new w5_0 #[.int .i64 0, .int .i64 0, .int .i64 0, .int .i64 0, .int .i64 0, .int .i64 0, .int .i64 0, .int .i64 0, .int .i64 0, .int .i64 0, .int .i64 0, .int .i64 0, .int .i64 0, .int .i64 0, .int .i64 0, .int .i64 0, .int .i64 0, .int .i64 0, .int .i64 0, .int .i64 0, .int .i64 0, .int .i64 0, .int .i64 0, .int .i64 0] 55).setRow #[.int .i64 m0, .int .i64 m1, .int .i64 m2, .int .i64 m3, .int .i64 m4, .int .i64 m5, .int .i64 m6, .int .i64 m7, .int .i64 m8, .int .i64 m9, .int .i64 m10, .int .i64 m11, .int .i64 m12, .int .i64 m13, .int .i64 m14, .int .i64 m15, .int .i64 m16, .int .i64 m17, .int .i64 m18, .int .i64 m19, .int .i64 m20, .int .i64 m21, .int .i64 m22, .int .i64 m23]
  have y1 : Ext w5_0 ((w5_0.alloc (.cells #[.int .i64 0, .int .i64 0, .int .i64 0, .int .i64 0, .int .i64 0, .int .i64 0, .int .i64 0, .int .i64 0, .int .i64 0, .int .i64 0, .int .i64 0, .int .i64 0, .int .i64 0, .int .i64 0, .int .i64 0, .int .i64 0, .int .i64 0, .int .i64 0, .int .i64 0, .int .i64 0, .int .i64 0, .int .i64 0, .int .i64 0, .int .i64 0] 55)).setRow w5_0.heap.size #[.int .i64 m0, .int .i64 m1, .int .i64 m2, .int .i64 m3, .int .i64 m4, .int .i64 m5, .int .i64 m6, .int .i64 m7, .int .i64 m8, .int .i64 m9, .int .i64 m10, .int .i64 m11, .int .i64 m12, .int .i64 m13, .int .i64 m14, .int .i64 m15, .int .i64 m16, .int .i64 m17, .int .i64 m18, .int .i64 m19, .int .i64 m20, .int .i64 m21, .int .i64 m22, .int .i64 m23]) := ((Ext.refl _).alloc _ _).setRow (Nat.le_refl _) _
  go_upto_region 7 with (first
    | ((with_reducible refine wpList_store_blk (op := ⟨none, .store 55 (.tmp 14) (.tmp 55), _, _, _, _⟩) ?_ 55 (.tmp 14) (.tmp 55) ?_ (w5_0.heap.size) ?_ (cs := #[.int .i64 m0, .int .i64 m1, .int .i64 m2, .int .i64 m3, .int .i64 m4, .int .i64 m5, .int .i64 m6, .int .i64 m7, .int .i64 m8, .int .i64 m9, .int .i64 m10, .int .i64 m11, .int .i64 m12, .int .i64 m13, .int .i64 m14, .int .i64 m15, .int .i64 m16, .int .i64 m17, .int .i64 m18, .int .i64 m19, .int .i64 m20, .int .i64 m21, .int .i64 m22, .int .i64 m23]) ?_ (z := #[.int .i64 0, .int .i64 0, .int .i64 0, .int .i64 0, .int .i64 0, .int .i64 0, .int .i64 0, .int .i64 0, .int .i64 0, .int .i64 0, .int .i64 0, .int .i64 0, .int .i64 0, .int .i64 0, .int .i64 0, .int .i64 0, .int .i64 0, .int .i64 0, .int .i64 0, .int .i64 0, .int .i64 0, .int .i64 0, .int .i64 0, .int .i64 0]) (T := 55) ?_ ?_ ?_ ?_ ?_); rfl; rfl; rfl; rfl; exact Blk.new w5_0 _ _; kernel_rfl; kernel_rfl; kernel_rfl)
    | fail)
  try simp only [Act.put]
  have xx := xx.trans y1
  have B11 := B11.ext y1
  have B12 := B12.ext y1
  have B13 := B13.ext y1
  clear y1
  generalize (w5_0.alloc (.cells #[.int .i64 0, .int .i64 0, .int .i64 0, .int .i64 0, .int .i64 0, .int .i64 0, .int .i64 0, .int .i64 0, .int .i64 0, .int .i64 0, .int .i64 0, .int .i64 0, .int .i64 0, .int .i64 0, .int .i64 0, .int .i64 0, .int .i64 0, .int .i64 0, .int .i64 0, .int .i64 0, .int .i64 0, .int .i64 0, .int .i64 0, .int .i64 0] 55)).setRow w5_0.heap.size #[.int .i64 m0, .int .i64 m1, .int .i64 m2, .int .i64 m3, .int .i64 m4, .int .i64 m5, .int .i64 m6, .int .i64 m7, .int .i64 m8, .int .i64 m9, .int .i64 m10, .int .i64 m11, .int .i64 m12, .int .i64 m13, .int .i64 m14, .int .i64 m15, .int .i64 m16, .int .i64 m17, .int .i64 m18, .int .i64 m19, .int .i64 m20, .int .i64 m21, .int .i64 m22, .int .i64 m23] = w6_0 at *
  generalize hbe : w5_0.heap.size = b14 at *
  clear hbe
  go_wp2_with (first
    | ((with_reducible refine wpList_load_blk (op := ⟨some 58, _, _, _, _, _⟩) ?_ 59 (.tmp 11) ?_ (z11) ?_ (z := _) (T := 59) B11 Try.underlying59 ?_ ?_ ?_); rfl; rfl; rfl; rfl; kernel_rfl)
    | ((with_reducible refine wpList_load_blk (op := ⟨some 59, _, _, _, _, _⟩) ?_ 59 (.tmp 13) ?_ (z13) ?_ (z := _) (T := 59) B13 Try.underlying59 ?_ ?_ ?_); rfl; rfl; rfl; rfl; kernel_rfl)
    | ((with_reducible refine wpList_load_blk (op := ⟨some 60, _, _, _, _, _⟩) ?_ 59 (.tmp 12) ?_ (z12) ?_ (z := _) (T := 59) B12 Try.underlying59 ?_ ?_ ?_); rfl; rfl; rfl; rfl; kernel_rfl)
    | fail)
  refine (HQ.out _).mono ?_
  rintro e w5_1 ⟨rfl, x1⟩
  have xx := xx.trans x1
  have B11 := B11.ext x1
  have B12 := B12.ext x1
  have B13 := B13.ext x1
  have B14 := B14.ext x1
  clear x1
  have B16 := (Blk.new w5_1 #[.int .i64 0, .int .i64 0, .int .i64 0, .int .i64 0, .int .i64 0, .int .i64 0, .int .i64 0, .int .i64 0, .int .i64 0, .int .i64 0, .int .i64 0, .int .i64 0, .int .i64 0, .int .i64 0, .int .i64 0, .int .i64 0, .int .i64 0, .int .i64 0, .int .i64 0, .int .i64 0, .int .i64 0, .int .i64 0, .int .i64 0, .int .i64 0] 55).setRow #[.int .i64 m0, .int .i64 m1, .int .i64 m2, .int .i64 m3, .int .i64 m4, .int .i64 m5, .int .i64 m6, .int .i64 m7, .int .i64 m8, .int .i64 m9, .int .i64 m10, .int .i64 m11, .int .i64 m12, .int .i64 m13, .int .i64 m14, .int .i64 m15, .int .i64 m16, .int .i64 m17, .int .i64 m18, .int .i64 m19, .int .i64 m20, .int .i64 m21, .int .i64 m22, .int .i64 m23]
  have y1 : Ext w5_1 ((w5_1.alloc (.cells #[.int .i64 0, .int .i64 0, .int .i64 0, .int .i64 0, .int .i64 0, .int .i64 0, .int .i64 0, .int .i64 0, .int .i64 0, .int .i64 0, .int .i64 0, .int .i64 0, .int .i64 0, .int .i64 0, .int .i64 0, .int .i64 0, .int .i64 0, .int .i64 0, .int .i64 0, .int .i64 0, .int .i64 0, .int .i64 0, .int .i64 0, .int .i64 0] 55)).setRow w5_1.heap.size #[.int .i64 m0, .int .i64 m1, .int .i64 m2, .int .i64 m3, .int .i64 m4, .int .i64 m5, .int .i64 m6, .int .i64 m7, .int .i64 m8, .int .i64 m9, .int .i64 m10, .int .i64 m11, .int .i64 m12, .int .i64 m13, .int .i64 m14, .int .i64 m15, .int .i64 m16, .int .i64 m17, .int .i64 m18, .int .i64 m19, .int .i64 m20, .int .i64 m21, .int .i64 m22, .int .i64 m23]) := ((Ext.refl _).alloc _ _).setRow (Nat.le_refl _) _
  go_upto_region 8 with (first
    | ((with_reducible refine wpList_store_blk (op := ⟨none, .store 55 (.tmp 16) (.tmp 62), _, _, _, _⟩) ?_ 55 (.tmp 16) (.tmp 62) ?_ (w5_1.heap.size) ?_ (cs := #[.int .i64 m0, .int .i64 m1, .int .i64 m2, .int .i64 m3, .int .i64 m4, .int .i64 m5, .int .i64 m6, .int .i64 m7, .int .i64 m8, .int .i64 m9, .int .i64 m10, .int .i64 m11, .int .i64 m12, .int .i64 m13, .int .i64 m14, .int .i64 m15, .int .i64 m16, .int .i64 m17, .int .i64 m18, .int .i64 m19, .int .i64 m20, .int .i64 m21, .int .i64 m22, .int .i64 m23]) ?_ (z := #[.int .i64 0, .int .i64 0, .int .i64 0, .int .i64 0, .int .i64 0, .int .i64 0, .int .i64 0, .int .i64 0, .int .i64 0, .int .i64 0, .int .i64 0, .int .i64 0, .int .i64 0, .int .i64 0, .int .i64 0, .int .i64 0, .int .i64 0, .int .i64 0, .int .i64 0, .int .i64 0, .int .i64 0, .int .i64 0, .int .i64 0, .int .i64 0]) (T := 55) ?_ ?_ ?_ ?_ ?_); rfl; rfl; rfl; rfl; exact Blk.new w5_1 _ _; kernel_rfl; kernel_rfl; kernel_rfl)
    | fail)
  try simp only [Act.put]
  have xx := xx.trans y1
  have B11 := B11.ext y1
  have B12 := B12.ext y1
  have B13 := B13.ext y1
  have B14 := B14.ext y1
  clear y1
  generalize (w5_1.alloc (.cells #[.int .i64 0, .int .i64 0, .int .i64 0, .int .i64 0, .int .i64 0, .int .i64 0, .int .i64 0, .int .i64 0, .int .i64 0, .int .i64 0, .int .i64 0, .int .i64 0, .int .i64 0, .int .i64 0, .int .i64 0, .int .i64 0, .int .i64 0, .int .i64 0, .int .i64 0, .int .i64 0, .int .i64 0, .int .i64 0, .int .i64 0, .int .i64 0] 55)).setRow w5_1.heap.size #[.int .i64 m0, .int .i64 m1, .int .i64 m2, .int .i64 m3, .int .i64 m4, .int .i64 m5, .int .i64 m6, .int .i64 m7, .int .i64 m8, .int .i64 m9, .int .i64 m10, .int .i64 m11, .int .i64 m12, .int .i64 m13, .int .i64 m14, .int .i64 m15, .int .i64 m16, .int .i64 m17, .int .i64 m18, .int .i64 m19, .int .i64 m20, .int .i64 m21, .int .i64 m22, .int .i64 m23] = w6_1 at *
  generalize hbe : w5_1.heap.size = b16 at *
  clear hbe
  have hq := eqT55 m0 m1 m2 m3 m4 m5 m6 m7 m8 m9 m10 m11 m12 m13 m14 m15 m16 m17 m18 m19 m20 m21 m22 m23
  go_upto_region 10 with (first
    | ((with_reducible refine wpList_load_blkG (op := ⟨some 70, _, _, _, _, _⟩) ?_ 55 (.tmp 14) ?_ b14 ?_ (z := _) (T := 55) B14 Try.underlying55 ?_ ?_ ?_); rfl; rfl; rfl; rfl; kernel_rfl)
    | ((with_reducible refine wpList_load_blkG (op := ⟨some 71, _, _, _, _, _⟩) ?_ 55 (.tmp 16) ?_ b16 ?_ (z := _) (T := 55) B16 Try.underlying55 ?_ ?_ ?_); rfl; rfl; rfl; rfl; kernel_rfl)
    | fail)
  clear hq B16
  go_wp2_with (first
    | ((with_reducible refine wpList_load_blk (op := ⟨some 76, _, _, _, _, _⟩) ?_ 59 (.tmp 11) ?_ (z11) ?_ (z := _) (T := 59) B11 Try.underlying59 ?_ ?_ ?_); rfl; rfl; rfl; rfl; kernel_rfl)
    | ((with_reducible refine wpList_load_blk (op := ⟨some 77, _, _, _, _, _⟩) ?_ 59 (.tmp 12) ?_ (z12) ?_ (z := _) (T := 59) B12 Try.underlying59 ?_ ?_ ?_); rfl; rfl; rfl; rfl; kernel_rfl)
    | ((with_reducible refine wpList_load_blk (op := ⟨some 78, _, _, _, _, _⟩) ?_ 59 (.tmp 13) ?_ (z13) ?_ (z := _) (T := 59) B13 Try.underlying59 ?_ ?_ ?_); rfl; rfl; rfl; rfl; kernel_rfl)
    | fail)
  refine (HB.out _).mono ?_
  rintro e w7_0 ⟨rfl, x1⟩
  have xx := xx.trans x1
  have B11 := B11.ext x1
  have B12 := B12.ext x1
  have B13 := B13.ext x1
  have B14 := B14.ext x1
  clear x1
  have BB0 := (Blk.new w7_0 #[.int .i64 0, .int .i64 0, .int .i64 0, .int .i64 0, .int .i64 0, .int .i64 0, .int .i64 0, .int .i64 0, .int .i64 0, .int .i64 0, .int .i64 0, .int .i64 0, .int .i64 0, .int .i64 0, .int .i64 0, .int .i64 0, .int .i64 0, .int .i64 0, .int .i64 0, .int .i64 0, .int .i64 0, .int .i64 0, .int .i64 0, .int .i64 0] 55).setRow #[.int .i64 nx0, .int .i64 nx1, .int .i64 nx2, .int .i64 nx3, .int .i64 nx4, .int .i64 nx5, .int .i64 nx6, .int .i64 nx7, .int .i64 nx8, .int .i64 nx9, .int .i64 nx10, .int .i64 nx11, .int .i64 nx12, .int .i64 nx13, .int .i64 nx14, .int .i64 nx15, .int .i64 nx16, .int .i64 nx17, .int .i64 nx18, .int .i64 nx19, .int .i64 nx20, .int .i64 nx21, .int .i64 nx22, .int .i64 nx23]
  have y1 : Ext w7_0 ((w7_0.alloc (.cells #[.int .i64 0, .int .i64 0, .int .i64 0, .int .i64 0, .int .i64 0, .int .i64 0, .int .i64 0, .int .i64 0, .int .i64 0, .int .i64 0, .int .i64 0, .int .i64 0, .int .i64 0, .int .i64 0, .int .i64 0, .int .i64 0, .int .i64 0, .int .i64 0, .int .i64 0, .int .i64 0, .int .i64 0, .int .i64 0, .int .i64 0, .int .i64 0] 55)).setRow w7_0.heap.size #[.int .i64 nx0, .int .i64 nx1, .int .i64 nx2, .int .i64 nx3, .int .i64 nx4, .int .i64 nx5, .int .i64 nx6, .int .i64 nx7, .int .i64 nx8, .int .i64 nx9, .int .i64 nx10, .int .i64 nx11, .int .i64 nx12, .int .i64 nx13, .int .i64 nx14, .int .i64 nx15, .int .i64 nx16, .int .i64 nx17, .int .i64 nx18, .int .i64 nx19, .int .i64 nx20, .int .i64 nx21, .int .i64 nx22, .int .i64 nx23]) := ((Ext.refl _).alloc _ _).setRow (Nat.le_refl _) _
  go_upto_region 11 with (first
    | ((with_reducible refine wpList_store_blk (op := ⟨none, .store 55 (.tmp 18) (.tmp 80), _, _, _, _⟩) ?_ 55 (.tmp 18) (.tmp 80) ?_ (w7_0.heap.size) ?_ (cs := #[.int .i64 nx0, .int .i64 nx1, .int .i64 nx2, .int .i64 nx3, .int .i64 nx4, .int .i64 nx5, .int .i64 nx6, .int .i64 nx7, .int .i64 nx8, .int .i64 nx9, .int .i64 nx10, .int .i64 nx11, .int .i64 nx12, .int .i64 nx13, .int .i64 nx14, .int .i64 nx15, .int .i64 nx16, .int .i64 nx17, .int .i64 nx18, .int .i64 nx19, .int .i64 nx20, .int .i64 nx21, .int .i64 nx22, .int .i64 nx23]) ?_ (z := #[.int .i64 0, .int .i64 0, .int .i64 0, .int .i64 0, .int .i64 0, .int .i64 0, .int .i64 0, .int .i64 0, .int .i64 0, .int .i64 0, .int .i64 0, .int .i64 0, .int .i64 0, .int .i64 0, .int .i64 0, .int .i64 0, .int .i64 0, .int .i64 0, .int .i64 0, .int .i64 0, .int .i64 0, .int .i64 0, .int .i64 0, .int .i64 0]) (T := 55) ?_ ?_ ?_ ?_ ?_); rfl; rfl; rfl; rfl; exact Blk.new w7_0 _ _; kernel_rfl; kernel_rfl; kernel_rfl)
    | fail)
  try simp only [Act.put]
  have xx := xx.trans y1
  have B11 := B11.ext y1
  have B12 := B12.ext y1
  have B13 := B13.ext y1
  have B14 := B14.ext y1
  clear y1
  generalize (w7_0.alloc (.cells #[.int .i64 0, .int .i64 0, .int .i64 0, .int .i64 0, .int .i64 0, .int .i64 0, .int .i64 0, .int .i64 0, .int .i64 0, .int .i64 0, .int .i64 0, .int .i64 0, .int .i64 0, .int .i64 0, .int .i64 0, .int .i64 0, .int .i64 0, .int .i64 0, .int .i64 0, .int .i64 0, .int .i64 0, .int .i64 0, .int .i64 0, .int .i64 0] 55)).setRow w7_0.heap.size #[.int .i64 nx0, .int .i64 nx1, .int .i64 nx2, .int .i64 nx3, .int .i64 nx4, .int .i64 nx5, .int .i64 nx6, .int .i64 nx7, .int .i64 nx8, .int .i64 nx9, .int .i64 nx10, .int .i64 nx11, .int .i64 nx12, .int .i64 nx13, .int .i64 nx14, .int .i64 nx15, .int .i64 nx16, .int .i64 nx17, .int .i64 nx18, .int .i64 nx19, .int .i64 nx20, .int .i64 nx21, .int .i64 nx22, .int .i64 nx23] = w8_0 at *
  generalize hbe : w7_0.heap.size = bb0 at *
  clear hbe
  clear BB0
  go_wp2_with (first
    | ((with_reducible refine wpList_load_blk (op := ⟨some 83, _, _, _, _, _⟩) ?_ 59 (.tmp 11) ?_ (z11) ?_ (z := _) (T := 59) B11 Try.underlying59 ?_ ?_ ?_); rfl; rfl; rfl; rfl; kernel_rfl)
    | ((with_reducible refine wpList_load_blk (op := ⟨some 84, _, _, _, _, _⟩) ?_ 59 (.tmp 12) ?_ (z12) ?_ (z := _) (T := 59) B12 Try.underlying59 ?_ ?_ ?_); rfl; rfl; rfl; rfl; kernel_rfl)
    | ((with_reducible refine wpList_load_blk (op := ⟨some 85, _, _, _, _, _⟩) ?_ 59 (.tmp 13) ?_ (z13) ?_ (z := _) (T := 59) B13 Try.underlying59 ?_ ?_ ?_); rfl; rfl; rfl; rfl; kernel_rfl)
    | fail)
  refine (HF.out _).mono ?_
  rintro e w7_1 ⟨rfl, x1⟩
  have xx := xx.trans x1
  have B11 := B11.ext x1
  have B12 := B12.ext x1
  have B13 := B13.ext x1
  have B14 := B14.ext x1
  clear x1
  have BB1 := (Blk.new w7_1 #[.int .i64 0, .int .i64 0, .int .i64 0, .int .i64 0, .int .i64 0, .int .i64 0, .int .i64 0, .int .i64 0, .int .i64 0, .int .i64 0, .int .i64 0, .int .i64 0, .int .i64 0, .int .i64 0, .int .i64 0, .int .i64 0, .int .i64 0, .int .i64 0, .int .i64 0, .int .i64 0, .int .i64 0, .int .i64 0, .int .i64 0, .int .i64 0] 55).setRow #[.int .i64 ny0, .int .i64 ny1, .int .i64 ny2, .int .i64 ny3, .int .i64 ny4, .int .i64 ny5, .int .i64 ny6, .int .i64 ny7, .int .i64 ny8, .int .i64 ny9, .int .i64 ny10, .int .i64 ny11, .int .i64 ny12, .int .i64 ny13, .int .i64 ny14, .int .i64 ny15, .int .i64 ny16, .int .i64 ny17, .int .i64 ny18, .int .i64 ny19, .int .i64 ny20, .int .i64 ny21, .int .i64 ny22, .int .i64 ny23]
  have y1 : Ext w7_1 ((w7_1.alloc (.cells #[.int .i64 0, .int .i64 0, .int .i64 0, .int .i64 0, .int .i64 0, .int .i64 0, .int .i64 0, .int .i64 0, .int .i64 0, .int .i64 0, .int .i64 0, .int .i64 0, .int .i64 0, .int .i64 0, .int .i64 0, .int .i64 0, .int .i64 0, .int .i64 0, .int .i64 0, .int .i64 0, .int .i64 0, .int .i64 0, .int .i64 0, .int .i64 0] 55)).setRow w7_1.heap.size #[.int .i64 ny0, .int .i64 ny1, .int .i64 ny2, .int .i64 ny3, .int .i64 ny4, .int .i64 ny5, .int .i64 ny6, .int .i64 ny7, .int .i64 ny8, .int .i64 ny9, .int .i64 ny10, .int .i64 ny11, .int .i64 ny12, .int .i64 ny13, .int .i64 ny14, .int .i64 ny15, .int .i64 ny16, .int .i64 ny17, .int .i64 ny18, .int .i64 ny19, .int .i64 ny20, .int .i64 ny21, .int .i64 ny22, .int .i64 ny23]) := ((Ext.refl _).alloc _ _).setRow (Nat.le_refl _) _
  go_upto_region 12 with (first
    | ((with_reducible refine wpList_store_blk (op := ⟨none, .store 55 (.tmp 20) (.tmp 87), _, _, _, _⟩) ?_ 55 (.tmp 20) (.tmp 87) ?_ (w7_1.heap.size) ?_ (cs := #[.int .i64 ny0, .int .i64 ny1, .int .i64 ny2, .int .i64 ny3, .int .i64 ny4, .int .i64 ny5, .int .i64 ny6, .int .i64 ny7, .int .i64 ny8, .int .i64 ny9, .int .i64 ny10, .int .i64 ny11, .int .i64 ny12, .int .i64 ny13, .int .i64 ny14, .int .i64 ny15, .int .i64 ny16, .int .i64 ny17, .int .i64 ny18, .int .i64 ny19, .int .i64 ny20, .int .i64 ny21, .int .i64 ny22, .int .i64 ny23]) ?_ (z := #[.int .i64 0, .int .i64 0, .int .i64 0, .int .i64 0, .int .i64 0, .int .i64 0, .int .i64 0, .int .i64 0, .int .i64 0, .int .i64 0, .int .i64 0, .int .i64 0, .int .i64 0, .int .i64 0, .int .i64 0, .int .i64 0, .int .i64 0, .int .i64 0, .int .i64 0, .int .i64 0, .int .i64 0, .int .i64 0, .int .i64 0, .int .i64 0]) (T := 55) ?_ ?_ ?_ ?_ ?_); rfl; rfl; rfl; rfl; exact Blk.new w7_1 _ _; kernel_rfl; kernel_rfl; kernel_rfl)
    | fail)
  try simp only [Act.put]
  have xx := xx.trans y1
  have B11 := B11.ext y1
  have B12 := B12.ext y1
  have B13 := B13.ext y1
  have B14 := B14.ext y1
  clear y1
  generalize (w7_1.alloc (.cells #[.int .i64 0, .int .i64 0, .int .i64 0, .int .i64 0, .int .i64 0, .int .i64 0, .int .i64 0, .int .i64 0, .int .i64 0, .int .i64 0, .int .i64 0, .int .i64 0, .int .i64 0, .int .i64 0, .int .i64 0, .int .i64 0, .int .i64 0, .int .i64 0, .int .i64 0, .int .i64 0, .int .i64 0, .int .i64 0, .int .i64 0, .int .i64 0] 55)).setRow w7_1.heap.size #[.int .i64 ny0, .int .i64 ny1, .int .i64 ny2, .int .i64 ny3, .int .i64 ny4, .int .i64 ny5, .int .i64 ny6, .int .i64 ny7, .int .i64 ny8, .int .i64 ny9, .int .i64 ny10, .int .i64 ny11, .int .i64 ny12, .int .i64 ny13, .int .i64 ny14, .int .i64 ny15, .int .i64 ny16, .int .i64 ny17, .int .i64 ny18, .int .i64 ny19, .int .i64 ny20, .int .i64 ny21, .int .i64 ny22, .int .i64 ny23] = w8_1 at *
  generalize hbe : w7_1.heap.size = bb1 at *
  clear hbe
  clear BB1
  go_wp2_with (first
    | ((with_reducible refine wpList_load_blk (op := ⟨some 90, _, _, _, _, _⟩) ?_ 59 (.tmp 11) ?_ (z11) ?_ (z := _) (T := 59) B11 Try.underlying59 ?_ ?_ ?_); rfl; rfl; rfl; rfl; kernel_rfl)
    | ((with_reducible refine wpList_load_blk (op := ⟨some 91, _, _, _, _, _⟩) ?_ 59 (.tmp 13) ?_ (z13) ?_ (z := _) (T := 59) B13 Try.underlying59 ?_ ?_ ?_); rfl; rfl; rfl; rfl; kernel_rfl)
    | ((with_reducible refine wpList_load_blk (op := ⟨some 92, _, _, _, _, _⟩) ?_ 59 (.tmp 12) ?_ (z12) ?_ (z := _) (T := 59) B12 Try.underlying59 ?_ ?_ ?_); rfl; rfl; rfl; rfl; kernel_rfl)
    | fail)
  refine (HT.out _).mono ?_
  rintro e w7_2 ⟨rfl, x1⟩
  have xx := xx.trans x1
  have B11 := B11.ext x1
  have B12 := B12.ext x1
  have B13 := B13.ext x1
  have B14 := B14.ext x1
  clear x1
  have BB2 := (Blk.new w7_2 #[.int .i64 0, .int .i64 0, .int .i64 0, .int .i64 0, .int .i64 0, .int .i64 0, .int .i64 0, .int .i64 0, .int .i64 0, .int .i64 0, .int .i64 0, .int .i64 0, .int .i64 0, .int .i64 0, .int .i64 0, .int .i64 0, .int .i64 0, .int .i64 0, .int .i64 0, .int .i64 0, .int .i64 0, .int .i64 0, .int .i64 0, .int .i64 0] 55).setRow #[.int .i64 nz0, .int .i64 nz1, .int .i64 nz2, .int .i64 nz3, .int .i64 nz4, .int .i64 nz5, .int .i64 nz6, .int .i64 nz7, .int .i64 nz8, .int .i64 nz9, .int .i64 nz10, .int .i64 nz11, .int .i64 nz12, .int .i64 nz13, .int .i64 nz14, .int .i64 nz15, .int .i64 nz16, .int .i64 nz17, .int .i64 nz18, .int .i64 nz19, .int .i64 nz20, .int .i64 nz21, .int .i64 nz22, .int .i64 nz23]
  have y1 : Ext w7_2 ((w7_2.alloc (.cells #[.int .i64 0, .int .i64 0, .int .i64 0, .int .i64 0, .int .i64 0, .int .i64 0, .int .i64 0, .int .i64 0, .int .i64 0, .int .i64 0, .int .i64 0, .int .i64 0, .int .i64 0, .int .i64 0, .int .i64 0, .int .i64 0, .int .i64 0, .int .i64 0, .int .i64 0, .int .i64 0, .int .i64 0, .int .i64 0, .int .i64 0, .int .i64 0] 55)).setRow w7_2.heap.size #[.int .i64 nz0, .int .i64 nz1, .int .i64 nz2, .int .i64 nz3, .int .i64 nz4, .int .i64 nz5, .int .i64 nz6, .int .i64 nz7, .int .i64 nz8, .int .i64 nz9, .int .i64 nz10, .int .i64 nz11, .int .i64 nz12, .int .i64 nz13, .int .i64 nz14, .int .i64 nz15, .int .i64 nz16, .int .i64 nz17, .int .i64 nz18, .int .i64 nz19, .int .i64 nz20, .int .i64 nz21, .int .i64 nz22, .int .i64 nz23]) := ((Ext.refl _).alloc _ _).setRow (Nat.le_refl _) _
  go_upto_region 13 with (first
    | ((with_reducible refine wpList_store_blk (op := ⟨none, .store 55 (.tmp 22) (.tmp 94), _, _, _, _⟩) ?_ 55 (.tmp 22) (.tmp 94) ?_ (w7_2.heap.size) ?_ (cs := #[.int .i64 nz0, .int .i64 nz1, .int .i64 nz2, .int .i64 nz3, .int .i64 nz4, .int .i64 nz5, .int .i64 nz6, .int .i64 nz7, .int .i64 nz8, .int .i64 nz9, .int .i64 nz10, .int .i64 nz11, .int .i64 nz12, .int .i64 nz13, .int .i64 nz14, .int .i64 nz15, .int .i64 nz16, .int .i64 nz17, .int .i64 nz18, .int .i64 nz19, .int .i64 nz20, .int .i64 nz21, .int .i64 nz22, .int .i64 nz23]) ?_ (z := #[.int .i64 0, .int .i64 0, .int .i64 0, .int .i64 0, .int .i64 0, .int .i64 0, .int .i64 0, .int .i64 0, .int .i64 0, .int .i64 0, .int .i64 0, .int .i64 0, .int .i64 0, .int .i64 0, .int .i64 0, .int .i64 0, .int .i64 0, .int .i64 0, .int .i64 0, .int .i64 0, .int .i64 0, .int .i64 0, .int .i64 0, .int .i64 0]) (T := 55) ?_ ?_ ?_ ?_ ?_); rfl; rfl; rfl; rfl; exact Blk.new w7_2 _ _; kernel_rfl; kernel_rfl; kernel_rfl)
    | fail)
  try simp only [Act.put]
  have xx := xx.trans y1
  have B11 := B11.ext y1
  have B12 := B12.ext y1
  have B13 := B13.ext y1
  have B14 := B14.ext y1
  clear y1
  generalize (w7_2.alloc (.cells #[.int .i64 0, .int .i64 0, .int .i64 0, .int .i64 0, .int .i64 0, .int .i64 0, .int .i64 0, .int .i64 0, .int .i64 0, .int .i64 0, .int .i64 0, .int .i64 0, .int .i64 0, .int .i64 0, .int .i64 0, .int .i64 0, .int .i64 0, .int .i64 0, .int .i64 0, .int .i64 0, .int .i64 0, .int .i64 0, .int .i64 0, .int .i64 0] 55)).setRow w7_2.heap.size #[.int .i64 nz0, .int .i64 nz1, .int .i64 nz2, .int .i64 nz3, .int .i64 nz4, .int .i64 nz5, .int .i64 nz6, .int .i64 nz7, .int .i64 nz8, .int .i64 nz9, .int .i64 nz10, .int .i64 nz11, .int .i64 nz12, .int .i64 nz13, .int .i64 nz14, .int .i64 nz15, .int .i64 nz16, .int .i64 nz17, .int .i64 nz18, .int .i64 nz19, .int .i64 nz20, .int .i64 nz21, .int .i64 nz22, .int .i64 nz23] = w8_2 at *
  generalize hbe : w7_2.heap.size = bb2 at *
  clear hbe
  clear BB2
  clear B11 B12 B13
  go_wp2_with (first
    | ((with_reducible refine wpList_load_blk (op := ⟨some 97, _, _, _, _, _⟩) ?_ 55 (.tmp 14) ?_ (b14) ?_ (z := _) (T := 55) B14 Try.underlying55 ?_ ?_ ?_); rfl; rfl; rfl; rfl; kernel_rfl)
    | fail)
  refine (HA.out _).mono ?_
  rintro e w9 ⟨rfl, x1⟩
  have xx := xx.trans x1
  clear x1
  have B25 := (Blk.new w9 #[.int .i64 0, .int .i64 0, .int .i64 0, .int .i64 0] 30).setRow #[.int .i64 k0, .int .i64 k1, .int .i64 k2, .int .i64 k3]
  have y1 : Ext w9 ((w9.alloc (.cells #[.int .i64 0, .int .i64 0, .int .i64 0, .int .i64 0] 30)).setRow w9.heap.size #[.int .i64 k0, .int .i64 k1, .int .i64 k2, .int .i64 k3]) := ((Ext.refl _).alloc _ _).setRow (Nat.le_refl _) _
  go_upto_region 14 with (first
    | ((with_reducible refine wpList_store_blk (op := ⟨none, .store 30 (.tmp 25) (.tmp 106), _, _, _, _⟩) ?_ 30 (.tmp 25) (.tmp 106) ?_ (w9.heap.size) ?_ (cs := #[.int .i64 k0, .int .i64 k1, .int .i64 k2, .int .i64 k3]) ?_ (z := #[.int .i64 0, .int .i64 0, .int .i64 0, .int .i64 0]) (T := 30) ?_ ?_ ?_ ?_ ?_); rfl; rfl; rfl; rfl; exact Blk.new w9 _ _; kernel_rfl; kernel_rfl; kernel_rfl)
    | fail)
  try simp only [Act.put]
  have xx := xx.trans y1
  clear y1
  generalize (w9.alloc (.cells #[.int .i64 0, .int .i64 0, .int .i64 0, .int .i64 0] 30)).setRow w9.heap.size #[.int .i64 k0, .int .i64 k1, .int .i64 k2, .int .i64 k3] = w10 at *
  generalize hbe : w9.heap.size = b25 at *
  clear hbe
  clear B14 B25
  go_wp2_with fail
  go_ret
  exact ⟨rfl, xx⟩
end Go.Proofs.Ytglehnmkdapnpaa

namespace Go.Proofs.Ytglehnmkdapnpaa
open Go.RowKit
set_option linter.unusedVariables false
theorem nul_in64 : Tr.nul.in64 := by unfold Tr.in64 I64 Tr.nul; decide
theorem nul_chk : chkT Tr.nul = 2 := by decide +kernel
theorem nul_at (x y : Int) : atF Tr.nul x y = ⟨0, 0, 0, 0, 0, false⟩ := by
  unfold atF
  rw [if_neg (fun h => by rw [nul_chk] at h; exact absurd h.1 (by decide))]
theorem mk_zero {a b c : Cn} (k : Int) (h : areaC a b c = 0) : makeF a b c k = none := by
  unfold makeF
  rw [if_pos (.inl h)]
theorem mk_pos {a b c : Cn} {k : Int} (h : 0 < areaC a b c) (hk : k ≠ 2) : makeF a b c k = some (triF a b c) := by
  unfold makeF
  rw [if_neg (by unfold outF; omega), if_neg (by omega)]
theorem mk_pos2 {a b c : Cn} (h : 0 < areaC a b c) : makeF a b c 2 = none := by
  unfold makeF
  rw [if_pos (.inr (.inr ⟨h, rfl⟩))]
theorem mk_neg {a b c : Cn} {k : Int} (h : areaC a b c < 0) (hk : k ≠ 1) : makeF a b c k = some (triF a c b) := by
  unfold makeF
  rw [if_neg (by unfold outF; omega), if_pos h]
theorem mk_neg1 {a b c : Cn} (h : areaC a b c < 0) : makeF a b c 1 = none := by
  unfold makeF
  rw [if_pos (.inr (.inl ⟨h, rfl⟩))]
set_option maxRecDepth 100000 in
theorem setupCulls_row (va vb vc : VSm) (wd x y : Int) (ha : va.ok) (hb : vb.ok) (hc : vc.ok) (hw : 0 ≤ wd ∧ wd ≤ 255) (hx : 0 ≤ x ∧ x ≤ 255) (hy : 0 ≤ y ∧ y ≤ 255) (w : World) :
    Calls Try.prog 6 #[.agg (va.l ++ (vb.l ++ vc.l)).toArray, .int .u8 wd, .int .u8 x, .int .u8 y] w fun e w' => e = .returned (.bool true) ∧ Ext w w' := by
  have bw := tm_bd (m := 50) hw.1 (by omega)
  have p1 := tm_bd (m := 64) hx.1 (by omega)
  have q1 := tm_bd (m := 64) hy.1 (by omega)
  have i1 : I64 (x.tmod 64) := by unfold I64; omega
  have i2 : I64 (y.tmod 64) := by unfold I64; omega
  obtain ⟨n, hn⟩ : ∃ n, 8 + wd.tmod 50 = n := ⟨_, rfl⟩
  have bn : I64 n := by unfold I64; omega
  have fa := (vx_fine ha).in64
  have fb := (vx_fine hb).in64
  have fc := (vx_fine hc).in64
  have hV := fun u => vertices12_any va vb vc ha hb hc u
  have hO1 := fun u => sof_any (vxF va) fa n n bn bn u
  have hO2 := fun u => sof_any (vxF vb) fb n n bn bn u
  have hO3 := fun u => sof_any (vxF vc) fc n n bn bn u
  have ga := ofF_in64 (vxF va) fa n n
  have gb := ofF_in64 (vxF vb) fb n n
  have gc := ofF_in64 (vxF vc) fc n n
  have hM := fun u => smake_any _ _ _ ga gb gc 0 (by omega) u
  have hQ := fun u => smake_any _ _ _ ga gc gb 0 (by omega) u
  have hB := fun u => smake_any _ _ _ ga gb gc 1 (by omega) u
  have hF := fun u => smake_any _ _ _ ga gb gc 2 (by omega) u
  have hT := fun u => smake_any _ _ _ ga gc gb 1 (by omega) u
  have hs := areaC_swap (ofF (vxF va) n n) (ofF (vxF vb) n n) (ofF (vxF vc) n n)
  rcases Int.lt_trichotomy (areaC (ofF (vxF va) n n) (ofF (vxF vb) n n) (ofF (vxF vc) n n)) 0 with h | h | h
  · rw [mk_neg h (by omega)] at hM hF
    rw [mk_neg1 h] at hB
    rw [mk_pos (by omega) (by omega)] at hQ hT
    have hA := fun u => atT_any (triF (ofF (vxF va) n n) (ofF (vxF vc) n n) (ofF (vxF vb) n n)) (rng_in64 (triF_rng _ _ _)) _ _ i1 i2 u
    exact culls_neg va.x va.y va.z va.w va.r va.g va.b va.a vb.x vb.y vb.z vb.w vb.r vb.g vb.b vb.a vc.x vc.y vc.z vc.w vc.r vc.g vc.b vc.a va.far vb.far vc.far (vxF va).p0 (vxF va).p1 (vxF va).p2 (vxF va).p3 (vxF va).c0 (vxF va).c1 (vxF va).c2 (vxF va).c3 (vxF vb).p0 (vxF vb).p1 (vxF vb).p2 (vxF vb).p3 (vxF vb).c0 (vxF vb).c1 (vxF vb).c2 (vxF vb).c3 (vxF vc).p0 (vxF vc).p1 (vxF vc).p2 (vxF vc).p3 (vxF vc).c0 (vxF vc).c1 (vxF vc).c2 (vxF vc).c3 (ofF (vxF va) n n).x (ofF (vxF va) n n).y (ofF (vxF va) n n).d (ofF (vxF va) n n).f (ofF (vxF va) n n).c0 (ofF (vxF va) n n).c1 (ofF (vxF va) n n).c2 (ofF (vxF va) n n).c3 (ofF (vxF vb) n n).x (ofF (vxF vb) n n).y (ofF (vxF vb) n n).d (ofF (vxF vb) n n).f (ofF (vxF vb) n n).c0 (ofF (vxF vb) n n).c1 (ofF (vxF vb) n n).c2 (ofF (vxF vb) n n).c3 (ofF (vxF vc) n n).x (ofF (vxF vc) n n).y (ofF (vxF vc) n n).d (ofF (vxF vc) n n).f (ofF (vxF vc) n n).c0 (ofF (vxF vc) n n).c1 (ofF (vxF vc) n n).c2 (ofF (vxF vc) n n).c3 (triF (ofF (vxF va) n n) (ofF (vxF vc) n n) (ofF (vxF vb) n n)).ax (triF (ofF (vxF va) n n) (ofF (vxF vc) n n) (ofF (vxF vb) n n)).ay (triF (ofF (vxF va) n n) (ofF (vxF vc) n n) (ofF (vxF vb) n n)).bx (triF (ofF (vxF va) n n) (ofF (vxF vc) n n) (ofF (vxF vb) n n)).by' (triF (ofF (vxF va) n n) (ofF (vxF vc) n n) (ofF (vxF vb) n n)).cx (triF (ofF (vxF va) n n) (ofF (vxF vc) n n) (ofF (vxF vb) n n)).cy (triF (ofF (vxF va) n n) (ofF (vxF vc) n n) (ofF (vxF vb) n n)).d0 (triF (ofF (vxF va) n n) (ofF (vxF vc) n n) (ofF (vxF vb) n n)).d1 (triF (ofF (vxF va) n n) (ofF (vxF vc) n n) (ofF (vxF vb) n n)).d2 (triF (ofF (vxF va) n n) (ofF (vxF vc) n n) (ofF (vxF vb) n n)).n0 (triF (ofF (vxF va) n n) (ofF (vxF vc) n n) (ofF (vxF vb) n n)).n1 (triF (ofF (vxF va) n n) (ofF (vxF vc) n n) (ofF (vxF vb) n n)).n2 (triF (ofF (vxF va) n n) (ofF (vxF vc) n n) (ofF (vxF vb) n n)).a0 (triF (ofF (vxF va) n n) (ofF (vxF vc) n n) (ofF (vxF vb) n n)).a1 (triF (ofF (vxF va) n n) (ofF (vxF vc) n n) (ofF (vxF vb) n n)).a2 (triF (ofF (vxF va) n n) (ofF (vxF vc) n n) (ofF (vxF vb) n n)).a3 (triF (ofF (vxF va) n n) (ofF (vxF vc) n n) (ofF (vxF vb) n n)).b0 (triF (ofF (vxF va) n n) (ofF (vxF vc) n n) (ofF (vxF vb) n n)).b1 (triF (ofF (vxF va) n n) (ofF (vxF vc) n n) (ofF (vxF vb) n n)).b2 (triF (ofF (vxF va) n n) (ofF (vxF vc) n n) (ofF (vxF vb) n n)).b3 (triF (ofF (vxF va) n n) (ofF (vxF vc) n n) (ofF (vxF vb) n n)).c0 (triF (ofF (vxF va) n n) (ofF (vxF vc) n n) (ofF (vxF vb) n n)).c1 (triF (ofF (vxF va) n n) (ofF (vxF vc) n n) (ofF (vxF vb) n n)).c2 (triF (ofF (vxF va) n n) (ofF (vxF vc) n n) (ofF (vxF vb) n n)).c3 0 0 0 0 0 0 0 0 0 0 0 0 0 0 0 0 0 0 0 0 0 0 0 0 (triF (ofF (vxF va) n n) (ofF (vxF vc) n n) (ofF (vxF vb) n n)).ax (triF (ofF (vxF va) n n) (ofF (vxF vc) n n) (ofF (vxF vb) n n)).ay (triF (ofF (vxF va) n n) (ofF (vxF vc) n n) (ofF (vxF vb) n n)).bx (triF (ofF (vxF va) n n) (ofF (vxF vc) n n) (ofF (vxF vb) n n)).by' (triF (ofF (vxF va) n n) (ofF (vxF vc) n n) (ofF (vxF vb) n n)).cx (triF (ofF (vxF va) n n) (ofF (vxF vc) n n) (ofF (vxF vb) n n)).cy (triF (ofF (vxF va) n n) (ofF (vxF vc) n n) (ofF (vxF vb) n n)).d0 (triF (ofF (vxF va) n n) (ofF (vxF vc) n n) (ofF (vxF vb) n n)).d1 (triF (ofF (vxF va) n n) (ofF (vxF vc) n n) (ofF (vxF vb) n n)).d2 (triF (ofF (vxF va) n n) (ofF (vxF vc) n n) (ofF (vxF vb) n n)).n0 (triF (ofF (vxF va) n n) (ofF (vxF vc) n n) (ofF (vxF vb) n n)).n1 (triF (ofF (vxF va) n n) (ofF (vxF vc) n n) (ofF (vxF vb) n n)).n2 (triF (ofF (vxF va) n n) (ofF (vxF vc) n n) (ofF (vxF vb) n n)).a0 (triF (ofF (vxF va) n n) (ofF (vxF vc) n n) (ofF (vxF vb) n n)).a1 (triF (ofF (vxF va) n n) (ofF (vxF vc) n n) (ofF (vxF vb) n n)).a2 (triF (ofF (vxF va) n n) (ofF (vxF vc) n n) (ofF (vxF vb) n n)).a3 (triF (ofF (vxF va) n n) (ofF (vxF vc) n n) (ofF (vxF vb) n n)).b0 (triF (ofF (vxF va) n n) (ofF (vxF vc) n n) (ofF (vxF vb) n n)).b1 (triF (ofF (vxF va) n n) (ofF (vxF vc) n n) (ofF (vxF vb) n n)).b2 (triF (ofF (vxF va) n n) (ofF (vxF vc) n n) (ofF (vxF vb) n n)).b3 (triF (ofF (vxF va) n n) (ofF (vxF vc) n n) (ofF (vxF vb) n n)).c0 (triF (ofF (vxF va) n n) (ofF (vxF vc) n n) (ofF (vxF vb) n n)).c1 (triF (ofF (vxF va) n n) (ofF (vxF vc) n n) (ofF (vxF vb) n n)).c2 (triF (ofF (vxF va) n n) (ofF (vxF vc) n n) (ofF (vxF vb) n n)).c3 (triF (ofF (vxF va) n n) (ofF (vxF vc) n n) (ofF (vxF vb) n n)).ax (triF (ofF (vxF va) n n) (ofF (vxF vc) n n) (ofF (vxF vb) n n)).ay (triF (ofF (vxF va) n n) (ofF (vxF vc) n n) (ofF (vxF vb) n n)).bx (triF (ofF (vxF va) n n) (ofF (vxF vc) n n) (ofF (vxF vb) n n)).by' (triF (ofF (vxF va) n n) (ofF (vxF vc) n n) (ofF (vxF vb) n n)).cx (triF (ofF (vxF va) n n) (ofF (vxF vc) n n) (ofF (vxF vb) n n)).cy (triF (ofF (vxF va) n n) (ofF (vxF vc) n n) (ofF (vxF vb) n n)).d0 (triF (ofF (vxF va) n n) (ofF (vxF vc) n n) (ofF (vxF vb) n n)).d1 (triF (ofF (vxF va) n n) (ofF (vxF vc) n n) (ofF (vxF vb) n n)).d2 (triF (ofF (vxF va) n n) (ofF (vxF vc) n n) (ofF (vxF vb) n n)).n0 (triF (ofF (vxF va) n n) (ofF (vxF vc) n n) (ofF (vxF vb) n n)).n1 (triF (ofF (vxF va) n n) (ofF (vxF vc) n n) (ofF (vxF vb) n n)).n2 (triF (ofF (vxF va) n n) (ofF (vxF vc) n n) (ofF (vxF vb) n n)).a0 (triF (ofF (vxF va) n n) (ofF (vxF vc) n n) (ofF (vxF vb) n n)).a1 (triF (ofF (vxF va) n n) (ofF (vxF vc) n n) (ofF (vxF vb) n n)).a2 (triF (ofF (vxF va) n n) (ofF (vxF vc) n n) (ofF (vxF vb) n n)).a3 (triF (ofF (vxF va) n n) (ofF (vxF vc) n n) (ofF (vxF vb) n n)).b0 (triF (ofF (vxF va) n n) (ofF (vxF vc) n n) (ofF (vxF vb) n n)).b1 (triF (ofF (vxF va) n n) (ofF (vxF vc) n n) (ofF (vxF vb) n n)).b2 (triF (ofF (vxF va) n n) (ofF (vxF vc) n n) (ofF (vxF vb) n n)).b3 (triF (ofF (vxF va) n n) (ofF (vxF vc) n n) (ofF (vxF vb) n n)).c0 (triF (ofF (vxF va) n n) (ofF (vxF vc) n n) (ofF (vxF vb) n n)).c1 (triF (ofF (vxF va) n n) (ofF (vxF vc) n n) (ofF (vxF vb) n n)).c2 (triF (ofF (vxF va) n n) (ofF (vxF vc) n n) (ofF (vxF vb) n n)).c3 (atF (triF (ofF (vxF va) n n) (ofF (vxF vc) n n) (ofF (vxF vb) n n)) (x.tmod 64) (y.tmod 64)).d (atF (triF (ofF (vxF va) n n) (ofF (vxF vc) n n) (ofF (vxF vb) n n)) (x.tmod 64) (y.tmod 64)).c0 (atF (triF (ofF (vxF va) n n) (ofF (vxF vc) n n) (ofF (vxF vb) n n)) (x.tmod 64) (y.tmod 64)).c1 (atF (triF (ofF (vxF va) n n) (ofF (vxF vc) n n) (ofF (vxF vb) n n)) (x.tmod 64) (y.tmod 64)).c2 (atF (triF (ofF (vxF va) n n) (ofF (vxF vc) n n) (ofF (vxF vb) n n)) (x.tmod 64) (y.tmod 64)).c3 wd x y (wd.tmod 50) n (x.tmod 64) (y.tmod 64) (atF (triF (ofF (vxF va) n n) (ofF (vxF vc) n n) (ofF (vxF vb) n n)) (x.tmod 64) (y.tmod 64)).is rfl hn ⟨bw.1, by omega⟩ rfl rfl ⟨p1.1, by omega⟩ ⟨q1.1, by omega⟩ hV hO1 hO2 hO3 hM hQ hB hF hT hA w
  · rw [mk_zero _ h] at hM hB hF
    rw [mk_zero _ (by omega)] at hQ hT
    have hA := fun u => atT_any Tr.nul nul_in64 _ _ i1 i2 u
    rw [nul_at] at hA
    exact culls_zero va.x va.y va.z va.w va.r va.g va.b va.a vb.x vb.y vb.z vb.w vb.r vb.g vb.b vb.a vc.x vc.y vc.z vc.w vc.r vc.g vc.b vc.a va.far vb.far vc.far (vxF va).p0 (vxF va).p1 (vxF va).p2 (vxF va).p3 (vxF va).c0 (vxF va).c1 (vxF va).c2 (vxF va).c3 (vxF vb).p0 (vxF vb).p1 (vxF vb).p2 (vxF vb).p3 (vxF vb).c0 (vxF vb).c1 (vxF vb).c2 (vxF vb).c3 (vxF vc).p0 (vxF vc).p1 (vxF vc).p2 (vxF vc).p3 (vxF vc).c0 (vxF vc).c1 (vxF vc).c2 (vxF vc).c3 (ofF (vxF va) n n).x (ofF (vxF va) n n).y (ofF (vxF va) n n).d (ofF (vxF va) n n).f (ofF (vxF va) n n).c0 (ofF (vxF va) n n).c1 (ofF (vxF va) n n).c2 (ofF (vxF va) n n).c3 (ofF (vxF vb) n n).x (ofF (vxF vb) n n).y (ofF (vxF vb) n n).d (ofF (vxF vb) n n).f (ofF (vxF vb) n n).c0 (ofF (vxF vb) n n).c1 (ofF (vxF vb) n n).c2 (ofF (vxF vb) n n).c3 (ofF (vxF vc) n n).x (ofF (vxF vc) n n).y (ofF (vxF vc) n n).d (ofF (vxF vc) n n).f (ofF (vxF vc) n n).c0 (ofF (vxF vc) n n).c1 (ofF (vxF vc) n n).c2 (ofF (vxF vc) n n).c3 0 0 0 0 0 0 0 0 0 0 0 0 0 0 0 0 0 0 0 0 0 0 0 0 0 0 0 0 0 0 0 0 0 0 0 0 0 0 0 0 0 0 0 0 0 0 0 0 0 0 0 0 0 0 0 0 0 0 0 0 0 0 0 0 0 0 0 0 0 0 0 0 0 0 0 0 0 0 0 0 0 0 0 0 0 0 0 0 0 0 0 0 0 0 0 0 0 0 0 0 0 wd x y (wd.tmod 50) n (x.tmod 64) (y.tmod 64) rfl hn ⟨bw.1, by omega⟩ rfl rfl ⟨p1.1, by omega⟩ ⟨q1.1, by omega⟩ hV hO1 hO2 hO3 hM hQ hB hF hT hA w
  · rw [mk_pos h (by omega)] at hM hB
    rw [mk_pos2 h] at hF
    rw [mk_neg (by omega) (by omega)] at hQ
    rw [mk_neg1 (by omega)] at hT
    have hA := fun u => atT_any (triF (ofF (vxF va) n n) (ofF (vxF vb) n n) (ofF (vxF vc) n n)) (rng_in64 (triF_rng _ _ _)) _ _ i1 i2 u
    exact culls_pos va.x va.y va.z va.w va.r va.g va.b va.a vb.x vb.y vb.z vb.w vb.r vb.g vb.b vb.a vc.x vc.y vc.z vc.w vc.r vc.g vc.b vc.a va.far vb.far vc.far (vxF va).p0 (vxF va).p1 (vxF va).p2 (vxF va).p3 (vxF va).c0 (vxF va).c1 (vxF va).c2 (vxF va).c3 (vxF vb).p0 (vxF vb).p1 (vxF vb).p2 (vxF vb).p3 (vxF vb).c0 (vxF vb).c1 (vxF vb).c2 (vxF vb).c3 (vxF vc).p0 (vxF vc).p1 (vxF vc).p2 (vxF vc).p3 (vxF vc).c0 (vxF vc).c1 (vxF vc).c2 (vxF vc).c3 (ofF (vxF va) n n).x (ofF (vxF va) n n).y (ofF (vxF va) n n).d (ofF (vxF va) n n).f (ofF (vxF va) n n).c0 (ofF (vxF va) n n).c1 (ofF (vxF va) n n).c2 (ofF (vxF va) n n).c3 (ofF (vxF vb) n n).x (ofF (vxF vb) n n).y (ofF (vxF vb) n n).d (ofF (vxF vb) n n).f (ofF (vxF vb) n n).c0 (ofF (vxF vb) n n).c1 (ofF (vxF vb) n n).c2 (ofF (vxF vb) n n).c3 (ofF (vxF vc) n n).x (ofF (vxF vc) n n).y (ofF (vxF vc) n n).d (ofF (vxF vc) n n).f (ofF (vxF vc) n n).c0 (ofF (vxF vc) n n).c1 (ofF (vxF vc) n n).c2 (ofF (vxF vc) n n).c3 (triF (ofF (vxF va) n n) (ofF (vxF vb) n n) (ofF (vxF vc) n n)).ax (triF (ofF (vxF va) n n) (ofF (vxF vb) n n) (ofF (vxF vc) n n)).ay (triF (ofF (vxF va) n n) (ofF (vxF vb) n n) (ofF (vxF vc) n n)).bx (triF (ofF (vxF va) n n) (ofF (vxF vb) n n) (ofF (vxF vc) n n)).by' (triF (ofF (vxF va) n n) (ofF (vxF vb) n n) (ofF (vxF vc) n n)).cx (triF (ofF (vxF va) n n) (ofF (vxF vb) n n) (ofF (vxF vc) n n)).cy (triF (ofF (vxF va) n n) (ofF (vxF vb) n n) (ofF (vxF vc) n n)).d0 (triF (ofF (vxF va) n n) (ofF (vxF vb) n n) (ofF (vxF vc) n n)).d1 (triF (ofF (vxF va) n n) (ofF (vxF vb) n n) (ofF (vxF vc) n n)).d2 (triF (ofF (vxF va) n n) (ofF (vxF vb) n n) (ofF (vxF vc) n n)).n0 (triF (ofF (vxF va) n n) (ofF (vxF vb) n n) (ofF (vxF vc) n n)).n1 (triF (ofF (vxF va) n n) (ofF (vxF vb) n n) (ofF (vxF vc) n n)).n2 (triF (ofF (vxF va) n n) (ofF (vxF vb) n n) (ofF (vxF vc) n n)).a0 (triF (ofF (vxF va) n n) (ofF (vxF vb) n n) (ofF (vxF vc) n n)).a1 (triF (ofF (vxF va) n n) (ofF (vxF vb) n n) (ofF (vxF vc) n n)).a2 (triF (ofF (vxF va) n n) (ofF (vxF vb) n n) (ofF (vxF vc) n n)).a3 (triF (ofF (vxF va) n n) (ofF (vxF vb) n n) (ofF (vxF vc) n n)).b0 (triF (ofF (vxF va) n n) (ofF (vxF vb) n n) (ofF (vxF vc) n n)).b1 (triF (ofF (vxF va) n n) (ofF (vxF vb) n n) (ofF (vxF vc) n n)).b2 (triF (ofF (vxF va) n n) (ofF (vxF vb) n n) (ofF (vxF vc) n n)).b3 (triF (ofF (vxF va) n n) (ofF (vxF vb) n n) (ofF (vxF vc) n n)).c0 (triF (ofF (vxF va) n n) (ofF (vxF vb) n n) (ofF (vxF vc) n n)).c1 (triF (ofF (vxF va) n n) (ofF (vxF vb) n n) (ofF (vxF vc) n n)).c2 (triF (ofF (vxF va) n n) (ofF (vxF vb) n n) (ofF (vxF vc) n n)).c3 (triF (ofF (vxF va) n n) (ofF (vxF vb) n n) (ofF (vxF vc) n n)).ax (triF (ofF (vxF va) n n) (ofF (vxF vb) n n) (ofF (vxF vc) n n)).ay (triF (ofF (vxF va) n n) (ofF (vxF vb) n n) (ofF (vxF vc) n n)).bx (triF (ofF (vxF va) n n) (ofF (vxF vb) n n) (ofF (vxF vc) n n)).by' (triF (ofF (vxF va) n n) (ofF (vxF vb) n n) (ofF (vxF vc) n n)).cx (triF (ofF (vxF va) n n) (ofF (vxF vb) n n) (ofF (vxF vc) n n)).cy (triF (ofF (vxF va) n n) (ofF (vxF vb) n n) (ofF (vxF vc) n n)).d0 (triF (ofF (vxF va) n n) (ofF (vxF vb) n n) (ofF (vxF vc) n n)).d1 (triF (ofF (vxF va) n n) (ofF (vxF vb) n n) (ofF (vxF vc) n n)).d2 (triF (ofF (vxF va) n n) (ofF (vxF vb) n n) (ofF (vxF vc) n n)).n0 (triF (ofF (vxF va) n n) (ofF (vxF vb) n n) (ofF (vxF vc) n n)).n1 (triF (ofF (vxF va) n n) (ofF (vxF vb) n n) (ofF (vxF vc) n n)).n2 (triF (ofF (vxF va) n n) (ofF (vxF vb) n n) (ofF (vxF vc) n n)).a0 (triF (ofF (vxF va) n n) (ofF (vxF vb) n n) (ofF (vxF vc) n n)).a1 (triF (ofF (vxF va) n n) (ofF (vxF vb) n n) (ofF (vxF vc) n n)).a2 (triF (ofF (vxF va) n n) (ofF (vxF vb) n n) (ofF (vxF vc) n n)).a3 (triF (ofF (vxF va) n n) (ofF (vxF vb) n n) (ofF (vxF vc) n n)).b0 (triF (ofF (vxF va) n n) (ofF (vxF vb) n n) (ofF (vxF vc) n n)).b1 (triF (ofF (vxF va) n n) (ofF (vxF vb) n n) (ofF (vxF vc) n n)).b2 (triF (ofF (vxF va) n n) (ofF (vxF vb) n n) (ofF (vxF vc) n n)).b3 (triF (ofF (vxF va) n n) (ofF (vxF vb) n n) (ofF (vxF vc) n n)).c0 (triF (ofF (vxF va) n n) (ofF (vxF vb) n n) (ofF (vxF vc) n n)).c1 (triF (ofF (vxF va) n n) (ofF (vxF vb) n n) (ofF (vxF vc) n n)).c2 (triF (ofF (vxF va) n n) (ofF (vxF vb) n n) (ofF (vxF vc) n n)).c3 0 0 0 0 0 0 0 0 0 0 0 0 0 0 0 0 0 0 0 0 0 0 0 0 0 0 0 0 0 0 0 0 0 0 0 0 0 0 0 0 0 0 0 0 0 0 0 0 (atF (triF (ofF (vxF va) n n) (ofF (vxF vb) n n) (ofF (vxF vc) n n)) (x.tmod 64) (y.tmod 64)).d (atF (triF (ofF (vxF va) n n) (ofF (vxF vb) n n) (ofF (vxF vc) n n)) (x.tmod 64) (y.tmod 64)).c0 (atF (triF (ofF (vxF va) n n) (ofF (vxF vb) n n) (ofF (vxF vc) n n)) (x.tmod 64) (y.tmod 64)).c1 (atF (triF (ofF (vxF va) n n) (ofF (vxF vb) n n) (ofF (vxF vc) n n)) (x.tmod 64) (y.tmod 64)).c2 (atF (triF (ofF (vxF va) n n) (ofF (vxF vb) n n) (ofF (vxF vc) n n)) (x.tmod 64) (y.tmod 64)).c3 wd x y (wd.tmod 50) n (x.tmod 64) (y.tmod 64) (atF (triF (ofF (vxF va) n n) (ofF (vxF vb) n n) (ofF (vxF vc) n n)) (x.tmod 64) (y.tmod 64)).is rfl hn ⟨bw.1, by omega⟩ rfl rfl ⟨p1.1, by omega⟩ ⟨q1.1, by omega⟩ hV hO1 hO2 hO3 hM hQ hB hF hT hA w
end Go.Proofs.Ytglehnmkdapnpaa

