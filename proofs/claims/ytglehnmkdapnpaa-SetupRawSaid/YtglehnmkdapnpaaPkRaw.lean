/-
  DERIVED. SetupRaw: the walks (made by mklaw13.py). · SetupRaw (made by mklaw13.py).
-/
import Derived.Test.YtglehnmkdapnpaaPkDep
import Derived.Test.YtglehnmkdapnpaaPkEqs
import Derived.Test.YtglehnmkdapnpaaPkGs
import Derived.Test.YtglehnmkdapnpaaPkFix
import Derived.Test.YtglehnmkdapnpaaPkVx
import Derived.Test.YtglehnmkdapnpaaPkClipL
import Derived.Test.YtglehnmkdapnpaaPkEdgeC
namespace Go.Proofs.Ytglehnmkdapnpaa
open Go.RowKit
set_option linter.unusedVariables false
set_option maxRecDepth 100000 in
set_option maxHeartbeats 4000000 in
theorem raw_true_true (ca0 ca1 ca2 ca3 ca4 ca5 ca6 ca7 cb0 cb1 cb2 cb3 cb4 cb5 cb6 cb7 cc0 cc1 cc2 cc3 cc4 cc5 cc6 cc7 cull ck ax ay bx by_ cx cy d0 d1 d2 n0 n1 n2 a0 a1 a2 a3 b0 b1 b2 b3 c0 c1 c2 c3 x y zx zy v_x v_y v_z v_w v_r v_g v_b v_a d k0 k1 k2 k3 u0 u1 u2 u3 u4 u5 u6 u7 o0 o1 o2 o3 o4 o5 o6 o7 m0 m1 m2 m3 m4 m5 m6 m7 m8 m9 m10 m11 m12 m13 m14 m15 m16 m17 m18 m19 m20 m21 m22 m23 : Int) (v_f : Bool) (hck : cull.tmod 3 = ck) (hzx : minI (maxI x (-1)) 64 = zx) (hzy : minI (maxI y (-1)) 64 = zy) (bzx : -1 ≤ zx ∧ zx ≤ 64) (bzy : -1 ≤ zy ∧ zy ≤ 64) (bo3 : 256 ≤ o3) (bo2 : 0 ≤ o2 ∧ o2 ≤ 65535)
    (hM : ∀ u, Calls Try.prog 14 #[.agg #[.int .i64 ca0, .int .i64 ca1, .int .i64 ca2, .int .i64 ca3, .int .i64 ca4, .int .i64 ca5, .int .i64 ca6, .int .i64 ca7], .agg #[.int .i64 cb0, .int .i64 cb1, .int .i64 cb2, .int .i64 cb3, .int .i64 cb4, .int .i64 cb5, .int .i64 cb6, .int .i64 cb7], .agg #[.int .i64 cc0, .int .i64 cc1, .int .i64 cc2, .int .i64 cc3, .int .i64 cc4, .int .i64 cc5, .int .i64 cc6, .int .i64 cc7], .int .u8 ck] u fun e w' => e = .returned (.tuple #[.agg #[.int .i64 m0, .int .i64 m1, .int .i64 m2, .int .i64 m3, .int .i64 m4, .int .i64 m5, .int .i64 m6, .int .i64 m7, .int .i64 m8, .int .i64 m9, .int .i64 m10, .int .i64 m11, .int .i64 m12, .int .i64 m13, .int .i64 m14, .int .i64 m15, .int .i64 m16, .int .i64 m17, .int .i64 m18, .int .i64 m19, .int .i64 m20, .int .i64 m21, .int .i64 m22, .int .i64 m23], .bool true]) ∧ Ext u w')
    (hMC : ∀ u, Calls Try.prog 17 #[.agg #[.int .i64 m0, .int .i64 m1, .int .i64 m2, .int .i64 m3, .int .i64 m4, .int .i64 m5, .int .i64 m6, .int .i64 m7, .int .i64 m8, .int .i64 m9, .int .i64 m10, .int .i64 m11, .int .i64 m12, .int .i64 m13, .int .i64 m14, .int .i64 m15, .int .i64 m16, .int .i64 m17, .int .i64 m18, .int .i64 m19, .int .i64 m20, .int .i64 m21, .int .i64 m22, .int .i64 m23]] u fun e w' => e = .returned (.int .i64 0) ∧ Ext u w')
    (hA : ∀ u, Calls Try.prog 19 #[.agg #[.int .i64 ax, .int .i64 ay, .int .i64 bx, .int .i64 by_, .int .i64 cx, .int .i64 cy, .int .i64 d0, .int .i64 d1, .int .i64 d2, .int .i64 n0, .int .i64 n1, .int .i64 n2, .int .i64 a0, .int .i64 a1, .int .i64 a2, .int .i64 a3, .int .i64 b0, .int .i64 b1, .int .i64 b2, .int .i64 b3, .int .i64 c0, .int .i64 c1, .int .i64 c2, .int .i64 c3], .int .i64 x, .int .i64 y] u fun e w' => e = .returned (.tuple #[.int .i64 d, .agg #[.int .i64 k0, .int .i64 k1, .int .i64 k2, .int .i64 k3], .bool true]) ∧ Ext u w') (hMid : ∀ u, Calls Try.prog 21 #[.int .i64 x, .int .i64 y] u fun e w' => e = .returned (.agg #[.int .i64 (16 * zx + 8), .int .i64 (16 * zy + 8)]) ∧ Ext u w')
    (hV : ∀ u, Calls Try.prog 22 #[.agg #[.int .i16 v_x, .int .i16 v_y, .int .i16 v_z, .int .i16 v_w, .int .u8 v_r, .int .u8 v_g, .int .u8 v_b, .int .u8 v_a, .bool v_f]] u fun e w' => e = .returned (.agg #[.int .i64 u0, .int .i64 u1, .int .i64 u2, .int .i64 u3, .int .i64 u4, .int .i64 u5, .int .i64 u6, .int .i64 u7]) ∧ Ext u w') (hO : ∀ u, Calls Try.prog 15 #[.agg #[.int .i64 u0, .int .i64 u1, .int .i64 u2, .int .i64 u3, .int .i64 u4, .int .i64 u5, .int .i64 u6, .int .i64 u7], .int .i64 x, .int .i64 y] u fun e w' => e = .returned (.agg #[.int .i64 o0, .int .i64 o1, .int .i64 o2, .int .i64 o3, .int .i64 o4, .int .i64 o5, .int .i64 o6, .int .i64 o7]) ∧ Ext u w')
    (hTC : ∀ u, Calls Try.prog 17 #[.agg #[.int .i64 ax, .int .i64 ay, .int .i64 bx, .int .i64 by_, .int .i64 cx, .int .i64 cy, .int .i64 d0, .int .i64 d1, .int .i64 d2, .int .i64 n0, .int .i64 n1, .int .i64 n2, .int .i64 a0, .int .i64 a1, .int .i64 a2, .int .i64 a3, .int .i64 b0, .int .i64 b1, .int .i64 b2, .int .i64 b3, .int .i64 c0, .int .i64 c1, .int .i64 c2, .int .i64 c3]] u fun e w' => e = .returned (.int .i64 0) ∧ Ext u w') (hCov : ∀ u, Calls Try.prog 23 #[.agg #[.int .i64 ax, .int .i64 ay, .int .i64 bx, .int .i64 by_, .int .i64 cx, .int .i64 cy], .agg #[.int .i64 (16 * zx + 8), .int .i64 (16 * zy + 8)]] u fun e w' => e = .returned (.bool true) ∧ Ext u w') (w : World) :
    Calls Try.prog 7 #[.agg #[.int .i64 ca0, .int .i64 ca1, .int .i64 ca2, .int .i64 ca3, .int .i64 ca4, .int .i64 ca5, .int .i64 ca6, .int .i64 ca7], .agg #[.int .i64 cb0, .int .i64 cb1, .int .i64 cb2, .int .i64 cb3, .int .i64 cb4, .int .i64 cb5, .int .i64 cb6, .int .i64 cb7], .agg #[.int .i64 cc0, .int .i64 cc1, .int .i64 cc2, .int .i64 cc3, .int .i64 cc4, .int .i64 cc5, .int .i64 cc6, .int .i64 cc7], .int .u8 cull, .agg #[.int .i64 ax, .int .i64 ay, .int .i64 bx, .int .i64 by_, .int .i64 cx, .int .i64 cy, .int .i64 d0, .int .i64 d1, .int .i64 d2, .int .i64 n0, .int .i64 n1, .int .i64 n2, .int .i64 a0, .int .i64 a1, .int .i64 a2, .int .i64 a3, .int .i64 b0, .int .i64 b1, .int .i64 b2, .int .i64 b3, .int .i64 c0, .int .i64 c1, .int .i64 c2, .int .i64 c3], .int .i64 x, .int .i64 y, .agg #[.int .i16 v_x, .int .i16 v_y, .int .i16 v_z, .int .i16 v_w, .int .u8 v_r, .int .u8 v_g, .int .u8 v_b, .int .u8 v_a, .bool v_f]] w fun e w' => e = .returned (.bool true) ∧ Ext w w' := by
  have HM := Lib.hid hM
  have HMC := Lib.hid hMC
  have HA := Lib.hid hA
  have HMID := Lib.hid hMid
  have HV := Lib.hid hV
  have HO := Lib.hid hO
  have HTC := Lib.hid hTC
  have HCOV := Lib.hid hCov
  clear hM hMC hA hMid hV hO hTC hCov
  have xx : Ext w (((((w.alloc (.cells #[.int .i64 ca0, .int .i64 ca1, .int .i64 ca2, .int .i64 ca3, .int .i64 ca4, .int .i64 ca5, .int .i64 ca6, .int .i64 ca7] 59)).alloc (.cells #[.int .i64 cb0, .int .i64 cb1, .int .i64 cb2, .int .i64 cb3, .int .i64 cb4, .int .i64 cb5, .int .i64 cb6, .int .i64 cb7] 59)).alloc (.cells #[.int .i64 cc0, .int .i64 cc1, .int .i64 cc2, .int .i64 cc3, .int .i64 cc4, .int .i64 cc5, .int .i64 cc6, .int .i64 cc7] 59)).alloc (.cells #[.int .i64 ax, .int .i64 ay, .int .i64 bx, .int .i64 by_, .int .i64 cx, .int .i64 cy, .int .i64 d0, .int .i64 d1, .int .i64 d2, .int .i64 n0, .int .i64 n1, .int .i64 n2, .int .i64 a0, .int .i64 a1, .int .i64 a2, .int .i64 a3, .int .i64 b0, .int .i64 b1, .int .i64 b2, .int .i64 b3, .int .i64 c0, .int .i64 c1, .int .i64 c2, .int .i64 c3] 55)).alloc (.cells #[.int .i16 v_x, .int .i16 v_y, .int .i16 v_z, .int .i16 v_w, .int .u8 v_r, .int .u8 v_g, .int .u8 v_b, .int .u8 v_a, .bool v_f] 25)) := ((((((Ext.refl w).alloc _ _).alloc _ _).alloc _ _).alloc _ _).alloc _ _)
  have D0 := (((((Blk.new w #[.int .i64 ca0, .int .i64 ca1, .int .i64 ca2, .int .i64 ca3, .int .i64 ca4, .int .i64 ca5, .int .i64 ca6, .int .i64 ca7] 59).alloc (.cells #[.int .i64 cb0, .int .i64 cb1, .int .i64 cb2, .int .i64 cb3, .int .i64 cb4, .int .i64 cb5, .int .i64 cb6, .int .i64 cb7] 59)).alloc (.cells #[.int .i64 cc0, .int .i64 cc1, .int .i64 cc2, .int .i64 cc3, .int .i64 cc4, .int .i64 cc5, .int .i64 cc6, .int .i64 cc7] 59)).alloc (.cells #[.int .i64 ax, .int .i64 ay, .int .i64 bx, .int .i64 by_, .int .i64 cx, .int .i64 cy, .int .i64 d0, .int .i64 d1, .int .i64 d2, .int .i64 n0, .int .i64 n1, .int .i64 n2, .int .i64 a0, .int .i64 a1, .int .i64 a2, .int .i64 a3, .int .i64 b0, .int .i64 b1, .int .i64 b2, .int .i64 b3, .int .i64 c0, .int .i64 c1, .int .i64 c2, .int .i64 c3] 55)).alloc (.cells #[.int .i16 v_x, .int .i16 v_y, .int .i16 v_z, .int .i16 v_w, .int .u8 v_r, .int .u8 v_g, .int .u8 v_b, .int .u8 v_a, .bool v_f] 25))
  have D1 := ((((Blk.new (w.alloc (.cells #[.int .i64 ca0, .int .i64 ca1, .int .i64 ca2, .int .i64 ca3, .int .i64 ca4, .int .i64 ca5, .int .i64 ca6, .int .i64 ca7] 59)) #[.int .i64 cb0, .int .i64 cb1, .int .i64 cb2, .int .i64 cb3, .int .i64 cb4, .int .i64 cb5, .int .i64 cb6, .int .i64 cb7] 59).alloc (.cells #[.int .i64 cc0, .int .i64 cc1, .int .i64 cc2, .int .i64 cc3, .int .i64 cc4, .int .i64 cc5, .int .i64 cc6, .int .i64 cc7] 59)).alloc (.cells #[.int .i64 ax, .int .i64 ay, .int .i64 bx, .int .i64 by_, .int .i64 cx, .int .i64 cy, .int .i64 d0, .int .i64 d1, .int .i64 d2, .int .i64 n0, .int .i64 n1, .int .i64 n2, .int .i64 a0, .int .i64 a1, .int .i64 a2, .int .i64 a3, .int .i64 b0, .int .i64 b1, .int .i64 b2, .int .i64 b3, .int .i64 c0, .int .i64 c1, .int .i64 c2, .int .i64 c3] 55)).alloc (.cells #[.int .i16 v_x, .int .i16 v_y, .int .i16 v_z, .int .i16 v_w, .int .u8 v_r, .int .u8 v_g, .int .u8 v_b, .int .u8 v_a, .bool v_f] 25))
  have D2 := (((Blk.new ((w.alloc (.cells #[.int .i64 ca0, .int .i64 ca1, .int .i64 ca2, .int .i64 ca3, .int .i64 ca4, .int .i64 ca5, .int .i64 ca6, .int .i64 ca7] 59)).alloc (.cells #[.int .i64 cb0, .int .i64 cb1, .int .i64 cb2, .int .i64 cb3, .int .i64 cb4, .int .i64 cb5, .int .i64 cb6, .int .i64 cb7] 59)) #[.int .i64 cc0, .int .i64 cc1, .int .i64 cc2, .int .i64 cc3, .int .i64 cc4, .int .i64 cc5, .int .i64 cc6, .int .i64 cc7] 59).alloc (.cells #[.int .i64 ax, .int .i64 ay, .int .i64 bx, .int .i64 by_, .int .i64 cx, .int .i64 cy, .int .i64 d0, .int .i64 d1, .int .i64 d2, .int .i64 n0, .int .i64 n1, .int .i64 n2, .int .i64 a0, .int .i64 a1, .int .i64 a2, .int .i64 a3, .int .i64 b0, .int .i64 b1, .int .i64 b2, .int .i64 b3, .int .i64 c0, .int .i64 c1, .int .i64 c2, .int .i64 c3] 55)).alloc (.cells #[.int .i16 v_x, .int .i16 v_y, .int .i16 v_z, .int .i16 v_w, .int .u8 v_r, .int .u8 v_g, .int .u8 v_b, .int .u8 v_a, .bool v_f] 25))
  have D3 := ((Blk.new (((w.alloc (.cells #[.int .i64 ca0, .int .i64 ca1, .int .i64 ca2, .int .i64 ca3, .int .i64 ca4, .int .i64 ca5, .int .i64 ca6, .int .i64 ca7] 59)).alloc (.cells #[.int .i64 cb0, .int .i64 cb1, .int .i64 cb2, .int .i64 cb3, .int .i64 cb4, .int .i64 cb5, .int .i64 cb6, .int .i64 cb7] 59)).alloc (.cells #[.int .i64 cc0, .int .i64 cc1, .int .i64 cc2, .int .i64 cc3, .int .i64 cc4, .int .i64 cc5, .int .i64 cc6, .int .i64 cc7] 59)) #[.int .i64 ax, .int .i64 ay, .int .i64 bx, .int .i64 by_, .int .i64 cx, .int .i64 cy, .int .i64 d0, .int .i64 d1, .int .i64 d2, .int .i64 n0, .int .i64 n1, .int .i64 n2, .int .i64 a0, .int .i64 a1, .int .i64 a2, .int .i64 a3, .int .i64 b0, .int .i64 b1, .int .i64 b2, .int .i64 b3, .int .i64 c0, .int .i64 c1, .int .i64 c2, .int .i64 c3] 55).alloc (.cells #[.int .i16 v_x, .int .i16 v_y, .int .i16 v_z, .int .i16 v_w, .int .u8 v_r, .int .u8 v_g, .int .u8 v_b, .int .u8 v_a, .bool v_f] 25))
  have D4 := (Blk.new ((((w.alloc (.cells #[.int .i64 ca0, .int .i64 ca1, .int .i64 ca2, .int .i64 ca3, .int .i64 ca4, .int .i64 ca5, .int .i64 ca6, .int .i64 ca7] 59)).alloc (.cells #[.int .i64 cb0, .int .i64 cb1, .int .i64 cb2, .int .i64 cb3, .int .i64 cb4, .int .i64 cb5, .int .i64 cb6, .int .i64 cb7] 59)).alloc (.cells #[.int .i64 cc0, .int .i64 cc1, .int .i64 cc2, .int .i64 cc3, .int .i64 cc4, .int .i64 cc5, .int .i64 cc6, .int .i64 cc7] 59)).alloc (.cells #[.int .i64 ax, .int .i64 ay, .int .i64 bx, .int .i64 by_, .int .i64 cx, .int .i64 cy, .int .i64 d0, .int .i64 d1, .int .i64 d2, .int .i64 n0, .int .i64 n1, .int .i64 n2, .int .i64 a0, .int .i64 a1, .int .i64 a2, .int .i64 a3, .int .i64 b0, .int .i64 b1, .int .i64 b2, .int .i64 b3, .int .i64 c0, .int .i64 c1, .int .i64 c2, .int .i64 c3] 55)) #[.int .i16 v_x, .int .i16 v_y, .int .i16 v_z, .int .i16 v_w, .int .u8 v_r, .int .u8 v_g, .int .u8 v_b, .int .u8 v_a, .bool v_f] 25)
  go_enter Try.func7, Try.ntmps7
  go_upto_region 1 with fail
  simp only [World.size_alloc] at D1 D2 D3 D4
  generalize (((((w.alloc (.cells #[.int .i64 ca0, .int .i64 ca1, .int .i64 ca2, .int .i64 ca3, .int .i64 ca4, .int .i64 ca5, .int .i64 ca6, .int .i64 ca7] 59)).alloc (.cells #[.int .i64 cb0, .int .i64 cb1, .int .i64 cb2, .int .i64 cb3, .int .i64 cb4, .int .i64 cb5, .int .i64 cb6, .int .i64 cb7] 59)).alloc (.cells #[.int .i64 cc0, .int .i64 cc1, .int .i64 cc2, .int .i64 cc3, .int .i64 cc4, .int .i64 cc5, .int .i64 cc6, .int .i64 cc7] 59)).alloc (.cells #[.int .i64 ax, .int .i64 ay, .int .i64 bx, .int .i64 by_, .int .i64 cx, .int .i64 cy, .int .i64 d0, .int .i64 d1, .int .i64 d2, .int .i64 n0, .int .i64 n1, .int .i64 n2, .int .i64 a0, .int .i64 a1, .int .i64 a2, .int .i64 a3, .int .i64 b0, .int .i64 b1, .int .i64 b2, .int .i64 b3, .int .i64 c0, .int .i64 c1, .int .i64 c2, .int .i64 c3] 55)).alloc (.cells #[.int .i16 v_x, .int .i16 v_y, .int .i16 v_z, .int .i16 v_w, .int .u8 v_r, .int .u8 v_g, .int .u8 v_b, .int .u8 v_a, .bool v_f] 25)) = w0 at *
  go_wp2_with fail
  refine (awake13_any _).mono ?_
  rintro e w1 ⟨rfl, x1⟩
  have xx := xx.trans x1
  have D0 := D0.ext x1
  have D1 := D1.ext x1
  have D2 := D2.ext x1
  have D3 := D3.ext x1
  have D4 := D4.ext x1
  clear x1
  go_wp2_with (first
    | ((with_reducible refine wpList_load_blk (op := ⟨some 28, _, _, _, _, _⟩) ?_ 59 (.tmp 8) ?_ (w.heap.size) ?_ (z := _) (T := 59) D0 Try.underlying59 ?_ ?_ ?_); rfl; rfl; rfl; rfl; kernel_rfl)
    | ((with_reducible refine wpList_load_blk (op := ⟨some 29, _, _, _, _, _⟩) ?_ 59 (.tmp 9) ?_ (w.heap.size + 1) ?_ (z := _) (T := 59) D1 Try.underlying59 ?_ ?_ ?_); rfl; rfl; rfl; rfl; kernel_rfl)
    | ((with_reducible refine wpList_load_blk (op := ⟨some 30, _, _, _, _, _⟩) ?_ 59 (.tmp 10) ?_ (w.heap.size + 1 + 1) ?_ (z := _) (T := 59) D2 Try.underlying59 ?_ ?_ ?_); rfl; rfl; rfl; rfl; kernel_rfl)
    | fail)
  clear D0 D1 D2
  refine (HM.out _).mono ?_
  rintro e w2 ⟨rfl, x1⟩
  have xx := xx.trans x1
  have D3 := D3.ext x1
  have D4 := D4.ext x1
  clear x1
  have B17 := (Blk.new w2 #[.int .i64 0, .int .i64 0, .int .i64 0, .int .i64 0, .int .i64 0, .int .i64 0, .int .i64 0, .int .i64 0, .int .i64 0, .int .i64 0, .int .i64 0, .int .i64 0, .int .i64 0, .int .i64 0, .int .i64 0, .int .i64 0, .int .i64 0, .int .i64 0, .int .i64 0, .int .i64 0, .int .i64 0, .int .i64 0, .int .i64 0, .int .i64 0] 55).setRow #[.int .i64 m0, .int .i64 m1, .int .i64 m2, .int .i64 m3, .int .i64 m4, .int .i64 m5, .int .i64 m6, .int .i64 m7, .int .i64 m8, .int .i64 m9, .int .i64 m10, .int .i64 m11, .int .i64 m12, .int .i64 m13, .int .i64 m14, .int .i64 m15, .int .i64 m16, .int .i64 m17, .int .i64 m18, .int .i64 m19, .int .i64 m20, .int .i64 m21, .int .i64 m22, .int .i64 m23]
  have y1 : Ext w2 ((w2.alloc (.cells #[.int .i64 0, .int .i64 0, .int .i64 0, .int .i64 0, .int .i64 0, .int .i64 0, .int .i64 0, .int .i64 0, .int .i64 0, .int .i64 0, .int .i64 0, .int .i64 0, .int .i64 0, .int .i64 0, .int .i64 0, .int .i64 0, .int .i64 0, .int .i64 0, .int .i64 0, .int .i64 0, .int .i64 0, .int .i64 0, .int .i64 0, .int .i64 0] 55)).setRow w2.heap.size #[.int .i64 m0, .int .i64 m1, .int .i64 m2, .int .i64 m3, .int .i64 m4, .int .i64 m5, .int .i64 m6, .int .i64 m7, .int .i64 m8, .int .i64 m9, .int .i64 m10, .int .i64 m11, .int .i64 m12, .int .i64 m13, .int .i64 m14, .int .i64 m15, .int .i64 m16, .int .i64 m17, .int .i64 m18, .int .i64 m19, .int .i64 m20, .int .i64 m21, .int .i64 m22, .int .i64 m23]) := ((Ext.refl _).alloc _ _).setRow (Nat.le_refl _) _
  go_upto_region 4 with (first
    | ((with_reducible refine wpList_store_blk (op := ⟨none, .store 55 (.tmp 17) (.tmp 34), _, _, _, _⟩) ?_ 55 (.tmp 17) (.tmp 34) ?_ (w2.heap.size) ?_ (cs := #[.int .i64 m0, .int .i64 m1, .int .i64 m2, .int .i64 m3, .int .i64 m4, .int .i64 m5, .int .i64 m6, .int .i64 m7, .int .i64 m8, .int .i64 m9, .int .i64 m10, .int .i64 m11, .int .i64 m12, .int .i64 m13, .int .i64 m14, .int .i64 m15, .int .i64 m16, .int .i64 m17, .int .i64 m18, .int .i64 m19, .int .i64 m20, .int .i64 m21, .int .i64 m22, .int .i64 m23]) ?_ (z := #[.int .i64 0, .int .i64 0, .int .i64 0, .int .i64 0, .int .i64 0, .int .i64 0, .int .i64 0, .int .i64 0, .int .i64 0, .int .i64 0, .int .i64 0, .int .i64 0, .int .i64 0, .int .i64 0, .int .i64 0, .int .i64 0, .int .i64 0, .int .i64 0, .int .i64 0, .int .i64 0, .int .i64 0, .int .i64 0, .int .i64 0, .int .i64 0]) (T := 55) ?_ ?_ ?_ ?_ ?_); rfl; rfl; rfl; rfl; exact Blk.new w2 _ _; kernel_rfl; kernel_rfl; kernel_rfl)
    | fail)
  try simp only [Act.put]
  have xx := xx.trans y1
  have D3 := D3.ext y1
  have D4 := D4.ext y1
  clear y1
  generalize (w2.alloc (.cells #[.int .i64 0, .int .i64 0, .int .i64 0, .int .i64 0, .int .i64 0, .int .i64 0, .int .i64 0, .int .i64 0, .int .i64 0, .int .i64 0, .int .i64 0, .int .i64 0, .int .i64 0, .int .i64 0, .int .i64 0, .int .i64 0, .int .i64 0, .int .i64 0, .int .i64 0, .int .i64 0, .int .i64 0, .int .i64 0, .int .i64 0, .int .i64 0] 55)).setRow w2.heap.size #[.int .i64 m0, .int .i64 m1, .int .i64 m2, .int .i64 m3, .int .i64 m4, .int .i64 m5, .int .i64 m6, .int .i64 m7, .int .i64 m8, .int .i64 m9, .int .i64 m10, .int .i64 m11, .int .i64 m12, .int .i64 m13, .int .i64 m14, .int .i64 m15, .int .i64 m16, .int .i64 m17, .int .i64 m18, .int .i64 m19, .int .i64 m20, .int .i64 m21, .int .i64 m22, .int .i64 m23] = w3 at *
  generalize hbe : w2.heap.size = b17 at *
  clear hbe
  go_wp2_with (first
    | ((with_reducible refine wpList_load_blkG (op := ⟨some 38, _, _, _, _, _⟩) ?_ 55 (.tmp 17) ?_ b17 ?_ (z := _) (T := 55) B17 Try.underlying55 ?_ ?_ ?_); rfl; rfl; rfl; rfl; kernel_rfl)
    | fail)
  refine (HMC.out _).mono ?_
  rintro e w3c ⟨rfl, x1⟩
  have xx := xx.trans x1
  have D3 := D3.ext x1
  have D4 := D4.ext x1
  clear x1
  clear B17
  go_wp2_with (first
    | ((with_reducible refine wpList_load_blk (op := ⟨some 52, _, _, _, _, _⟩) ?_ 55 (.tmp 12) ?_ (w.heap.size + 1 + 1 + 1) ?_ (z := _) (T := 55) D3 Try.underlying55 ?_ ?_ ?_); rfl; rfl; rfl; rfl; kernel_rfl)
    | fail)
  refine (HA.out _).mono ?_
  rintro e w4 ⟨rfl, x1⟩
  have xx := xx.trans x1
  have D3 := D3.ext x1
  have D4 := D4.ext x1
  clear x1
  have B20 := (Blk.new w4 #[.int .i64 0, .int .i64 0, .int .i64 0, .int .i64 0] 30).setRow #[.int .i64 k0, .int .i64 k1, .int .i64 k2, .int .i64 k3]
  have y1 : Ext w4 ((w4.alloc (.cells #[.int .i64 0, .int .i64 0, .int .i64 0, .int .i64 0] 30)).setRow w4.heap.size #[.int .i64 k0, .int .i64 k1, .int .i64 k2, .int .i64 k3]) := ((Ext.refl _).alloc _ _).setRow (Nat.le_refl _) _
  go_upto_region 7 with (first
    | ((with_reducible refine wpList_store_blk (op := ⟨none, .store 30 (.tmp 20) (.tmp 57), _, _, _, _⟩) ?_ 30 (.tmp 20) (.tmp 57) ?_ (w4.heap.size) ?_ (cs := #[.int .i64 k0, .int .i64 k1, .int .i64 k2, .int .i64 k3]) ?_ (z := #[.int .i64 0, .int .i64 0, .int .i64 0, .int .i64 0]) (T := 30) ?_ ?_ ?_ ?_ ?_); rfl; rfl; rfl; rfl; exact Blk.new w4 _ _; kernel_rfl; kernel_rfl; kernel_rfl)
    | fail)
  try simp only [Act.put]
  have xx := xx.trans y1
  have D3 := D3.ext y1
  have D4 := D4.ext y1
  clear y1
  generalize (w4.alloc (.cells #[.int .i64 0, .int .i64 0, .int .i64 0, .int .i64 0] 30)).setRow w4.heap.size #[.int .i64 k0, .int .i64 k1, .int .i64 k2, .int .i64 k3] = w5 at *
  generalize hbe : w4.heap.size = b20 at *
  clear hbe
  clear B20
  go_wp2_with fail
  refine (HMID.out _).mono ?_
  rintro e w6 ⟨rfl, x1⟩
  have xx := xx.trans x1
  have D3 := D3.ext x1
  have D4 := D4.ext x1
  clear x1
  have B22 := (Blk.new w6 #[.int .i64 0, .int .i64 0] 50).setRow #[.int .i64 (16 * zx + 8), .int .i64 (16 * zy + 8)]
  have y1 : Ext w6 ((w6.alloc (.cells #[.int .i64 0, .int .i64 0] 50)).setRow w6.heap.size #[.int .i64 (16 * zx + 8), .int .i64 (16 * zy + 8)]) := ((Ext.refl _).alloc _ _).setRow (Nat.le_refl _) _
  go_upto_region 8 with (first
    | ((with_reducible refine wpList_store_blk (op := ⟨none, .store 50 (.tmp 22) (.tmp 61), _, _, _, _⟩) ?_ 50 (.tmp 22) (.tmp 61) ?_ (w6.heap.size) ?_ (cs := #[.int .i64 (16 * zx + 8), .int .i64 (16 * zy + 8)]) ?_ (z := #[.int .i64 0, .int .i64 0]) (T := 50) ?_ ?_ ?_ ?_ ?_); rfl; rfl; rfl; rfl; exact Blk.new w6 _ _; kernel_rfl; kernel_rfl; kernel_rfl)
    | fail)
  try simp only [Act.put]
  have xx := xx.trans y1
  have D3 := D3.ext y1
  have D4 := D4.ext y1
  clear y1
  generalize (w6.alloc (.cells #[.int .i64 0, .int .i64 0] 50)).setRow w6.heap.size #[.int .i64 (16 * zx + 8), .int .i64 (16 * zy + 8)] = w7 at *
  generalize hbe : w6.heap.size = b22 at *
  clear hbe
  go_wp2_with (first
    | ((with_reducible refine wpList_load_blk (op := ⟨some 62, _, _, _, _, _⟩) ?_ 25 (.tmp 15) ?_ (w.heap.size + 1 + 1 + 1 + 1) ?_ (z := _) (T := 25) D4 Try.underlying25 ?_ ?_ ?_); rfl; rfl; rfl; rfl; kernel_rfl)
    | fail)
  refine (HV.out _).mono ?_
  rintro e w8 ⟨rfl, x1⟩
  have xx := xx.trans x1
  have D3 := D3.ext x1
  have B22 := B22.ext x1
  clear x1
  have B23 := (Blk.new w8 #[.int .i64 0, .int .i64 0, .int .i64 0, .int .i64 0, .int .i64 0, .int .i64 0, .int .i64 0, .int .i64 0] 84).setRow #[.int .i64 u0, .int .i64 u1, .int .i64 u2, .int .i64 u3, .int .i64 u4, .int .i64 u5, .int .i64 u6, .int .i64 u7]
  have y1 : Ext w8 ((w8.alloc (.cells #[.int .i64 0, .int .i64 0, .int .i64 0, .int .i64 0, .int .i64 0, .int .i64 0, .int .i64 0, .int .i64 0] 84)).setRow w8.heap.size #[.int .i64 u0, .int .i64 u1, .int .i64 u2, .int .i64 u3, .int .i64 u4, .int .i64 u5, .int .i64 u6, .int .i64 u7]) := ((Ext.refl _).alloc _ _).setRow (Nat.le_refl _) _
  go_upto_region 9 with (first
    | ((with_reducible refine wpList_store_blk (op := ⟨none, .store 84 (.tmp 23) (.tmp 63), _, _, _, _⟩) ?_ 84 (.tmp 23) (.tmp 63) ?_ (w8.heap.size) ?_ (cs := #[.int .i64 u0, .int .i64 u1, .int .i64 u2, .int .i64 u3, .int .i64 u4, .int .i64 u5, .int .i64 u6, .int .i64 u7]) ?_ (z := #[.int .i64 0, .int .i64 0, .int .i64 0, .int .i64 0, .int .i64 0, .int .i64 0, .int .i64 0, .int .i64 0]) (T := 84) ?_ ?_ ?_ ?_ ?_); rfl; rfl; rfl; rfl; exact Blk.new w8 _ _; kernel_rfl; kernel_rfl; kernel_rfl)
    | fail)
  try simp only [Act.put]
  have xx := xx.trans y1
  have D3 := D3.ext y1
  have B22 := B22.ext y1
  clear y1
  generalize (w8.alloc (.cells #[.int .i64 0, .int .i64 0, .int .i64 0, .int .i64 0, .int .i64 0, .int .i64 0, .int .i64 0, .int .i64 0] 84)).setRow w8.heap.size #[.int .i64 u0, .int .i64 u1, .int .i64 u2, .int .i64 u3, .int .i64 u4, .int .i64 u5, .int .i64 u6, .int .i64 u7] = w9 at *
  generalize hbe : w8.heap.size = b23 at *
  clear hbe
  have RA := Lib.hid (B23.mid13 0 [.int .i64 u0, .int .i64 u1, .int .i64 u2, .int .i64 u3] rfl)
  have RB := Lib.hid (B23.mid13 4 [.int .i64 u4, .int .i64 u5, .int .i64 u6, .int .i64 u7] rfl)
  go_wp2_with (first
    | ((with_reducible refine wpList_load_mid (op := ⟨some 65, _, _, _, _, _⟩) ?_ 30 (.tmp 64) ?_ b23 0 ?_ [.int .i64 u0, .int .i64 u1, .int .i64 u2, .int .i64 u3] _ RA.out Try.underlying30 ?_ ?_ ?_); rfl; rfl; rfl; rfl; kernel_rfl)
    | ((with_reducible refine wpList_load_mid (op := ⟨some 67, _, _, _, _, _⟩) ?_ 30 (.tmp 66) ?_ b23 4 ?_ [.int .i64 u4, .int .i64 u5, .int .i64 u6, .int .i64 u7] _ RB.out Try.underlying30 ?_ ?_ ?_); rfl; rfl; rfl; rfl; kernel_rfl)
    | fail)
  clear RA RB B23 D4
  refine (HO.out _).mono ?_
  rintro e w10 ⟨rfl, x1⟩
  have xx := xx.trans x1
  have D3 := D3.ext x1
  have B22 := B22.ext x1
  clear x1
  have B24 := (Blk.new w10 #[.int .i64 0, .int .i64 0, .int .i64 0, .int .i64 0, .int .i64 0, .int .i64 0, .int .i64 0, .int .i64 0] 59).setRow #[.int .i64 o0, .int .i64 o1, .int .i64 o2, .int .i64 o3, .int .i64 o4, .int .i64 o5, .int .i64 o6, .int .i64 o7]
  have y1 : Ext w10 ((w10.alloc (.cells #[.int .i64 0, .int .i64 0, .int .i64 0, .int .i64 0, .int .i64 0, .int .i64 0, .int .i64 0, .int .i64 0] 59)).setRow w10.heap.size #[.int .i64 o0, .int .i64 o1, .int .i64 o2, .int .i64 o3, .int .i64 o4, .int .i64 o5, .int .i64 o6, .int .i64 o7]) := ((Ext.refl _).alloc _ _).setRow (Nat.le_refl _) _
  go_upto_region 10 with (first
    | ((with_reducible refine wpList_store_blk (op := ⟨none, .store 59 (.tmp 24) (.tmp 71), _, _, _, _⟩) ?_ 59 (.tmp 24) (.tmp 71) ?_ (w10.heap.size) ?_ (cs := #[.int .i64 o0, .int .i64 o1, .int .i64 o2, .int .i64 o3, .int .i64 o4, .int .i64 o5, .int .i64 o6, .int .i64 o7]) ?_ (z := #[.int .i64 0, .int .i64 0, .int .i64 0, .int .i64 0, .int .i64 0, .int .i64 0, .int .i64 0, .int .i64 0]) (T := 59) ?_ ?_ ?_ ?_ ?_); rfl; rfl; rfl; rfl; exact Blk.new w10 _ _; kernel_rfl; kernel_rfl; kernel_rfl)
    | fail)
  try simp only [Act.put]
  have xx := xx.trans y1
  have D3 := D3.ext y1
  have B22 := B22.ext y1
  clear y1
  generalize (w10.alloc (.cells #[.int .i64 0, .int .i64 0, .int .i64 0, .int .i64 0, .int .i64 0, .int .i64 0, .int .i64 0, .int .i64 0] 59)).setRow w10.heap.size #[.int .i64 o0, .int .i64 o1, .int .i64 o2, .int .i64 o3, .int .i64 o4, .int .i64 o5, .int .i64 o6, .int .i64 o7] = w11 at *
  generalize hbe : w10.heap.size = b24 at *
  clear hbe
  go_wp2_with (first
    | ((with_reducible refine wpList_load_blkG (op := ⟨some 75, _, _, _, _, _⟩) ?_ 55 (.tmp 12) ?_ (w.heap.size + 1 + 1 + 1) ?_ (z := _) (T := 55) D3 Try.underlying55 ?_ ?_ ?_); rfl; rfl; rfl; rfl; kernel_rfl)
    | fail)
  refine (HTC.out _).mono ?_
  rintro e w12 ⟨rfl, x1⟩
  have xx := xx.trans x1
  have D3 := D3.ext x1
  have B22 := B22.ext x1
  have B24 := B24.ext x1
  clear x1
  have c3 := D3.cell
  have c22 := B22.cell
  go_wp2_with fail
  clear c3 c22
  refine (HCOV.out _).mono ?_
  rintro e w13 ⟨rfl, x1⟩
  have xx := xx.trans x1
  have B22 := B22.ext x1
  have B24 := B24.ext x1
  clear x1
  clear D3
  have hmi := minI_fold
  have hma := maxI_fold
  have wz1 : IntKind.i64.wrap (16 * zx) = 16 * zx := by rw [IntKind.wrap_i64]; omega
  have wz2 : IntKind.i64.wrap (16 * zy) = 16 * zy := by rw [IntKind.wrap_i64]; omega
  have wz3 : IntKind.i64.wrap (16 * zx + 8) = 16 * zx + 8 := by rw [IntKind.wrap_i64]; omega
  have wz4 : IntKind.i64.wrap (16 * zy + 8) = 16 * zy + 8 := by rw [IntKind.wrap_i64]; omega
  have c22 := B22.cell
  have c24 := B24.cell
  go_wp2_with fail
  go_ret
  exact ⟨rfl, xx⟩
set_option maxRecDepth 100000 in
set_option maxHeartbeats 4000000 in
theorem raw_true_false (ca0 ca1 ca2 ca3 ca4 ca5 ca6 ca7 cb0 cb1 cb2 cb3 cb4 cb5 cb6 cb7 cc0 cc1 cc2 cc3 cc4 cc5 cc6 cc7 cull ck ax ay bx by_ cx cy d0 d1 d2 n0 n1 n2 a0 a1 a2 a3 b0 b1 b2 b3 c0 c1 c2 c3 x y zx zy v_x v_y v_z v_w v_r v_g v_b v_a d k0 k1 k2 k3 u0 u1 u2 u3 u4 u5 u6 u7 o0 o1 o2 o3 o4 o5 o6 o7 m0 m1 m2 m3 m4 m5 m6 m7 m8 m9 m10 m11 m12 m13 m14 m15 m16 m17 m18 m19 m20 m21 m22 m23 : Int) (v_f : Bool) (hck : cull.tmod 3 = ck) (hzx : minI (maxI x (-1)) 64 = zx) (hzy : minI (maxI y (-1)) 64 = zy) (bzx : -1 ≤ zx ∧ zx ≤ 64) (bzy : -1 ≤ zy ∧ zy ≤ 64) (bo3 : 256 ≤ o3) (bo2 : 0 ≤ o2 ∧ o2 ≤ 65535)
    (hM : ∀ u, Calls Try.prog 14 #[.agg #[.int .i64 ca0, .int .i64 ca1, .int .i64 ca2, .int .i64 ca3, .int .i64 ca4, .int .i64 ca5, .int .i64 ca6, .int .i64 ca7], .agg #[.int .i64 cb0, .int .i64 cb1, .int .i64 cb2, .int .i64 cb3, .int .i64 cb4, .int .i64 cb5, .int .i64 cb6, .int .i64 cb7], .agg #[.int .i64 cc0, .int .i64 cc1, .int .i64 cc2, .int .i64 cc3, .int .i64 cc4, .int .i64 cc5, .int .i64 cc6, .int .i64 cc7], .int .u8 ck] u fun e w' => e = .returned (.tuple #[.agg #[.int .i64 m0, .int .i64 m1, .int .i64 m2, .int .i64 m3, .int .i64 m4, .int .i64 m5, .int .i64 m6, .int .i64 m7, .int .i64 m8, .int .i64 m9, .int .i64 m10, .int .i64 m11, .int .i64 m12, .int .i64 m13, .int .i64 m14, .int .i64 m15, .int .i64 m16, .int .i64 m17, .int .i64 m18, .int .i64 m19, .int .i64 m20, .int .i64 m21, .int .i64 m22, .int .i64 m23], .bool true]) ∧ Ext u w')
    (hMC : ∀ u, Calls Try.prog 17 #[.agg #[.int .i64 m0, .int .i64 m1, .int .i64 m2, .int .i64 m3, .int .i64 m4, .int .i64 m5, .int .i64 m6, .int .i64 m7, .int .i64 m8, .int .i64 m9, .int .i64 m10, .int .i64 m11, .int .i64 m12, .int .i64 m13, .int .i64 m14, .int .i64 m15, .int .i64 m16, .int .i64 m17, .int .i64 m18, .int .i64 m19, .int .i64 m20, .int .i64 m21, .int .i64 m22, .int .i64 m23]] u fun e w' => e = .returned (.int .i64 0) ∧ Ext u w')
    (hA : ∀ u, Calls Try.prog 19 #[.agg #[.int .i64 ax, .int .i64 ay, .int .i64 bx, .int .i64 by_, .int .i64 cx, .int .i64 cy, .int .i64 d0, .int .i64 d1, .int .i64 d2, .int .i64 n0, .int .i64 n1, .int .i64 n2, .int .i64 a0, .int .i64 a1, .int .i64 a2, .int .i64 a3, .int .i64 b0, .int .i64 b1, .int .i64 b2, .int .i64 b3, .int .i64 c0, .int .i64 c1, .int .i64 c2, .int .i64 c3], .int .i64 x, .int .i64 y] u fun e w' => e = .returned (.tuple #[.int .i64 d, .agg #[.int .i64 k0, .int .i64 k1, .int .i64 k2, .int .i64 k3], .bool false]) ∧ Ext u w') (hMid : ∀ u, Calls Try.prog 21 #[.int .i64 x, .int .i64 y] u fun e w' => e = .returned (.agg #[.int .i64 (16 * zx + 8), .int .i64 (16 * zy + 8)]) ∧ Ext u w')
    (hV : ∀ u, Calls Try.prog 22 #[.agg #[.int .i16 v_x, .int .i16 v_y, .int .i16 v_z, .int .i16 v_w, .int .u8 v_r, .int .u8 v_g, .int .u8 v_b, .int .u8 v_a, .bool v_f]] u fun e w' => e = .returned (.agg #[.int .i64 u0, .int .i64 u1, .int .i64 u2, .int .i64 u3, .int .i64 u4, .int .i64 u5, .int .i64 u6, .int .i64 u7]) ∧ Ext u w') (hO : ∀ u, Calls Try.prog 15 #[.agg #[.int .i64 u0, .int .i64 u1, .int .i64 u2, .int .i64 u3, .int .i64 u4, .int .i64 u5, .int .i64 u6, .int .i64 u7], .int .i64 x, .int .i64 y] u fun e w' => e = .returned (.agg #[.int .i64 o0, .int .i64 o1, .int .i64 o2, .int .i64 o3, .int .i64 o4, .int .i64 o5, .int .i64 o6, .int .i64 o7]) ∧ Ext u w')
     (w : World) :
    Calls Try.prog 7 #[.agg #[.int .i64 ca0, .int .i64 ca1, .int .i64 ca2, .int .i64 ca3, .int .i64 ca4, .int .i64 ca5, .int .i64 ca6, .int .i64 ca7], .agg #[.int .i64 cb0, .int .i64 cb1, .int .i64 cb2, .int .i64 cb3, .int .i64 cb4, .int .i64 cb5, .int .i64 cb6, .int .i64 cb7], .agg #[.int .i64 cc0, .int .i64 cc1, .int .i64 cc2, .int .i64 cc3, .int .i64 cc4, .int .i64 cc5, .int .i64 cc6, .int .i64 cc7], .int .u8 cull, .agg #[.int .i64 ax, .int .i64 ay, .int .i64 bx, .int .i64 by_, .int .i64 cx, .int .i64 cy, .int .i64 d0, .int .i64 d1, .int .i64 d2, .int .i64 n0, .int .i64 n1, .int .i64 n2, .int .i64 a0, .int .i64 a1, .int .i64 a2, .int .i64 a3, .int .i64 b0, .int .i64 b1, .int .i64 b2, .int .i64 b3, .int .i64 c0, .int .i64 c1, .int .i64 c2, .int .i64 c3], .int .i64 x, .int .i64 y, .agg #[.int .i16 v_x, .int .i16 v_y, .int .i16 v_z, .int .i16 v_w, .int .u8 v_r, .int .u8 v_g, .int .u8 v_b, .int .u8 v_a, .bool v_f]] w fun e w' => e = .returned (.bool true) ∧ Ext w w' := by
  have HM := Lib.hid hM
  have HMC := Lib.hid hMC
  have HA := Lib.hid hA
  have HMID := Lib.hid hMid
  have HV := Lib.hid hV
  have HO := Lib.hid hO
  clear hM hMC hA hMid hV hO
  have xx : Ext w (((((w.alloc (.cells #[.int .i64 ca0, .int .i64 ca1, .int .i64 ca2, .int .i64 ca3, .int .i64 ca4, .int .i64 ca5, .int .i64 ca6, .int .i64 ca7] 59)).alloc (.cells #[.int .i64 cb0, .int .i64 cb1, .int .i64 cb2, .int .i64 cb3, .int .i64 cb4, .int .i64 cb5, .int .i64 cb6, .int .i64 cb7] 59)).alloc (.cells #[.int .i64 cc0, .int .i64 cc1, .int .i64 cc2, .int .i64 cc3, .int .i64 cc4, .int .i64 cc5, .int .i64 cc6, .int .i64 cc7] 59)).alloc (.cells #[.int .i64 ax, .int .i64 ay, .int .i64 bx, .int .i64 by_, .int .i64 cx, .int .i64 cy, .int .i64 d0, .int .i64 d1, .int .i64 d2, .int .i64 n0, .int .i64 n1, .int .i64 n2, .int .i64 a0, .int .i64 a1, .int .i64 a2, .int .i64 a3, .int .i64 b0, .int .i64 b1, .int .i64 b2, .int .i64 b3, .int .i64 c0, .int .i64 c1, .int .i64 c2, .int .i64 c3] 55)).alloc (.cells #[.int .i16 v_x, .int .i16 v_y, .int .i16 v_z, .int .i16 v_w, .int .u8 v_r, .int .u8 v_g, .int .u8 v_b, .int .u8 v_a, .bool v_f] 25)) := ((((((Ext.refl w).alloc _ _).alloc _ _).alloc _ _).alloc _ _).alloc _ _)
  have D0 := (((((Blk.new w #[.int .i64 ca0, .int .i64 ca1, .int .i64 ca2, .int .i64 ca3, .int .i64 ca4, .int .i64 ca5, .int .i64 ca6, .int .i64 ca7] 59).alloc (.cells #[.int .i64 cb0, .int .i64 cb1, .int .i64 cb2, .int .i64 cb3, .int .i64 cb4, .int .i64 cb5, .int .i64 cb6, .int .i64 cb7] 59)).alloc (.cells #[.int .i64 cc0, .int .i64 cc1, .int .i64 cc2, .int .i64 cc3, .int .i64 cc4, .int .i64 cc5, .int .i64 cc6, .int .i64 cc7] 59)).alloc (.cells #[.int .i64 ax, .int .i64 ay, .int .i64 bx, .int .i64 by_, .int .i64 cx, .int .i64 cy, .int .i64 d0, .int .i64 d1, .int .i64 d2, .int .i64 n0, .int .i64 n1, .int .i64 n2, .int .i64 a0, .int .i64 a1, .int .i64 a2, .int .i64 a3, .int .i64 b0, .int .i64 b1, .int .i64 b2, .int .i64 b3, .int .i64 c0, .int .i64 c1, .int .i64 c2, .int .i64 c3] 55)).alloc (.cells #[.int .i16 v_x, .int .i16 v_y, .int .i16 v_z, .int .i16 v_w, .int .u8 v_r, .int .u8 v_g, .int .u8 v_b, .int .u8 v_a, .bool v_f] 25))
  have D1 := ((((Blk.new (w.alloc (.cells #[.int .i64 ca0, .int .i64 ca1, .int .i64 ca2, .int .i64 ca3, .int .i64 ca4, .int .i64 ca5, .int .i64 ca6, .int .i64 ca7] 59)) #[.int .i64 cb0, .int .i64 cb1, .int .i64 cb2, .int .i64 cb3, .int .i64 cb4, .int .i64 cb5, .int .i64 cb6, .int .i64 cb7] 59).alloc (.cells #[.int .i64 cc0, .int .i64 cc1, .int .i64 cc2, .int .i64 cc3, .int .i64 cc4, .int .i64 cc5, .int .i64 cc6, .int .i64 cc7] 59)).alloc (.cells #[.int .i64 ax, .int .i64 ay, .int .i64 bx, .int .i64 by_, .int .i64 cx, .int .i64 cy, .int .i64 d0, .int .i64 d1, .int .i64 d2, .int .i64 n0, .int .i64 n1, .int .i64 n2, .int .i64 a0, .int .i64 a1, .int .i64 a2, .int .i64 a3, .int .i64 b0, .int .i64 b1, .int .i64 b2, .int .i64 b3, .int .i64 c0, .int .i64 c1, .int .i64 c2, .int .i64 c3] 55)).alloc (.cells #[.int .i16 v_x, .int .i16 v_y, .int .i16 v_z, .int .i16 v_w, .int .u8 v_r, .int .u8 v_g, .int .u8 v_b, .int .u8 v_a, .bool v_f] 25))
  have D2 := (((Blk.new ((w.alloc (.cells #[.int .i64 ca0, .int .i64 ca1, .int .i64 ca2, .int .i64 ca3, .int .i64 ca4, .int .i64 ca5, .int .i64 ca6, .int .i64 ca7] 59)).alloc (.cells #[.int .i64 cb0, .int .i64 cb1, .int .i64 cb2, .int .i64 cb3, .int .i64 cb4, .int .i64 cb5, .int .i64 cb6, .int .i64 cb7] 59)) #[.int .i64 cc0, .int .i64 cc1, .int .i64 cc2, .int .i64 cc3, .int .i64 cc4, .int .i64 cc5, .int .i64 cc6, .int .i64 cc7] 59).alloc (.cells #[.int .i64 ax, .int .i64 ay, .int .i64 bx, .int .i64 by_, .int .i64 cx, .int .i64 cy, .int .i64 d0, .int .i64 d1, .int .i64 d2, .int .i64 n0, .int .i64 n1, .int .i64 n2, .int .i64 a0, .int .i64 a1, .int .i64 a2, .int .i64 a3, .int .i64 b0, .int .i64 b1, .int .i64 b2, .int .i64 b3, .int .i64 c0, .int .i64 c1, .int .i64 c2, .int .i64 c3] 55)).alloc (.cells #[.int .i16 v_x, .int .i16 v_y, .int .i16 v_z, .int .i16 v_w, .int .u8 v_r, .int .u8 v_g, .int .u8 v_b, .int .u8 v_a, .bool v_f] 25))
  have D3 := ((Blk.new (((w.alloc (.cells #[.int .i64 ca0, .int .i64 ca1, .int .i64 ca2, .int .i64 ca3, .int .i64 ca4, .int .i64 ca5, .int .i64 ca6, .int .i64 ca7] 59)).alloc (.cells #[.int .i64 cb0, .int .i64 cb1, .int .i64 cb2, .int .i64 cb3, .int .i64 cb4, .int .i64 cb5, .int .i64 cb6, .int .i64 cb7] 59)).alloc (.cells #[.int .i64 cc0, .int .i64 cc1, .int .i64 cc2, .int .i64 cc3, .int .i64 cc4, .int .i64 cc5, .int .i64 cc6, .int .i64 cc7] 59)) #[.int .i64 ax, .int .i64 ay, .int .i64 bx, .int .i64 by_, .int .i64 cx, .int .i64 cy, .int .i64 d0, .int .i64 d1, .int .i64 d2, .int .i64 n0, .int .i64 n1, .int .i64 n2, .int .i64 a0, .int .i64 a1, .int .i64 a2, .int .i64 a3, .int .i64 b0, .int .i64 b1, .int .i64 b2, .int .i64 b3, .int .i64 c0, .int .i64 c1, .int .i64 c2, .int .i64 c3] 55).alloc (.cells #[.int .i16 v_x, .int .i16 v_y, .int .i16 v_z, .int .i16 v_w, .int .u8 v_r, .int .u8 v_g, .int .u8 v_b, .int .u8 v_a, .bool v_f] 25))
  have D4 := (Blk.new ((((w.alloc (.cells #[.int .i64 ca0, .int .i64 ca1, .int .i64 ca2, .int .i64 ca3, .int .i64 ca4, .int .i64 ca5, .int .i64 ca6, .int .i64 ca7] 59)).alloc (.cells #[.int .i64 cb0, .int .i64 cb1, .int .i64 cb2, .int .i64 cb3, .int .i64 cb4, .int .i64 cb5, .int .i64 cb6, .int .i64 cb7] 59)).alloc (.cells #[.int .i64 cc0, .int .i64 cc1, .int .i64 cc2, .int .i64 cc3, .int .i64 cc4, .int .i64 cc5, .int .i64 cc6, .int .i64 cc7] 59)).alloc (.cells #[.int .i64 ax, .int .i64 ay, .int .i64 bx, .int .i64 by_, .int .i64 cx, .int .i64 cy, .int .i64 d0, .int .i64 d1, .int .i64 d2, .int .i64 n0, .int .i64 n1, .int .i64 n2, .int .i64 a0, .int .i64 a1, .int .i64 a2, .int .i64 a3, .int .i64 b0, .int .i64 b1, .int .i64 b2, .int .i64 b3, .int .i64 c0, .int .i64 c1, .int .i64 c2, .int .i64 c3] 55)) #[.int .i16 v_x, .int .i16 v_y, .int .i16 v_z, .int .i16 v_w, .int .u8 v_r, .int .u8 v_g, .int .u8 v_b, .int .u8 v_a, .bool v_f] 25)
  go_enter Try.func7, Try.ntmps7
  go_upto_region 1 with fail
  simp only [World.size_alloc] at D1 D2 D3 D4
  generalize (((((w.alloc (.cells #[.int .i64 ca0, .int .i64 ca1, .int .i64 ca2, .int .i64 ca3, .int .i64 ca4, .int .i64 ca5, .int .i64 ca6, .int .i64 ca7] 59)).alloc (.cells #[.int .i64 cb0, .int .i64 cb1, .int .i64 cb2, .int .i64 cb3, .int .i64 cb4, .int .i64 cb5, .int .i64 cb6, .int .i64 cb7] 59)).alloc (.cells #[.int .i64 cc0, .int .i64 cc1, .int .i64 cc2, .int .i64 cc3, .int .i64 cc4, .int .i64 cc5, .int .i64 cc6, .int .i64 cc7] 59)).alloc (.cells #[.int .i64 ax, .int .i64 ay, .int .i64 bx, .int .i64 by_, .int .i64 cx, .int .i64 cy, .int .i64 d0, .int .i64 d1, .int .i64 d2, .int .i64 n0, .int .i64 n1, .int .i64 n2, .int .i64 a0, .int .i64 a1, .int .i64 a2, .int .i64 a3, .int .i64 b0, .int .i64 b1, .int .i64 b2, .int .i64 b3, .int .i64 c0, .int .i64 c1, .int .i64 c2, .int .i64 c3] 55)).alloc (.cells #[.int .i16 v_x, .int .i16 v_y, .int .i16 v_z, .int .i16 v_w, .int .u8 v_r, .int .u8 v_g, .int .u8 v_b, .int .u8 v_a, .bool v_f] 25)) = w0 at *
  go_wp2_with fail
  refine (awake13_any _).mono ?_
  rintro e w1 ⟨rfl, x1⟩
  have xx := xx.trans x1
  have D0 := D0.ext x1
  have D1 := D1.ext x1
  have D2 := D2.ext x1
  have D3 := D3.ext x1
  have D4 := D4.ext x1
  clear x1
  go_wp2_with (first
    | ((with_reducible refine wpList_load_blk (op := ⟨some 28, _, _, _, _, _⟩) ?_ 59 (.tmp 8) ?_ (w.heap.size) ?_ (z := _) (T := 59) D0 Try.underlying59 ?_ ?_ ?_); rfl; rfl; rfl; rfl; kernel_rfl)
    | ((with_reducible refine wpList_load_blk (op := ⟨some 29, _, _, _, _, _⟩) ?_ 59 (.tmp 9) ?_ (w.heap.size + 1) ?_ (z := _) (T := 59) D1 Try.underlying59 ?_ ?_ ?_); rfl; rfl; rfl; rfl; kernel_rfl)
    | ((with_reducible refine wpList_load_blk (op := ⟨some 30, _, _, _, _, _⟩) ?_ 59 (.tmp 10) ?_ (w.heap.size + 1 + 1) ?_ (z := _) (T := 59) D2 Try.underlying59 ?_ ?_ ?_); rfl; rfl; rfl; rfl; kernel_rfl)
    | fail)
  clear D0 D1 D2
  refine (HM.out _).mono ?_
  rintro e w2 ⟨rfl, x1⟩
  have xx := xx.trans x1
  have D3 := D3.ext x1
  have D4 := D4.ext x1
  clear x1
  have B17 := (Blk.new w2 #[.int .i64 0, .int .i64 0, .int .i64 0, .int .i64 0, .int .i64 0, .int .i64 0, .int .i64 0, .int .i64 0, .int .i64 0, .int .i64 0, .int .i64 0, .int .i64 0, .int .i64 0, .int .i64 0, .int .i64 0, .int .i64 0, .int .i64 0, .int .i64 0, .int .i64 0, .int .i64 0, .int .i64 0, .int .i64 0, .int .i64 0, .int .i64 0] 55).setRow #[.int .i64 m0, .int .i64 m1, .int .i64 m2, .int .i64 m3, .int .i64 m4, .int .i64 m5, .int .i64 m6, .int .i64 m7, .int .i64 m8, .int .i64 m9, .int .i64 m10, .int .i64 m11, .int .i64 m12, .int .i64 m13, .int .i64 m14, .int .i64 m15, .int .i64 m16, .int .i64 m17, .int .i64 m18, .int .i64 m19, .int .i64 m20, .int .i64 m21, .int .i64 m22, .int .i64 m23]
  have y1 : Ext w2 ((w2.alloc (.cells #[.int .i64 0, .int .i64 0, .int .i64 0, .int .i64 0, .int .i64 0, .int .i64 0, .int .i64 0, .int .i64 0, .int .i64 0, .int .i64 0, .int .i64 0, .int .i64 0, .int .i64 0, .int .i64 0, .int .i64 0, .int .i64 0, .int .i64 0, .int .i64 0, .int .i64 0, .int .i64 0, .int .i64 0, .int .i64 0, .int .i64 0, .int .i64 0] 55)).setRow w2.heap.size #[.int .i64 m0, .int .i64 m1, .int .i64 m2, .int .i64 m3, .int .i64 m4, .int .i64 m5, .int .i64 m6, .int .i64 m7, .int .i64 m8, .int .i64 m9, .int .i64 m10, .int .i64 m11, .int .i64 m12, .int .i64 m13, .int .i64 m14, .int .i64 m15, .int .i64 m16, .int .i64 m17, .int .i64 m18, .int .i64 m19, .int .i64 m20, .int .i64 m21, .int .i64 m22, .int .i64 m23]) := ((Ext.refl _).alloc _ _).setRow (Nat.le_refl _) _
  go_upto_region 4 with (first
    | ((with_reducible refine wpList_store_blk (op := ⟨none, .store 55 (.tmp 17) (.tmp 34), _, _, _, _⟩) ?_ 55 (.tmp 17) (.tmp 34) ?_ (w2.heap.size) ?_ (cs := #[.int .i64 m0, .int .i64 m1, .int .i64 m2, .int .i64 m3, .int .i64 m4, .int .i64 m5, .int .i64 m6, .int .i64 m7, .int .i64 m8, .int .i64 m9, .int .i64 m10, .int .i64 m11, .int .i64 m12, .int .i64 m13, .int .i64 m14, .int .i64 m15, .int .i64 m16, .int .i64 m17, .int .i64 m18, .int .i64 m19, .int .i64 m20, .int .i64 m21, .int .i64 m22, .int .i64 m23]) ?_ (z := #[.int .i64 0, .int .i64 0, .int .i64 0, .int .i64 0, .int .i64 0, .int .i64 0, .int .i64 0, .int .i64 0, .int .i64 0, .int .i64 0, .int .i64 0, .int .i64 0, .int .i64 0, .int .i64 0, .int .i64 0, .int .i64 0, .int .i64 0, .int .i64 0, .int .i64 0, .int .i64 0, .int .i64 0, .int .i64 0, .int .i64 0, .int .i64 0]) (T := 55) ?_ ?_ ?_ ?_ ?_); rfl; rfl; rfl; rfl; exact Blk.new w2 _ _; kernel_rfl; kernel_rfl; kernel_rfl)
    | fail)
  try simp only [Act.put]
  have xx := xx.trans y1
  have D3 := D3.ext y1
  have D4 := D4.ext y1
  clear y1
  generalize (w2.alloc (.cells #[.int .i64 0, .int .i64 0, .int .i64 0, .int .i64 0, .int .i64 0, .int .i64 0, .int .i64 0, .int .i64 0, .int .i64 0, .int .i64 0, .int .i64 0, .int .i64 0, .int .i64 0, .int .i64 0, .int .i64 0, .int .i64 0, .int .i64 0, .int .i64 0, .int .i64 0, .int .i64 0, .int .i64 0, .int .i64 0, .int .i64 0, .int .i64 0] 55)).setRow w2.heap.size #[.int .i64 m0, .int .i64 m1, .int .i64 m2, .int .i64 m3, .int .i64 m4, .int .i64 m5, .int .i64 m6, .int .i64 m7, .int .i64 m8, .int .i64 m9, .int .i64 m10, .int .i64 m11, .int .i64 m12, .int .i64 m13, .int .i64 m14, .int .i64 m15, .int .i64 m16, .int .i64 m17, .int .i64 m18, .int .i64 m19, .int .i64 m20, .int .i64 m21, .int .i64 m22, .int .i64 m23] = w3 at *
  generalize hbe : w2.heap.size = b17 at *
  clear hbe
  go_wp2_with (first
    | ((with_reducible refine wpList_load_blkG (op := ⟨some 38, _, _, _, _, _⟩) ?_ 55 (.tmp 17) ?_ b17 ?_ (z := _) (T := 55) B17 Try.underlying55 ?_ ?_ ?_); rfl; rfl; rfl; rfl; kernel_rfl)
    | fail)
  refine (HMC.out _).mono ?_
  rintro e w3c ⟨rfl, x1⟩
  have xx := xx.trans x1
  have D3 := D3.ext x1
  have D4 := D4.ext x1
  clear x1
  clear B17
  go_wp2_with (first
    | ((with_reducible refine wpList_load_blk (op := ⟨some 52, _, _, _, _, _⟩) ?_ 55 (.tmp 12) ?_ (w.heap.size + 1 + 1 + 1) ?_ (z := _) (T := 55) D3 Try.underlying55 ?_ ?_ ?_); rfl; rfl; rfl; rfl; kernel_rfl)
    | fail)
  refine (HA.out _).mono ?_
  rintro e w4 ⟨rfl, x1⟩
  have xx := xx.trans x1
  have D3 := D3.ext x1
  have D4 := D4.ext x1
  clear x1
  have B20 := (Blk.new w4 #[.int .i64 0, .int .i64 0, .int .i64 0, .int .i64 0] 30).setRow #[.int .i64 k0, .int .i64 k1, .int .i64 k2, .int .i64 k3]
  have y1 : Ext w4 ((w4.alloc (.cells #[.int .i64 0, .int .i64 0, .int .i64 0, .int .i64 0] 30)).setRow w4.heap.size #[.int .i64 k0, .int .i64 k1, .int .i64 k2, .int .i64 k3]) := ((Ext.refl _).alloc _ _).setRow (Nat.le_refl _) _
  go_upto_region 7 with (first
    | ((with_reducible refine wpList_store_blk (op := ⟨none, .store 30 (.tmp 20) (.tmp 57), _, _, _, _⟩) ?_ 30 (.tmp 20) (.tmp 57) ?_ (w4.heap.size) ?_ (cs := #[.int .i64 k0, .int .i64 k1, .int .i64 k2, .int .i64 k3]) ?_ (z := #[.int .i64 0, .int .i64 0, .int .i64 0, .int .i64 0]) (T := 30) ?_ ?_ ?_ ?_ ?_); rfl; rfl; rfl; rfl; exact Blk.new w4 _ _; kernel_rfl; kernel_rfl; kernel_rfl)
    | fail)
  try simp only [Act.put]
  have xx := xx.trans y1
  have D3 := D3.ext y1
  have D4 := D4.ext y1
  clear y1
  generalize (w4.alloc (.cells #[.int .i64 0, .int .i64 0, .int .i64 0, .int .i64 0] 30)).setRow w4.heap.size #[.int .i64 k0, .int .i64 k1, .int .i64 k2, .int .i64 k3] = w5 at *
  generalize hbe : w4.heap.size = b20 at *
  clear hbe
  clear B20
  go_wp2_with fail
  refine (HMID.out _).mono ?_
  rintro e w6 ⟨rfl, x1⟩
  have xx := xx.trans x1
  have D3 := D3.ext x1
  have D4 := D4.ext x1
  clear x1
  have B22 := (Blk.new w6 #[.int .i64 0, .int .i64 0] 50).setRow #[.int .i64 (16 * zx + 8), .int .i64 (16 * zy + 8)]
  have y1 : Ext w6 ((w6.alloc (.cells #[.int .i64 0, .int .i64 0] 50)).setRow w6.heap.size #[.int .i64 (16 * zx + 8), .int .i64 (16 * zy + 8)]) := ((Ext.refl _).alloc _ _).setRow (Nat.le_refl _) _
  go_upto_region 8 with (first
    | ((with_reducible refine wpList_store_blk (op := ⟨none, .store 50 (.tmp 22) (.tmp 61), _, _, _, _⟩) ?_ 50 (.tmp 22) (.tmp 61) ?_ (w6.heap.size) ?_ (cs := #[.int .i64 (16 * zx + 8), .int .i64 (16 * zy + 8)]) ?_ (z := #[.int .i64 0, .int .i64 0]) (T := 50) ?_ ?_ ?_ ?_ ?_); rfl; rfl; rfl; rfl; exact Blk.new w6 _ _; kernel_rfl; kernel_rfl; kernel_rfl)
    | fail)
  try simp only [Act.put]
  have xx := xx.trans y1
  have D3 := D3.ext y1
  have D4 := D4.ext y1
  clear y1
  generalize (w6.alloc (.cells #[.int .i64 0, .int .i64 0] 50)).setRow w6.heap.size #[.int .i64 (16 * zx + 8), .int .i64 (16 * zy + 8)] = w7 at *
  generalize hbe : w6.heap.size = b22 at *
  clear hbe
  go_wp2_with (first
    | ((with_reducible refine wpList_load_blk (op := ⟨some 62, _, _, _, _, _⟩) ?_ 25 (.tmp 15) ?_ (w.heap.size + 1 + 1 + 1 + 1) ?_ (z := _) (T := 25) D4 Try.underlying25 ?_ ?_ ?_); rfl; rfl; rfl; rfl; kernel_rfl)
    | fail)
  refine (HV.out _).mono ?_
  rintro e w8 ⟨rfl, x1⟩
  have xx := xx.trans x1
  have D3 := D3.ext x1
  have B22 := B22.ext x1
  clear x1
  have B23 := (Blk.new w8 #[.int .i64 0, .int .i64 0, .int .i64 0, .int .i64 0, .int .i64 0, .int .i64 0, .int .i64 0, .int .i64 0] 84).setRow #[.int .i64 u0, .int .i64 u1, .int .i64 u2, .int .i64 u3, .int .i64 u4, .int .i64 u5, .int .i64 u6, .int .i64 u7]
  have y1 : Ext w8 ((w8.alloc (.cells #[.int .i64 0, .int .i64 0, .int .i64 0, .int .i64 0, .int .i64 0, .int .i64 0, .int .i64 0, .int .i64 0] 84)).setRow w8.heap.size #[.int .i64 u0, .int .i64 u1, .int .i64 u2, .int .i64 u3, .int .i64 u4, .int .i64 u5, .int .i64 u6, .int .i64 u7]) := ((Ext.refl _).alloc _ _).setRow (Nat.le_refl _) _
  go_upto_region 9 with (first
    | ((with_reducible refine wpList_store_blk (op := ⟨none, .store 84 (.tmp 23) (.tmp 63), _, _, _, _⟩) ?_ 84 (.tmp 23) (.tmp 63) ?_ (w8.heap.size) ?_ (cs := #[.int .i64 u0, .int .i64 u1, .int .i64 u2, .int .i64 u3, .int .i64 u4, .int .i64 u5, .int .i64 u6, .int .i64 u7]) ?_ (z := #[.int .i64 0, .int .i64 0, .int .i64 0, .int .i64 0, .int .i64 0, .int .i64 0, .int .i64 0, .int .i64 0]) (T := 84) ?_ ?_ ?_ ?_ ?_); rfl; rfl; rfl; rfl; exact Blk.new w8 _ _; kernel_rfl; kernel_rfl; kernel_rfl)
    | fail)
  try simp only [Act.put]
  have xx := xx.trans y1
  have D3 := D3.ext y1
  have B22 := B22.ext y1
  clear y1
  generalize (w8.alloc (.cells #[.int .i64 0, .int .i64 0, .int .i64 0, .int .i64 0, .int .i64 0, .int .i64 0, .int .i64 0, .int .i64 0] 84)).setRow w8.heap.size #[.int .i64 u0, .int .i64 u1, .int .i64 u2, .int .i64 u3, .int .i64 u4, .int .i64 u5, .int .i64 u6, .int .i64 u7] = w9 at *
  generalize hbe : w8.heap.size = b23 at *
  clear hbe
  have RA := Lib.hid (B23.mid13 0 [.int .i64 u0, .int .i64 u1, .int .i64 u2, .int .i64 u3] rfl)
  have RB := Lib.hid (B23.mid13 4 [.int .i64 u4, .int .i64 u5, .int .i64 u6, .int .i64 u7] rfl)
  go_wp2_with (first
    | ((with_reducible refine wpList_load_mid (op := ⟨some 65, _, _, _, _, _⟩) ?_ 30 (.tmp 64) ?_ b23 0 ?_ [.int .i64 u0, .int .i64 u1, .int .i64 u2, .int .i64 u3] _ RA.out Try.underlying30 ?_ ?_ ?_); rfl; rfl; rfl; rfl; kernel_rfl)
    | ((with_reducible refine wpList_load_mid (op := ⟨some 67, _, _, _, _, _⟩) ?_ 30 (.tmp 66) ?_ b23 4 ?_ [.int .i64 u4, .int .i64 u5, .int .i64 u6, .int .i64 u7] _ RB.out Try.underlying30 ?_ ?_ ?_); rfl; rfl; rfl; rfl; kernel_rfl)
    | fail)
  clear RA RB B23 D4
  refine (HO.out _).mono ?_
  rintro e w10 ⟨rfl, x1⟩
  have xx := xx.trans x1
  have D3 := D3.ext x1
  have B22 := B22.ext x1
  clear x1
  have B24 := (Blk.new w10 #[.int .i64 0, .int .i64 0, .int .i64 0, .int .i64 0, .int .i64 0, .int .i64 0, .int .i64 0, .int .i64 0] 59).setRow #[.int .i64 o0, .int .i64 o1, .int .i64 o2, .int .i64 o3, .int .i64 o4, .int .i64 o5, .int .i64 o6, .int .i64 o7]
  have y1 : Ext w10 ((w10.alloc (.cells #[.int .i64 0, .int .i64 0, .int .i64 0, .int .i64 0, .int .i64 0, .int .i64 0, .int .i64 0, .int .i64 0] 59)).setRow w10.heap.size #[.int .i64 o0, .int .i64 o1, .int .i64 o2, .int .i64 o3, .int .i64 o4, .int .i64 o5, .int .i64 o6, .int .i64 o7]) := ((Ext.refl _).alloc _ _).setRow (Nat.le_refl _) _
  go_upto_region 10 with (first
    | ((with_reducible refine wpList_store_blk (op := ⟨none, .store 59 (.tmp 24) (.tmp 71), _, _, _, _⟩) ?_ 59 (.tmp 24) (.tmp 71) ?_ (w10.heap.size) ?_ (cs := #[.int .i64 o0, .int .i64 o1, .int .i64 o2, .int .i64 o3, .int .i64 o4, .int .i64 o5, .int .i64 o6, .int .i64 o7]) ?_ (z := #[.int .i64 0, .int .i64 0, .int .i64 0, .int .i64 0, .int .i64 0, .int .i64 0, .int .i64 0, .int .i64 0]) (T := 59) ?_ ?_ ?_ ?_ ?_); rfl; rfl; rfl; rfl; exact Blk.new w10 _ _; kernel_rfl; kernel_rfl; kernel_rfl)
    | fail)
  try simp only [Act.put]
  have xx := xx.trans y1
  have D3 := D3.ext y1
  have B22 := B22.ext y1
  clear y1
  generalize (w10.alloc (.cells #[.int .i64 0, .int .i64 0, .int .i64 0, .int .i64 0, .int .i64 0, .int .i64 0, .int .i64 0, .int .i64 0] 59)).setRow w10.heap.size #[.int .i64 o0, .int .i64 o1, .int .i64 o2, .int .i64 o3, .int .i64 o4, .int .i64 o5, .int .i64 o6, .int .i64 o7] = w11 at *
  generalize hbe : w10.heap.size = b24 at *
  clear hbe
  clear D3
  have hmi := minI_fold
  have hma := maxI_fold
  have wz1 : IntKind.i64.wrap (16 * zx) = 16 * zx := by rw [IntKind.wrap_i64]; omega
  have wz2 : IntKind.i64.wrap (16 * zy) = 16 * zy := by rw [IntKind.wrap_i64]; omega
  have wz3 : IntKind.i64.wrap (16 * zx + 8) = 16 * zx + 8 := by rw [IntKind.wrap_i64]; omega
  have wz4 : IntKind.i64.wrap (16 * zy + 8) = 16 * zy + 8 := by rw [IntKind.wrap_i64]; omega
  have c22 := B22.cell
  have c24 := B24.cell
  go_wp2_with fail
  go_ret
  exact ⟨rfl, xx⟩
set_option maxRecDepth 100000 in
set_option maxHeartbeats 4000000 in
theorem raw_false_true (ca0 ca1 ca2 ca3 ca4 ca5 ca6 ca7 cb0 cb1 cb2 cb3 cb4 cb5 cb6 cb7 cc0 cc1 cc2 cc3 cc4 cc5 cc6 cc7 cull ck ax ay bx by_ cx cy d0 d1 d2 n0 n1 n2 a0 a1 a2 a3 b0 b1 b2 b3 c0 c1 c2 c3 x y zx zy v_x v_y v_z v_w v_r v_g v_b v_a d k0 k1 k2 k3 u0 u1 u2 u3 u4 u5 u6 u7 o0 o1 o2 o3 o4 o5 o6 o7  : Int) (v_f : Bool) (hck : cull.tmod 3 = ck) (hzx : minI (maxI x (-1)) 64 = zx) (hzy : minI (maxI y (-1)) 64 = zy) (bzx : -1 ≤ zx ∧ zx ≤ 64) (bzy : -1 ≤ zy ∧ zy ≤ 64) (bo3 : 256 ≤ o3) (bo2 : 0 ≤ o2 ∧ o2 ≤ 65535)
    (hM : ∀ u, Calls Try.prog 14 #[.agg #[.int .i64 ca0, .int .i64 ca1, .int .i64 ca2, .int .i64 ca3, .int .i64 ca4, .int .i64 ca5, .int .i64 ca6, .int .i64 ca7], .agg #[.int .i64 cb0, .int .i64 cb1, .int .i64 cb2, .int .i64 cb3, .int .i64 cb4, .int .i64 cb5, .int .i64 cb6, .int .i64 cb7], .agg #[.int .i64 cc0, .int .i64 cc1, .int .i64 cc2, .int .i64 cc3, .int .i64 cc4, .int .i64 cc5, .int .i64 cc6, .int .i64 cc7], .int .u8 ck] u fun e w' => e = .returned (.tuple #[.agg #[.int .i64 0, .int .i64 0, .int .i64 0, .int .i64 0, .int .i64 0, .int .i64 0, .int .i64 0, .int .i64 0, .int .i64 0, .int .i64 0, .int .i64 0, .int .i64 0, .int .i64 0, .int .i64 0, .int .i64 0, .int .i64 0, .int .i64 0, .int .i64 0, .int .i64 0, .int .i64 0, .int .i64 0, .int .i64 0, .int .i64 0, .int .i64 0], .bool false]) ∧ Ext u w')
    
    (hA : ∀ u, Calls Try.prog 19 #[.agg #[.int .i64 ax, .int .i64 ay, .int .i64 bx, .int .i64 by_, .int .i64 cx, .int .i64 cy, .int .i64 d0, .int .i64 d1, .int .i64 d2, .int .i64 n0, .int .i64 n1, .int .i64 n2, .int .i64 a0, .int .i64 a1, .int .i64 a2, .int .i64 a3, .int .i64 b0, .int .i64 b1, .int .i64 b2, .int .i64 b3, .int .i64 c0, .int .i64 c1, .int .i64 c2, .int .i64 c3], .int .i64 x, .int .i64 y] u fun e w' => e = .returned (.tuple #[.int .i64 d, .agg #[.int .i64 k0, .int .i64 k1, .int .i64 k2, .int .i64 k3], .bool true]) ∧ Ext u w') (hMid : ∀ u, Calls Try.prog 21 #[.int .i64 x, .int .i64 y] u fun e w' => e = .returned (.agg #[.int .i64 (16 * zx + 8), .int .i64 (16 * zy + 8)]) ∧ Ext u w')
    (hV : ∀ u, Calls Try.prog 22 #[.agg #[.int .i16 v_x, .int .i16 v_y, .int .i16 v_z, .int .i16 v_w, .int .u8 v_r, .int .u8 v_g, .int .u8 v_b, .int .u8 v_a, .bool v_f]] u fun e w' => e = .returned (.agg #[.int .i64 u0, .int .i64 u1, .int .i64 u2, .int .i64 u3, .int .i64 u4, .int .i64 u5, .int .i64 u6, .int .i64 u7]) ∧ Ext u w') (hO : ∀ u, Calls Try.prog 15 #[.agg #[.int .i64 u0, .int .i64 u1, .int .i64 u2, .int .i64 u3, .int .i64 u4, .int .i64 u5, .int .i64 u6, .int .i64 u7], .int .i64 x, .int .i64 y] u fun e w' => e = .returned (.agg #[.int .i64 o0, .int .i64 o1, .int .i64 o2, .int .i64 o3, .int .i64 o4, .int .i64 o5, .int .i64 o6, .int .i64 o7]) ∧ Ext u w')
    (hTC : ∀ u, Calls Try.prog 17 #[.agg #[.int .i64 ax, .int .i64 ay, .int .i64 bx, .int .i64 by_, .int .i64 cx, .int .i64 cy, .int .i64 d0, .int .i64 d1, .int .i64 d2, .int .i64 n0, .int .i64 n1, .int .i64 n2, .int .i64 a0, .int .i64 a1, .int .i64 a2, .int .i64 a3, .int .i64 b0, .int .i64 b1, .int .i64 b2, .int .i64 b3, .int .i64 c0, .int .i64 c1, .int .i64 c2, .int .i64 c3]] u fun e w' => e = .returned (.int .i64 0) ∧ Ext u w') (hCov : ∀ u, Calls Try.prog 23 #[.agg #[.int .i64 ax, .int .i64 ay, .int .i64 bx, .int .i64 by_, .int .i64 cx, .int .i64 cy], .agg #[.int .i64 (16 * zx + 8), .int .i64 (16 * zy + 8)]] u fun e w' => e = .returned (.bool true) ∧ Ext u w') (w : World) :
    Calls Try.prog 7 #[.agg #[.int .i64 ca0, .int .i64 ca1, .int .i64 ca2, .int .i64 ca3, .int .i64 ca4, .int .i64 ca5, .int .i64 ca6, .int .i64 ca7], .agg #[.int .i64 cb0, .int .i64 cb1, .int .i64 cb2, .int .i64 cb3, .int .i64 cb4, .int .i64 cb5, .int .i64 cb6, .int .i64 cb7], .agg #[.int .i64 cc0, .int .i64 cc1, .int .i64 cc2, .int .i64 cc3, .int .i64 cc4, .int .i64 cc5, .int .i64 cc6, .int .i64 cc7], .int .u8 cull, .agg #[.int .i64 ax, .int .i64 ay, .int .i64 bx, .int .i64 by_, .int .i64 cx, .int .i64 cy, .int .i64 d0, .int .i64 d1, .int .i64 d2, .int .i64 n0, .int .i64 n1, .int .i64 n2, .int .i64 a0, .int .i64 a1, .int .i64 a2, .int .i64 a3, .int .i64 b0, .int .i64 b1, .int .i64 b2, .int .i64 b3, .int .i64 c0, .int .i64 c1, .int .i64 c2, .int .i64 c3], .int .i64 x, .int .i64 y, .agg #[.int .i16 v_x, .int .i16 v_y, .int .i16 v_z, .int .i16 v_w, .int .u8 v_r, .int .u8 v_g, .int .u8 v_b, .int .u8 v_a, .bool v_f]] w fun e w' => e = .returned (.bool true) ∧ Ext w w' := by
  have HM := Lib.hid hM
  have HA := Lib.hid hA
  have HMID := Lib.hid hMid
  have HV := Lib.hid hV
  have HO := Lib.hid hO
  have HTC := Lib.hid hTC
  have HCOV := Lib.hid hCov
  clear hM hA hMid hV hO hTC hCov
  have xx : Ext w (((((w.alloc (.cells #[.int .i64 ca0, .int .i64 ca1, .int .i64 ca2, .int .i64 ca3, .int .i64 ca4, .int .i64 ca5, .int .i64 ca6, .int .i64 ca7] 59)).alloc (.cells #[.int .i64 cb0, .int .i64 cb1, .int .i64 cb2, .int .i64 cb3, .int .i64 cb4, .int .i64 cb5, .int .i64 cb6, .int .i64 cb7] 59)).alloc (.cells #[.int .i64 cc0, .int .i64 cc1, .int .i64 cc2, .int .i64 cc3, .int .i64 cc4, .int .i64 cc5, .int .i64 cc6, .int .i64 cc7] 59)).alloc (.cells #[.int .i64 ax, .int .i64 ay, .int .i64 bx, .int .i64 by_, .int .i64 cx, .int .i64 cy, .int .i64 d0, .int .i64 d1, .int .i64 d2, .int .i64 n0, .int .i64 n1, .int .i64 n2, .int .i64 a0, .int .i64 a1, .int .i64 a2, .int .i64 a3, .int .i64 b0, .int .i64 b1, .int .i64 b2, .int .i64 b3, .int .i64 c0, .int .i64 c1, .int .i64 c2, .int .i64 c3] 55)).alloc (.cells #[.int .i16 v_x, .int .i16 v_y, .int .i16 v_z, .int .i16 v_w, .int .u8 v_r, .int .u8 v_g, .int .u8 v_b, .int .u8 v_a, .bool v_f] 25)) := ((((((Ext.refl w).alloc _ _).alloc _ _).alloc _ _).alloc _ _).alloc _ _)
  have D0 := (((((Blk.new w #[.int .i64 ca0, .int .i64 ca1, .int .i64 ca2, .int .i64 ca3, .int .i64 ca4, .int .i64 ca5, .int .i64 ca6, .int .i64 ca7] 59).alloc (.cells #[.int .i64 cb0, .int .i64 cb1, .int .i64 cb2, .int .i64 cb3, .int .i64 cb4, .int .i64 cb5, .int .i64 cb6, .int .i64 cb7] 59)).alloc (.cells #[.int .i64 cc0, .int .i64 cc1, .int .i64 cc2, .int .i64 cc3, .int .i64 cc4, .int .i64 cc5, .int .i64 cc6, .int .i64 cc7] 59)).alloc (.cells #[.int .i64 ax, .int .i64 ay, .int .i64 bx, .int .i64 by_, .int .i64 cx, .int .i64 cy, .int .i64 d0, .int .i64 d1, .int .i64 d2, .int .i64 n0, .int .i64 n1, .int .i64 n2, .int .i64 a0, .int .i64 a1, .int .i64 a2, .int .i64 a3, .int .i64 b0, .int .i64 b1, .int .i64 b2, .int .i64 b3, .int .i64 c0, .int .i64 c1, .int .i64 c2, .int .i64 c3] 55)).alloc (.cells #[.int .i16 v_x, .int .i16 v_y, .int .i16 v_z, .int .i16 v_w, .int .u8 v_r, .int .u8 v_g, .int .u8 v_b, .int .u8 v_a, .bool v_f] 25))
  have D1 := ((((Blk.new (w.alloc (.cells #[.int .i64 ca0, .int .i64 ca1, .int .i64 ca2, .int .i64 ca3, .int .i64 ca4, .int .i64 ca5, .int .i64 ca6, .int .i64 ca7] 59)) #[.int .i64 cb0, .int .i64 cb1, .int .i64 cb2, .int .i64 cb3, .int .i64 cb4, .int .i64 cb5, .int .i64 cb6, .int .i64 cb7] 59).alloc (.cells #[.int .i64 cc0, .int .i64 cc1, .int .i64 cc2, .int .i64 cc3, .int .i64 cc4, .int .i64 cc5, .int .i64 cc6, .int .i64 cc7] 59)).alloc (.cells #[.int .i64 ax, .int .i64 ay, .int .i64 bx, .int .i64 by_, .int .i64 cx, .int .i64 cy, .int .i64 d0, .int .i64 d1, .int .i64 d2, .int .i64 n0, .int .i64 n1, .int .i64 n2, .int .i64 a0, .int .i64 a1, .int .i64 a2, .int .i64 a3, .int .i64 b0, .int .i64 b1, .int .i64 b2, .int .i64 b3, .int .i64 c0, .int .i64 c1, .int .i64 c2, .int .i64 c3] 55)).alloc (.cells #[.int .i16 v_x, .int .i16 v_y, .int .i16 v_z, .int .i16 v_w, .int .u8 v_r, .int .u8 v_g, .int .u8 v_b, .int .u8 v_a, .bool v_f] 25))
  have D2 := (((Blk.new ((w.alloc (.cells #[.int .i64 ca0, .int .i64 ca1, .int .i64 ca2, .int .i64 ca3, .int .i64 ca4, .int .i64 ca5, .int .i64 ca6, .int .i64 ca7] 59)).alloc (.cells #[.int .i64 cb0, .int .i64 cb1, .int .i64 cb2, .int .i64 cb3, .int .i64 cb4, .int .i64 cb5, .int .i64 cb6, .int .i64 cb7] 59)) #[.int .i64 cc0, .int .i64 cc1, .int .i64 cc2, .int .i64 cc3, .int .i64 cc4, .int .i64 cc5, .int .i64 cc6, .int .i64 cc7] 59).alloc (.cells #[.int .i64 ax, .int .i64 ay, .int .i64 bx, .int .i64 by_, .int .i64 cx, .int .i64 cy, .int .i64 d0, .int .i64 d1, .int .i64 d2, .int .i64 n0, .int .i64 n1, .int .i64 n2, .int .i64 a0, .int .i64 a1, .int .i64 a2, .int .i64 a3, .int .i64 b0, .int .i64 b1, .int .i64 b2, .int .i64 b3, .int .i64 c0, .int .i64 c1, .int .i64 c2, .int .i64 c3] 55)).alloc (.cells #[.int .i16 v_x, .int .i16 v_y, .int .i16 v_z, .int .i16 v_w, .int .u8 v_r, .int .u8 v_g, .int .u8 v_b, .int .u8 v_a, .bool v_f] 25))
  have D3 := ((Blk.new (((w.alloc (.cells #[.int .i64 ca0, .int .i64 ca1, .int .i64 ca2, .int .i64 ca3, .int .i64 ca4, .int .i64 ca5, .int .i64 ca6, .int .i64 ca7] 59)).alloc (.cells #[.int .i64 cb0, .int .i64 cb1, .int .i64 cb2, .int .i64 cb3, .int .i64 cb4, .int .i64 cb5, .int .i64 cb6, .int .i64 cb7] 59)).alloc (.cells #[.int .i64 cc0, .int .i64 cc1, .int .i64 cc2, .int .i64 cc3, .int .i64 cc4, .int .i64 cc5, .int .i64 cc6, .int .i64 cc7] 59)) #[.int .i64 ax, .int .i64 ay, .int .i64 bx, .int .i64 by_, .int .i64 cx, .int .i64 cy, .int .i64 d0, .int .i64 d1, .int .i64 d2, .int .i64 n0, .int .i64 n1, .int .i64 n2, .int .i64 a0, .int .i64 a1, .int .i64 a2, .int .i64 a3, .int .i64 b0, .int .i64 b1, .int .i64 b2, .int .i64 b3, .int .i64 c0, .int .i64 c1, .int .i64 c2, .int .i64 c3] 55).alloc (.cells #[.int .i16 v_x, .int .i16 v_y, .int .i16 v_z, .int .i16 v_w, .int .u8 v_r, .int .u8 v_g, .int .u8 v_b, .int .u8 v_a, .bool v_f] 25))
  have D4 := (Blk.new ((((w.alloc (.cells #[.int .i64 ca0, .int .i64 ca1, .int .i64 ca2, .int .i64 ca3, .int .i64 ca4, .int .i64 ca5, .int .i64 ca6, .int .i64 ca7] 59)).alloc (.cells #[.int .i64 cb0, .int .i64 cb1, .int .i64 cb2, .int .i64 cb3, .int .i64 cb4, .int .i64 cb5, .int .i64 cb6, .int .i64 cb7] 59)).alloc (.cells #[.int .i64 cc0, .int .i64 cc1, .int .i64 cc2, .int .i64 cc3, .int .i64 cc4, .int .i64 cc5, .int .i64 cc6, .int .i64 cc7] 59)).alloc (.cells #[.int .i64 ax, .int .i64 ay, .int .i64 bx, .int .i64 by_, .int .i64 cx, .int .i64 cy, .int .i64 d0, .int .i64 d1, .int .i64 d2, .int .i64 n0, .int .i64 n1, .int .i64 n2, .int .i64 a0, .int .i64 a1, .int .i64 a2, .int .i64 a3, .int .i64 b0, .int .i64 b1, .int .i64 b2, .int .i64 b3, .int .i64 c0, .int .i64 c1, .int .i64 c2, .int .i64 c3] 55)) #[.int .i16 v_x, .int .i16 v_y, .int .i16 v_z, .int .i16 v_w, .int .u8 v_r, .int .u8 v_g, .int .u8 v_b, .int .u8 v_a, .bool v_f] 25)
  go_enter Try.func7, Try.ntmps7
  go_upto_region 1 with fail
  simp only [World.size_alloc] at D1 D2 D3 D4
  generalize (((((w.alloc (.cells #[.int .i64 ca0, .int .i64 ca1, .int .i64 ca2, .int .i64 ca3, .int .i64 ca4, .int .i64 ca5, .int .i64 ca6, .int .i64 ca7] 59)).alloc (.cells #[.int .i64 cb0, .int .i64 cb1, .int .i64 cb2, .int .i64 cb3, .int .i64 cb4, .int .i64 cb5, .int .i64 cb6, .int .i64 cb7] 59)).alloc (.cells #[.int .i64 cc0, .int .i64 cc1, .int .i64 cc2, .int .i64 cc3, .int .i64 cc4, .int .i64 cc5, .int .i64 cc6, .int .i64 cc7] 59)).alloc (.cells #[.int .i64 ax, .int .i64 ay, .int .i64 bx, .int .i64 by_, .int .i64 cx, .int .i64 cy, .int .i64 d0, .int .i64 d1, .int .i64 d2, .int .i64 n0, .int .i64 n1, .int .i64 n2, .int .i64 a0, .int .i64 a1, .int .i64 a2, .int .i64 a3, .int .i64 b0, .int .i64 b1, .int .i64 b2, .int .i64 b3, .int .i64 c0, .int .i64 c1, .int .i64 c2, .int .i64 c3] 55)).alloc (.cells #[.int .i16 v_x, .int .i16 v_y, .int .i16 v_z, .int .i16 v_w, .int .u8 v_r, .int .u8 v_g, .int .u8 v_b, .int .u8 v_a, .bool v_f] 25)) = w0 at *
  go_wp2_with fail
  refine (awake13_any _).mono ?_
  rintro e w1 ⟨rfl, x1⟩
  have xx := xx.trans x1
  have D0 := D0.ext x1
  have D1 := D1.ext x1
  have D2 := D2.ext x1
  have D3 := D3.ext x1
  have D4 := D4.ext x1
  clear x1
  go_wp2_with (first
    | ((with_reducible refine wpList_load_blk (op := ⟨some 28, _, _, _, _, _⟩) ?_ 59 (.tmp 8) ?_ (w.heap.size) ?_ (z := _) (T := 59) D0 Try.underlying59 ?_ ?_ ?_); rfl; rfl; rfl; rfl; kernel_rfl)
    | ((with_reducible refine wpList_load_blk (op := ⟨some 29, _, _, _, _, _⟩) ?_ 59 (.tmp 9) ?_ (w.heap.size + 1) ?_ (z := _) (T := 59) D1 Try.underlying59 ?_ ?_ ?_); rfl; rfl; rfl; rfl; kernel_rfl)
    | ((with_reducible refine wpList_load_blk (op := ⟨some 30, _, _, _, _, _⟩) ?_ 59 (.tmp 10) ?_ (w.heap.size + 1 + 1) ?_ (z := _) (T := 59) D2 Try.underlying59 ?_ ?_ ?_); rfl; rfl; rfl; rfl; kernel_rfl)
    | fail)
  clear D0 D1 D2
  refine (HM.out _).mono ?_
  rintro e w2 ⟨rfl, x1⟩
  have xx := xx.trans x1
  have D3 := D3.ext x1
  have D4 := D4.ext x1
  clear x1
  have B17 := (Blk.new w2 #[.int .i64 0, .int .i64 0, .int .i64 0, .int .i64 0, .int .i64 0, .int .i64 0, .int .i64 0, .int .i64 0, .int .i64 0, .int .i64 0, .int .i64 0, .int .i64 0, .int .i64 0, .int .i64 0, .int .i64 0, .int .i64 0, .int .i64 0, .int .i64 0, .int .i64 0, .int .i64 0, .int .i64 0, .int .i64 0, .int .i64 0, .int .i64 0] 55).setRow #[.int .i64 0, .int .i64 0, .int .i64 0, .int .i64 0, .int .i64 0, .int .i64 0, .int .i64 0, .int .i64 0, .int .i64 0, .int .i64 0, .int .i64 0, .int .i64 0, .int .i64 0, .int .i64 0, .int .i64 0, .int .i64 0, .int .i64 0, .int .i64 0, .int .i64 0, .int .i64 0, .int .i64 0, .int .i64 0, .int .i64 0, .int .i64 0]
  have y1 : Ext w2 ((w2.alloc (.cells #[.int .i64 0, .int .i64 0, .int .i64 0, .int .i64 0, .int .i64 0, .int .i64 0, .int .i64 0, .int .i64 0, .int .i64 0, .int .i64 0, .int .i64 0, .int .i64 0, .int .i64 0, .int .i64 0, .int .i64 0, .int .i64 0, .int .i64 0, .int .i64 0, .int .i64 0, .int .i64 0, .int .i64 0, .int .i64 0, .int .i64 0, .int .i64 0] 55)).setRow w2.heap.size #[.int .i64 0, .int .i64 0, .int .i64 0, .int .i64 0, .int .i64 0, .int .i64 0, .int .i64 0, .int .i64 0, .int .i64 0, .int .i64 0, .int .i64 0, .int .i64 0, .int .i64 0, .int .i64 0, .int .i64 0, .int .i64 0, .int .i64 0, .int .i64 0, .int .i64 0, .int .i64 0, .int .i64 0, .int .i64 0, .int .i64 0, .int .i64 0]) := ((Ext.refl _).alloc _ _).setRow (Nat.le_refl _) _
  go_upto_region 4 with (first
    | ((with_reducible refine wpList_store_blk (op := ⟨none, .store 55 (.tmp 17) (.tmp 34), _, _, _, _⟩) ?_ 55 (.tmp 17) (.tmp 34) ?_ (w2.heap.size) ?_ (cs := #[.int .i64 0, .int .i64 0, .int .i64 0, .int .i64 0, .int .i64 0, .int .i64 0, .int .i64 0, .int .i64 0, .int .i64 0, .int .i64 0, .int .i64 0, .int .i64 0, .int .i64 0, .int .i64 0, .int .i64 0, .int .i64 0, .int .i64 0, .int .i64 0, .int .i64 0, .int .i64 0, .int .i64 0, .int .i64 0, .int .i64 0, .int .i64 0]) ?_ (z := #[.int .i64 0, .int .i64 0, .int .i64 0, .int .i64 0, .int .i64 0, .int .i64 0, .int .i64 0, .int .i64 0, .int .i64 0, .int .i64 0, .int .i64 0, .int .i64 0, .int .i64 0, .int .i64 0, .int .i64 0, .int .i64 0, .int .i64 0, .int .i64 0, .int .i64 0, .int .i64 0, .int .i64 0, .int .i64 0, .int .i64 0, .int .i64 0]) (T := 55) ?_ ?_ ?_ ?_ ?_); rfl; rfl; rfl; rfl; exact Blk.new w2 _ _; kernel_rfl; kernel_rfl; kernel_rfl)
    | fail)
  try simp only [Act.put]
  have xx := xx.trans y1
  have D3 := D3.ext y1
  have D4 := D4.ext y1
  clear y1
  generalize (w2.alloc (.cells #[.int .i64 0, .int .i64 0, .int .i64 0, .int .i64 0, .int .i64 0, .int .i64 0, .int .i64 0, .int .i64 0, .int .i64 0, .int .i64 0, .int .i64 0, .int .i64 0, .int .i64 0, .int .i64 0, .int .i64 0, .int .i64 0, .int .i64 0, .int .i64 0, .int .i64 0, .int .i64 0, .int .i64 0, .int .i64 0, .int .i64 0, .int .i64 0] 55)).setRow w2.heap.size #[.int .i64 0, .int .i64 0, .int .i64 0, .int .i64 0, .int .i64 0, .int .i64 0, .int .i64 0, .int .i64 0, .int .i64 0, .int .i64 0, .int .i64 0, .int .i64 0, .int .i64 0, .int .i64 0, .int .i64 0, .int .i64 0, .int .i64 0, .int .i64 0, .int .i64 0, .int .i64 0, .int .i64 0, .int .i64 0, .int .i64 0, .int .i64 0] = w3 at *
  generalize hbe : w2.heap.size = b17 at *
  clear hbe
  have hq := eqT55 0 0 0 0 0 0 0 0 0 0 0 0 0 0 0 0 0 0 0 0 0 0 0 0
  go_upto_region 6 with (first
    | ((with_reducible refine wpList_load_blkG (op := ⟨some 46, _, _, _, _, _⟩) ?_ 55 (.tmp 17) ?_ b17 ?_ (z := _) (T := 55) B17 Try.underlying55 ?_ ?_ ?_); rfl; rfl; rfl; rfl; kernel_rfl)
    | ((with_reducible refine wpList_build13G (o := ⟨some 47, _, _, _, _, _⟩) ?_ 55 #[] ?_ #[.int .i64 0, .int .i64 0, .int .i64 0, .int .i64 0, .int .i64 0, .int .i64 0, .int .i64 0, .int .i64 0, .int .i64 0, .int .i64 0, .int .i64 0, .int .i64 0, .int .i64 0, .int .i64 0, .int .i64 0, .int .i64 0, .int .i64 0, .int .i64 0, .int .i64 0, .int .i64 0, .int .i64 0, .int .i64 0, .int .i64 0, .int .i64 0] ?_ ?_); rfl; rfl; kernel_rfl)
    | fail)
  clear B17 hq
  go_wp2_with (first
    | ((with_reducible refine wpList_load_blk (op := ⟨some 52, _, _, _, _, _⟩) ?_ 55 (.tmp 12) ?_ (w.heap.size + 1 + 1 + 1) ?_ (z := _) (T := 55) D3 Try.underlying55 ?_ ?_ ?_); rfl; rfl; rfl; rfl; kernel_rfl)
    | fail)
  refine (HA.out _).mono ?_
  rintro e w4 ⟨rfl, x1⟩
  have xx := xx.trans x1
  have D3 := D3.ext x1
  have D4 := D4.ext x1
  clear x1
  have B20 := (Blk.new w4 #[.int .i64 0, .int .i64 0, .int .i64 0, .int .i64 0] 30).setRow #[.int .i64 k0, .int .i64 k1, .int .i64 k2, .int .i64 k3]
  have y1 : Ext w4 ((w4.alloc (.cells #[.int .i64 0, .int .i64 0, .int .i64 0, .int .i64 0] 30)).setRow w4.heap.size #[.int .i64 k0, .int .i64 k1, .int .i64 k2, .int .i64 k3]) := ((Ext.refl _).alloc _ _).setRow (Nat.le_refl _) _
  go_upto_region 7 with (first
    | ((with_reducible refine wpList_store_blk (op := ⟨none, .store 30 (.tmp 20) (.tmp 57), _, _, _, _⟩) ?_ 30 (.tmp 20) (.tmp 57) ?_ (w4.heap.size) ?_ (cs := #[.int .i64 k0, .int .i64 k1, .int .i64 k2, .int .i64 k3]) ?_ (z := #[.int .i64 0, .int .i64 0, .int .i64 0, .int .i64 0]) (T := 30) ?_ ?_ ?_ ?_ ?_); rfl; rfl; rfl; rfl; exact Blk.new w4 _ _; kernel_rfl; kernel_rfl; kernel_rfl)
    | fail)
  try simp only [Act.put]
  have xx := xx.trans y1
  have D3 := D3.ext y1
  have D4 := D4.ext y1
  clear y1
  generalize (w4.alloc (.cells #[.int .i64 0, .int .i64 0, .int .i64 0, .int .i64 0] 30)).setRow w4.heap.size #[.int .i64 k0, .int .i64 k1, .int .i64 k2, .int .i64 k3] = w5 at *
  generalize hbe : w4.heap.size = b20 at *
  clear hbe
  clear B20
  go_wp2_with fail
  refine (HMID.out _).mono ?_
  rintro e w6 ⟨rfl, x1⟩
  have xx := xx.trans x1
  have D3 := D3.ext x1
  have D4 := D4.ext x1
  clear x1
  have B22 := (Blk.new w6 #[.int .i64 0, .int .i64 0] 50).setRow #[.int .i64 (16 * zx + 8), .int .i64 (16 * zy + 8)]
  have y1 : Ext w6 ((w6.alloc (.cells #[.int .i64 0, .int .i64 0] 50)).setRow w6.heap.size #[.int .i64 (16 * zx + 8), .int .i64 (16 * zy + 8)]) := ((Ext.refl _).alloc _ _).setRow (Nat.le_refl _) _
  go_upto_region 8 with (first
    | ((with_reducible refine wpList_store_blk (op := ⟨none, .store 50 (.tmp 22) (.tmp 61), _, _, _, _⟩) ?_ 50 (.tmp 22) (.tmp 61) ?_ (w6.heap.size) ?_ (cs := #[.int .i64 (16 * zx + 8), .int .i64 (16 * zy + 8)]) ?_ (z := #[.int .i64 0, .int .i64 0]) (T := 50) ?_ ?_ ?_ ?_ ?_); rfl; rfl; rfl; rfl; exact Blk.new w6 _ _; kernel_rfl; kernel_rfl; kernel_rfl)
    | fail)
  try simp only [Act.put]
  have xx := xx.trans y1
  have D3 := D3.ext y1
  have D4 := D4.ext y1
  clear y1
  generalize (w6.alloc (.cells #[.int .i64 0, .int .i64 0] 50)).setRow w6.heap.size #[.int .i64 (16 * zx + 8), .int .i64 (16 * zy + 8)] = w7 at *
  generalize hbe : w6.heap.size = b22 at *
  clear hbe
  go_wp2_with (first
    | ((with_reducible refine wpList_load_blk (op := ⟨some 62, _, _, _, _, _⟩) ?_ 25 (.tmp 15) ?_ (w.heap.size + 1 + 1 + 1 + 1) ?_ (z := _) (T := 25) D4 Try.underlying25 ?_ ?_ ?_); rfl; rfl; rfl; rfl; kernel_rfl)
    | fail)
  refine (HV.out _).mono ?_
  rintro e w8 ⟨rfl, x1⟩
  have xx := xx.trans x1
  have D3 := D3.ext x1
  have B22 := B22.ext x1
  clear x1
  have B23 := (Blk.new w8 #[.int .i64 0, .int .i64 0, .int .i64 0, .int .i64 0, .int .i64 0, .int .i64 0, .int .i64 0, .int .i64 0] 84).setRow #[.int .i64 u0, .int .i64 u1, .int .i64 u2, .int .i64 u3, .int .i64 u4, .int .i64 u5, .int .i64 u6, .int .i64 u7]
  have y1 : Ext w8 ((w8.alloc (.cells #[.int .i64 0, .int .i64 0, .int .i64 0, .int .i64 0, .int .i64 0, .int .i64 0, .int .i64 0, .int .i64 0] 84)).setRow w8.heap.size #[.int .i64 u0, .int .i64 u1, .int .i64 u2, .int .i64 u3, .int .i64 u4, .int .i64 u5, .int .i64 u6, .int .i64 u7]) := ((Ext.refl _).alloc _ _).setRow (Nat.le_refl _) _
  go_upto_region 9 with (first
    | ((with_reducible refine wpList_store_blk (op := ⟨none, .store 84 (.tmp 23) (.tmp 63), _, _, _, _⟩) ?_ 84 (.tmp 23) (.tmp 63) ?_ (w8.heap.size) ?_ (cs := #[.int .i64 u0, .int .i64 u1, .int .i64 u2, .int .i64 u3, .int .i64 u4, .int .i64 u5, .int .i64 u6, .int .i64 u7]) ?_ (z := #[.int .i64 0, .int .i64 0, .int .i64 0, .int .i64 0, .int .i64 0, .int .i64 0, .int .i64 0, .int .i64 0]) (T := 84) ?_ ?_ ?_ ?_ ?_); rfl; rfl; rfl; rfl; exact Blk.new w8 _ _; kernel_rfl; kernel_rfl; kernel_rfl)
    | fail)
  try simp only [Act.put]
  have xx := xx.trans y1
  have D3 := D3.ext y1
  have B22 := B22.ext y1
  clear y1
  generalize (w8.alloc (.cells #[.int .i64 0, .int .i64 0, .int .i64 0, .int .i64 0, .int .i64 0, .int .i64 0, .int .i64 0, .int .i64 0] 84)).setRow w8.heap.size #[.int .i64 u0, .int .i64 u1, .int .i64 u2, .int .i64 u3, .int .i64 u4, .int .i64 u5, .int .i64 u6, .int .i64 u7] = w9 at *
  generalize hbe : w8.heap.size = b23 at *
  clear hbe
  have RA := Lib.hid (B23.mid13 0 [.int .i64 u0, .int .i64 u1, .int .i64 u2, .int .i64 u3] rfl)
  have RB := Lib.hid (B23.mid13 4 [.int .i64 u4, .int .i64 u5, .int .i64 u6, .int .i64 u7] rfl)
  go_wp2_with (first
    | ((with_reducible refine wpList_load_mid (op := ⟨some 65, _, _, _, _, _⟩) ?_ 30 (.tmp 64) ?_ b23 0 ?_ [.int .i64 u0, .int .i64 u1, .int .i64 u2, .int .i64 u3] _ RA.out Try.underlying30 ?_ ?_ ?_); rfl; rfl; rfl; rfl; kernel_rfl)
    | ((with_reducible refine wpList_load_mid (op := ⟨some 67, _, _, _, _, _⟩) ?_ 30 (.tmp 66) ?_ b23 4 ?_ [.int .i64 u4, .int .i64 u5, .int .i64 u6, .int .i64 u7] _ RB.out Try.underlying30 ?_ ?_ ?_); rfl; rfl; rfl; rfl; kernel_rfl)
    | fail)
  clear RA RB B23 D4
  refine (HO.out _).mono ?_
  rintro e w10 ⟨rfl, x1⟩
  have xx := xx.trans x1
  have D3 := D3.ext x1
  have B22 := B22.ext x1
  clear x1
  have B24 := (Blk.new w10 #[.int .i64 0, .int .i64 0, .int .i64 0, .int .i64 0, .int .i64 0, .int .i64 0, .int .i64 0, .int .i64 0] 59).setRow #[.int .i64 o0, .int .i64 o1, .int .i64 o2, .int .i64 o3, .int .i64 o4, .int .i64 o5, .int .i64 o6, .int .i64 o7]
  have y1 : Ext w10 ((w10.alloc (.cells #[.int .i64 0, .int .i64 0, .int .i64 0, .int .i64 0, .int .i64 0, .int .i64 0, .int .i64 0, .int .i64 0] 59)).setRow w10.heap.size #[.int .i64 o0, .int .i64 o1, .int .i64 o2, .int .i64 o3, .int .i64 o4, .int .i64 o5, .int .i64 o6, .int .i64 o7]) := ((Ext.refl _).alloc _ _).setRow (Nat.le_refl _) _
  go_upto_region 10 with (first
    | ((with_reducible refine wpList_store_blk (op := ⟨none, .store 59 (.tmp 24) (.tmp 71), _, _, _, _⟩) ?_ 59 (.tmp 24) (.tmp 71) ?_ (w10.heap.size) ?_ (cs := #[.int .i64 o0, .int .i64 o1, .int .i64 o2, .int .i64 o3, .int .i64 o4, .int .i64 o5, .int .i64 o6, .int .i64 o7]) ?_ (z := #[.int .i64 0, .int .i64 0, .int .i64 0, .int .i64 0, .int .i64 0, .int .i64 0, .int .i64 0, .int .i64 0]) (T := 59) ?_ ?_ ?_ ?_ ?_); rfl; rfl; rfl; rfl; exact Blk.new w10 _ _; kernel_rfl; kernel_rfl; kernel_rfl)
    | fail)
  try simp only [Act.put]
  have xx := xx.trans y1
  have D3 := D3.ext y1
  have B22 := B22.ext y1
  clear y1
  generalize (w10.alloc (.cells #[.int .i64 0, .int .i64 0, .int .i64 0, .int .i64 0, .int .i64 0, .int .i64 0, .int .i64 0, .int .i64 0] 59)).setRow w10.heap.size #[.int .i64 o0, .int .i64 o1, .int .i64 o2, .int .i64 o3, .int .i64 o4, .int .i64 o5, .int .i64 o6, .int .i64 o7] = w11 at *
  generalize hbe : w10.heap.size = b24 at *
  clear hbe
  go_wp2_with (first
    | ((with_reducible refine wpList_load_blkG (op := ⟨some 75, _, _, _, _, _⟩) ?_ 55 (.tmp 12) ?_ (w.heap.size + 1 + 1 + 1) ?_ (z := _) (T := 55) D3 Try.underlying55 ?_ ?_ ?_); rfl; rfl; rfl; rfl; kernel_rfl)
    | fail)
  refine (HTC.out _).mono ?_
  rintro e w12 ⟨rfl, x1⟩
  have xx := xx.trans x1
  have D3 := D3.ext x1
  have B22 := B22.ext x1
  have B24 := B24.ext x1
  clear x1
  have c3 := D3.cell
  have c22 := B22.cell
  go_wp2_with fail
  clear c3 c22
  refine (HCOV.out _).mono ?_
  rintro e w13 ⟨rfl, x1⟩
  have xx := xx.trans x1
  have B22 := B22.ext x1
  have B24 := B24.ext x1
  clear x1
  clear D3
  have hmi := minI_fold
  have hma := maxI_fold
  have wz1 : IntKind.i64.wrap (16 * zx) = 16 * zx := by rw [IntKind.wrap_i64]; omega
  have wz2 : IntKind.i64.wrap (16 * zy) = 16 * zy := by rw [IntKind.wrap_i64]; omega
  have wz3 : IntKind.i64.wrap (16 * zx + 8) = 16 * zx + 8 := by rw [IntKind.wrap_i64]; omega
  have wz4 : IntKind.i64.wrap (16 * zy + 8) = 16 * zy + 8 := by rw [IntKind.wrap_i64]; omega
  have c22 := B22.cell
  have c24 := B24.cell
  go_wp2_with fail
  go_ret
  exact ⟨rfl, xx⟩
set_option maxRecDepth 100000 in
set_option maxHeartbeats 4000000 in
theorem raw_false_false (ca0 ca1 ca2 ca3 ca4 ca5 ca6 ca7 cb0 cb1 cb2 cb3 cb4 cb5 cb6 cb7 cc0 cc1 cc2 cc3 cc4 cc5 cc6 cc7 cull ck ax ay bx by_ cx cy d0 d1 d2 n0 n1 n2 a0 a1 a2 a3 b0 b1 b2 b3 c0 c1 c2 c3 x y zx zy v_x v_y v_z v_w v_r v_g v_b v_a d k0 k1 k2 k3 u0 u1 u2 u3 u4 u5 u6 u7 o0 o1 o2 o3 o4 o5 o6 o7  : Int) (v_f : Bool) (hck : cull.tmod 3 = ck) (hzx : minI (maxI x (-1)) 64 = zx) (hzy : minI (maxI y (-1)) 64 = zy) (bzx : -1 ≤ zx ∧ zx ≤ 64) (bzy : -1 ≤ zy ∧ zy ≤ 64) (bo3 : 256 ≤ o3) (bo2 : 0 ≤ o2 ∧ o2 ≤ 65535)
    (hM : ∀ u, Calls Try.prog 14 #[.agg #[.int .i64 ca0, .int .i64 ca1, .int .i64 ca2, .int .i64 ca3, .int .i64 ca4, .int .i64 ca5, .int .i64 ca6, .int .i64 ca7], .agg #[.int .i64 cb0, .int .i64 cb1, .int .i64 cb2, .int .i64 cb3, .int .i64 cb4, .int .i64 cb5, .int .i64 cb6, .int .i64 cb7], .agg #[.int .i64 cc0, .int .i64 cc1, .int .i64 cc2, .int .i64 cc3, .int .i64 cc4, .int .i64 cc5, .int .i64 cc6, .int .i64 cc7], .int .u8 ck] u fun e w' => e = .returned (.tuple #[.agg #[.int .i64 0, .int .i64 0, .int .i64 0, .int .i64 0, .int .i64 0, .int .i64 0, .int .i64 0, .int .i64 0, .int .i64 0, .int .i64 0, .int .i64 0, .int .i64 0, .int .i64 0, .int .i64 0, .int .i64 0, .int .i64 0, .int .i64 0, .int .i64 0, .int .i64 0, .int .i64 0, .int .i64 0, .int .i64 0, .int .i64 0, .int .i64 0], .bool false]) ∧ Ext u w')
    
    (hA : ∀ u, Calls Try.prog 19 #[.agg #[.int .i64 ax, .int .i64 ay, .int .i64 bx, .int .i64 by_, .int .i64 cx, .int .i64 cy, .int .i64 d0, .int .i64 d1, .int .i64 d2, .int .i64 n0, .int .i64 n1, .int .i64 n2, .int .i64 a0, .int .i64 a1, .int .i64 a2, .int .i64 a3, .int .i64 b0, .int .i64 b1, .int .i64 b2, .int .i64 b3, .int .i64 c0, .int .i64 c1, .int .i64 c2, .int .i64 c3], .int .i64 x, .int .i64 y] u fun e w' => e = .returned (.tuple #[.int .i64 d, .agg #[.int .i64 k0, .int .i64 k1, .int .i64 k2, .int .i64 k3], .bool false]) ∧ Ext u w') (hMid : ∀ u, Calls Try.prog 21 #[.int .i64 x, .int .i64 y] u fun e w' => e = .returned (.agg #[.int .i64 (16 * zx + 8), .int .i64 (16 * zy + 8)]) ∧ Ext u w')
    (hV : ∀ u, Calls Try.prog 22 #[.agg #[.int .i16 v_x, .int .i16 v_y, .int .i16 v_z, .int .i16 v_w, .int .u8 v_r, .int .u8 v_g, .int .u8 v_b, .int .u8 v_a, .bool v_f]] u fun e w' => e = .returned (.agg #[.int .i64 u0, .int .i64 u1, .int .i64 u2, .int .i64 u3, .int .i64 u4, .int .i64 u5, .int .i64 u6, .int .i64 u7]) ∧ Ext u w') (hO : ∀ u, Calls Try.prog 15 #[.agg #[.int .i64 u0, .int .i64 u1, .int .i64 u2, .int .i64 u3, .int .i64 u4, .int .i64 u5, .int .i64 u6, .int .i64 u7], .int .i64 x, .int .i64 y] u fun e w' => e = .returned (.agg #[.int .i64 o0, .int .i64 o1, .int .i64 o2, .int .i64 o3, .int .i64 o4, .int .i64 o5, .int .i64 o6, .int .i64 o7]) ∧ Ext u w')
     (w : World) :
    Calls Try.prog 7 #[.agg #[.int .i64 ca0, .int .i64 ca1, .int .i64 ca2, .int .i64 ca3, .int .i64 ca4, .int .i64 ca5, .int .i64 ca6, .int .i64 ca7], .agg #[.int .i64 cb0, .int .i64 cb1, .int .i64 cb2, .int .i64 cb3, .int .i64 cb4, .int .i64 cb5, .int .i64 cb6, .int .i64 cb7], .agg #[.int .i64 cc0, .int .i64 cc1, .int .i64 cc2, .int .i64 cc3, .int .i64 cc4, .int .i64 cc5, .int .i64 cc6, .int .i64 cc7], .int .u8 cull, .agg #[.int .i64 ax, .int .i64 ay, .int .i64 bx, .int .i64 by_, .int .i64 cx, .int .i64 cy, .int .i64 d0, .int .i64 d1, .int .i64 d2, .int .i64 n0, .int .i64 n1, .int .i64 n2, .int .i64 a0, .int .i64 a1, .int .i64 a2, .int .i64 a3, .int .i64 b0, .int .i64 b1, .int .i64 b2, .int .i64 b3, .int .i64 c0, .int .i64 c1, .int .i64 c2, .int .i64 c3], .int .i64 x, .int .i64 y, .agg #[.int .i16 v_x, .int .i16 v_y, .int .i16 v_z, .int .i16 v_w, .int .u8 v_r, .int .u8 v_g, .int .u8 v_b, .int .u8 v_a, .bool v_f]] w fun e w' => e = .returned (.bool true) ∧ Ext w w' := by
  have HM := Lib.hid hM
  have HA := Lib.hid hA
  have HMID := Lib.hid hMid
  have HV := Lib.hid hV
  have HO := Lib.hid hO
  clear hM hA hMid hV hO
  have xx : Ext w (((((w.alloc (.cells #[.int .i64 ca0, .int .i64 ca1, .int .i64 ca2, .int .i64 ca3, .int .i64 ca4, .int .i64 ca5, .int .i64 ca6, .int .i64 ca7] 59)).alloc (.cells #[.int .i64 cb0, .int .i64 cb1, .int .i64 cb2, .int .i64 cb3, .int .i64 cb4, .int .i64 cb5, .int .i64 cb6, .int .i64 cb7] 59)).alloc (.cells #[.int .i64 cc0, .int .i64 cc1, .int .i64 cc2, .int .i64 cc3, .int .i64 cc4, .int .i64 cc5, .int .i64 cc6, .int .i64 cc7] 59)).alloc (.cells #[.int .i64 ax, .int .i64 ay, .int .i64 bx, .int .i64 by_, .int .i64 cx, .int .i64 cy, .int .i64 d0, .int .i64 d1, .int .i64 d2, .int .i64 n0, .int .i64 n1, .int .i64 n2, .int .i64 a0, .int .i64 a1, .int .i64 a2, .int .i64 a3, .int .i64 b0, .int .i64 b1, .int .i64 b2, .int .i64 b3, .int .i64 c0, .int .i64 c1, .int .i64 c2, .int .i64 c3] 55)).alloc (.cells #[.int .i16 v_x, .int .i16 v_y, .int .i16 v_z, .int .i16 v_w, .int .u8 v_r, .int .u8 v_g, .int .u8 v_b, .int .u8 v_a, .bool v_f] 25)) := ((((((Ext.refl w).alloc _ _).alloc _ _).alloc _ _).alloc _ _).alloc _ _)
  have D0 := (((((Blk.new w #[.int .i64 ca0, .int .i64 ca1, .int .i64 ca2, .int .i64 ca3, .int .i64 ca4, .int .i64 ca5, .int .i64 ca6, .int .i64 ca7] 59).alloc (.cells #[.int .i64 cb0, .int .i64 cb1, .int .i64 cb2, .int .i64 cb3, .int .i64 cb4, .int .i64 cb5, .int .i64 cb6, .int .i64 cb7] 59)).alloc (.cells #[.int .i64 cc0, .int .i64 cc1, .int .i64 cc2, .int .i64 cc3, .int .i64 cc4, .int .i64 cc5, .int .i64 cc6, .int .i64 cc7] 59)).alloc (.cells #[.int .i64 ax, .int .i64 ay, .int .i64 bx, .int .i64 by_, .int .i64 cx, .int .i64 cy, .int .i64 d0, .int .i64 d1, .int .i64 d2, .int .i64 n0, .int .i64 n1, .int .i64 n2, .int .i64 a0, .int .i64 a1, .int .i64 a2, .int .i64 a3, .int .i64 b0, .int .i64 b1, .int .i64 b2, .int .i64 b3, .int .i64 c0, .int .i64 c1, .int .i64 c2, .int .i64 c3] 55)).alloc (.cells #[.int .i16 v_x, .int .i16 v_y, .int .i16 v_z, .int .i16 v_w, .int .u8 v_r, .int .u8 v_g, .int .u8 v_b, .int .u8 v_a, .bool v_f] 25))
  have D1 := ((((Blk.new (w.alloc (.cells #[.int .i64 ca0, .int .i64 ca1, .int .i64 ca2, .int .i64 ca3, .int .i64 ca4, .int .i64 ca5, .int .i64 ca6, .int .i64 ca7] 59)) #[.int .i64 cb0, .int .i64 cb1, .int .i64 cb2, .int .i64 cb3, .int .i64 cb4, .int .i64 cb5, .int .i64 cb6, .int .i64 cb7] 59).alloc (.cells #[.int .i64 cc0, .int .i64 cc1, .int .i64 cc2, .int .i64 cc3, .int .i64 cc4, .int .i64 cc5, .int .i64 cc6, .int .i64 cc7] 59)).alloc (.cells #[.int .i64 ax, .int .i64 ay, .int .i64 bx, .int .i64 by_, .int .i64 cx, .int .i64 cy, .int .i64 d0, .int .i64 d1, .int .i64 d2, .int .i64 n0, .int .i64 n1, .int .i64 n2, .int .i64 a0, .int .i64 a1, .int .i64 a2, .int .i64 a3, .int .i64 b0, .int .i64 b1, .int .i64 b2, .int .i64 b3, .int .i64 c0, .int .i64 c1, .int .i64 c2, .int .i64 c3] 55)).alloc (.cells #[.int .i16 v_x, .int .i16 v_y, .int .i16 v_z, .int .i16 v_w, .int .u8 v_r, .int .u8 v_g, .int .u8 v_b, .int .u8 v_a, .bool v_f] 25))
  have D2 := (((Blk.new ((w.alloc (.cells #[.int .i64 ca0, .int .i64 ca1, .int .i64 ca2, .int .i64 ca3, .int .i64 ca4, .int .i64 ca5, .int .i64 ca6, .int .i64 ca7] 59)).alloc (.cells #[.int .i64 cb0, .int .i64 cb1, .int .i64 cb2, .int .i64 cb3, .int .i64 cb4, .int .i64 cb5, .int .i64 cb6, .int .i64 cb7] 59)) #[.int .i64 cc0, .int .i64 cc1, .int .i64 cc2, .int .i64 cc3, .int .i64 cc4, .int .i64 cc5, .int .i64 cc6, .int .i64 cc7] 59).alloc (.cells #[.int .i64 ax, .int .i64 ay, .int .i64 bx, .int .i64 by_, .int .i64 cx, .int .i64 cy, .int .i64 d0, .int .i64 d1, .int .i64 d2, .int .i64 n0, .int .i64 n1, .int .i64 n2, .int .i64 a0, .int .i64 a1, .int .i64 a2, .int .i64 a3, .int .i64 b0, .int .i64 b1, .int .i64 b2, .int .i64 b3, .int .i64 c0, .int .i64 c1, .int .i64 c2, .int .i64 c3] 55)).alloc (.cells #[.int .i16 v_x, .int .i16 v_y, .int .i16 v_z, .int .i16 v_w, .int .u8 v_r, .int .u8 v_g, .int .u8 v_b, .int .u8 v_a, .bool v_f] 25))
  have D3 := ((Blk.new (((w.alloc (.cells #[.int .i64 ca0, .int .i64 ca1, .int .i64 ca2, .int .i64 ca3, .int .i64 ca4, .int .i64 ca5, .int .i64 ca6, .int .i64 ca7] 59)).alloc (.cells #[.int .i64 cb0, .int .i64 cb1, .int .i64 cb2, .int .i64 cb3, .int .i64 cb4, .int .i64 cb5, .int .i64 cb6, .int .i64 cb7] 59)).alloc (.cells #[.int .i64 cc0, .int .i64 cc1, .int .i64 cc2, .int .i64 cc3, .int .i64 cc4, .int .i64 cc5, .int .i64 cc6, .int .i64 cc7] 59)) #[.int .i64 ax, .int .i64 ay, .int .i64 bx, .int .i64 by_, .int .i64 cx, .int .i64 cy, .int .i64 d0, .int .i64 d1, .int .i64 d2, .int .i64 n0, .int .i64 n1, .int .i64 n2, .int .i64 a0, .int .i64 a1, .int .i64 a2, .int .i64 a3, .int .i64 b0, .int .i64 b1, .int .i64 b2, .int .i64 b3, .int .i64 c0, .int .i64 c1, .int .i64 c2, .int .i64 c3] 55).alloc (.cells #[.int .i16 v_x, .int .i16 v_y, .int .i16 v_z, .int .i16 v_w, .int .u8 v_r, .int .u8 v_g, .int .u8 v_b, .int .u8 v_a, .bool v_f] 25))
  have D4 := (Blk.new ((((w.alloc (.cells #[.int .i64 ca0, .int .i64 ca1, .int .i64 ca2, .int .i64 ca3, .int .i64 ca4, .int .i64 ca5, .int .i64 ca6, .int .i64 ca7] 59)).alloc (.cells #[.int .i64 cb0, .int .i64 cb1, .int .i64 cb2, .int .i64 cb3, .int .i64 cb4, .int .i64 cb5, .int .i64 cb6, .int .i64 cb7] 59)).alloc (.cells #[.int .i64 cc0, .int .i64 cc1, .int .i64 cc2, .int .i64 cc3, .int .i64 cc4, .int .i64 cc5, .int .i64 cc6, .int .i64 cc7] 59)).alloc (.cells #[.int .i64 ax, .int .i64 ay, .int .i64 bx, .int .i64 by_, .int .i64 cx, .int .i64 cy, .int .i64 d0, .int .i64 d1, .int .i64 d2, .int .i64 n0, .int .i64 n1, .int .i64 n2, .int .i64 a0, .int .i64 a1, .int .i64 a2, .int .i64 a3, .int .i64 b0, .int .i64 b1, .int .i64 b2, .int .i64 b3, .int .i64 c0, .int .i64 c1, .int .i64 c2, .int .i64 c3] 55)) #[.int .i16 v_x, .int .i16 v_y, .int .i16 v_z, .int .i16 v_w, .int .u8 v_r, .int .u8 v_g, .int .u8 v_b, .int .u8 v_a, .bool v_f] 25)
  go_enter Try.func7, Try.ntmps7
  go_upto_region 1 with fail
  simp only [World.size_alloc] at D1 D2 D3 D4
  generalize (((((w.alloc (.cells #[.int .i64 ca0, .int .i64 ca1, .int .i64 ca2, .int .i64 ca3, .int .i64 ca4, .int .i64 ca5, .int .i64 ca6, .int .i64 ca7] 59)).alloc (.cells #[.int .i64 cb0, .int .i64 cb1, .int .i64 cb2, .int .i64 cb3, .int .i64 cb4, .int .i64 cb5, .int .i64 cb6, .int .i64 cb7] 59)).alloc (.cells #[.int .i64 cc0, .int .i64 cc1, .int .i64 cc2, .int .i64 cc3, .int .i64 cc4, .int .i64 cc5, .int .i64 cc6, .int .i64 cc7] 59)).alloc (.cells #[.int .i64 ax, .int .i64 ay, .int .i64 bx, .int .i64 by_, .int .i64 cx, .int .i64 cy, .int .i64 d0, .int .i64 d1, .int .i64 d2, .int .i64 n0, .int .i64 n1, .int .i64 n2, .int .i64 a0, .int .i64 a1, .int .i64 a2, .int .i64 a3, .int .i64 b0, .int .i64 b1, .int .i64 b2, .int .i64 b3, .int .i64 c0, .int .i64 c1, .int .i64 c2, .int .i64 c3] 55)).alloc (.cells #[.int .i16 v_x, .int .i16 v_y, .int .i16 v_z, .int .i16 v_w, .int .u8 v_r, .int .u8 v_g, .int .u8 v_b, .int .u8 v_a, .bool v_f] 25)) = w0 at *
  go_wp2_with fail
  refine (awake13_any _).mono ?_
  rintro e w1 ⟨rfl, x1⟩
  have xx := xx.trans x1
  have D0 := D0.ext x1
  have D1 := D1.ext x1
  have D2 := D2.ext x1
  have D3 := D3.ext x1
  have D4 := D4.ext x1
  clear x1
  go_wp2_with (first
    | ((with_reducible refine wpList_load_blk (op := ⟨some 28, _, _, _, _, _⟩) ?_ 59 (.tmp 8) ?_ (w.heap.size) ?_ (z := _) (T := 59) D0 Try.underlying59 ?_ ?_ ?_); rfl; rfl; rfl; rfl; kernel_rfl)
    | ((with_reducible refine wpList_load_blk (op := ⟨some 29, _, _, _, _, _⟩) ?_ 59 (.tmp 9) ?_ (w.heap.size + 1) ?_ (z := _) (T := 59) D1 Try.underlying59 ?_ ?_ ?_); rfl; rfl; rfl; rfl; kernel_rfl)
    | ((with_reducible refine wpList_load_blk (op := ⟨some 30, _, _, _, _, _⟩) ?_ 59 (.tmp 10) ?_ (w.heap.size + 1 + 1) ?_ (z := _) (T := 59) D2 Try.underlying59 ?_ ?_ ?_); rfl; rfl; rfl; rfl; kernel_rfl)
    | fail)
  clear D0 D1 D2
  refine (HM.out _).mono ?_
  rintro e w2 ⟨rfl, x1⟩
  have xx := xx.trans x1
  have D3 := D3.ext x1
  have D4 := D4.ext x1
  clear x1
  have B17 := (Blk.new w2 #[.int .i64 0, .int .i64 0, .int .i64 0, .int .i64 0, .int .i64 0, .int .i64 0, .int .i64 0, .int .i64 0, .int .i64 0, .int .i64 0, .int .i64 0, .int .i64 0, .int .i64 0, .int .i64 0, .int .i64 0, .int .i64 0, .int .i64 0, .int .i64 0, .int .i64 0, .int .i64 0, .int .i64 0, .int .i64 0, .int .i64 0, .int .i64 0] 55).setRow #[.int .i64 0, .int .i64 0, .int .i64 0, .int .i64 0, .int .i64 0, .int .i64 0, .int .i64 0, .int .i64 0, .int .i64 0, .int .i64 0, .int .i64 0, .int .i64 0, .int .i64 0, .int .i64 0, .int .i64 0, .int .i64 0, .int .i64 0, .int .i64 0, .int .i64 0, .int .i64 0, .int .i64 0, .int .i64 0, .int .i64 0, .int .i64 0]
  have y1 : Ext w2 ((w2.alloc (.cells #[.int .i64 0, .int .i64 0, .int .i64 0, .int .i64 0, .int .i64 0, .int .i64 0, .int .i64 0, .int .i64 0, .int .i64 0, .int .i64 0, .int .i64 0, .int .i64 0, .int .i64 0, .int .i64 0, .int .i64 0, .int .i64 0, .int .i64 0, .int .i64 0, .int .i64 0, .int .i64 0, .int .i64 0, .int .i64 0, .int .i64 0, .int .i64 0] 55)).setRow w2.heap.size #[.int .i64 0, .int .i64 0, .int .i64 0, .int .i64 0, .int .i64 0, .int .i64 0, .int .i64 0, .int .i64 0, .int .i64 0, .int .i64 0, .int .i64 0, .int .i64 0, .int .i64 0, .int .i64 0, .int .i64 0, .int .i64 0, .int .i64 0, .int .i64 0, .int .i64 0, .int .i64 0, .int .i64 0, .int .i64 0, .int .i64 0, .int .i64 0]) := ((Ext.refl _).alloc _ _).setRow (Nat.le_refl _) _
  go_upto_region 4 with (first
    | ((with_reducible refine wpList_store_blk (op := ⟨none, .store 55 (.tmp 17) (.tmp 34), _, _, _, _⟩) ?_ 55 (.tmp 17) (.tmp 34) ?_ (w2.heap.size) ?_ (cs := #[.int .i64 0, .int .i64 0, .int .i64 0, .int .i64 0, .int .i64 0, .int .i64 0, .int .i64 0, .int .i64 0, .int .i64 0, .int .i64 0, .int .i64 0, .int .i64 0, .int .i64 0, .int .i64 0, .int .i64 0, .int .i64 0, .int .i64 0, .int .i64 0, .int .i64 0, .int .i64 0, .int .i64 0, .int .i64 0, .int .i64 0, .int .i64 0]) ?_ (z := #[.int .i64 0, .int .i64 0, .int .i64 0, .int .i64 0, .int .i64 0, .int .i64 0, .int .i64 0, .int .i64 0, .int .i64 0, .int .i64 0, .int .i64 0, .int .i64 0, .int .i64 0, .int .i64 0, .int .i64 0, .int .i64 0, .int .i64 0, .int .i64 0, .int .i64 0, .int .i64 0, .int .i64 0, .int .i64 0, .int .i64 0, .int .i64 0]) (T := 55) ?_ ?_ ?_ ?_ ?_); rfl; rfl; rfl; rfl; exact Blk.new w2 _ _; kernel_rfl; kernel_rfl; kernel_rfl)
    | fail)
  try simp only [Act.put]
  have xx := xx.trans y1
  have D3 := D3.ext y1
  have D4 := D4.ext y1
  clear y1
  generalize (w2.alloc (.cells #[.int .i64 0, .int .i64 0, .int .i64 0, .int .i64 0, .int .i64 0, .int .i64 0, .int .i64 0, .int .i64 0, .int .i64 0, .int .i64 0, .int .i64 0, .int .i64 0, .int .i64 0, .int .i64 0, .int .i64 0, .int .i64 0, .int .i64 0, .int .i64 0, .int .i64 0, .int .i64 0, .int .i64 0, .int .i64 0, .int .i64 0, .int .i64 0] 55)).setRow w2.heap.size #[.int .i64 0, .int .i64 0, .int .i64 0, .int .i64 0, .int .i64 0, .int .i64 0, .int .i64 0, .int .i64 0, .int .i64 0, .int .i64 0, .int .i64 0, .int .i64 0, .int .i64 0, .int .i64 0, .int .i64 0, .int .i64 0, .int .i64 0, .int .i64 0, .int .i64 0, .int .i64 0, .int .i64 0, .int .i64 0, .int .i64 0, .int .i64 0] = w3 at *
  generalize hbe : w2.heap.size = b17 at *
  clear hbe
  have hq := eqT55 0 0 0 0 0 0 0 0 0 0 0 0 0 0 0 0 0 0 0 0 0 0 0 0
  go_upto_region 6 with (first
    | ((with_reducible refine wpList_load_blkG (op := ⟨some 46, _, _, _, _, _⟩) ?_ 55 (.tmp 17) ?_ b17 ?_ (z := _) (T := 55) B17 Try.underlying55 ?_ ?_ ?_); rfl; rfl; rfl; rfl; kernel_rfl)
    | ((with_reducible refine wpList_build13G (o := ⟨some 47, _, _, _, _, _⟩) ?_ 55 #[] ?_ #[.int .i64 0, .int .i64 0, .int .i64 0, .int .i64 0, .int .i64 0, .int .i64 0, .int .i64 0, .int .i64 0, .int .i64 0, .int .i64 0, .int .i64 0, .int .i64 0, .int .i64 0, .int .i64 0, .int .i64 0, .int .i64 0, .int .i64 0, .int .i64 0, .int .i64 0, .int .i64 0, .int .i64 0, .int .i64 0, .int .i64 0, .int .i64 0] ?_ ?_); rfl; rfl; kernel_rfl)
    | fail)
  clear B17 hq
  go_wp2_with (first
    | ((with_reducible refine wpList_load_blk (op := ⟨some 52, _, _, _, _, _⟩) ?_ 55 (.tmp 12) ?_ (w.heap.size + 1 + 1 + 1) ?_ (z := _) (T := 55) D3 Try.underlying55 ?_ ?_ ?_); rfl; rfl; rfl; rfl; kernel_rfl)
    | fail)
  refine (HA.out _).mono ?_
  rintro e w4 ⟨rfl, x1⟩
  have xx := xx.trans x1
  have D3 := D3.ext x1
  have D4 := D4.ext x1
  clear x1
  have B20 := (Blk.new w4 #[.int .i64 0, .int .i64 0, .int .i64 0, .int .i64 0] 30).setRow #[.int .i64 k0, .int .i64 k1, .int .i64 k2, .int .i64 k3]
  have y1 : Ext w4 ((w4.alloc (.cells #[.int .i64 0, .int .i64 0, .int .i64 0, .int .i64 0] 30)).setRow w4.heap.size #[.int .i64 k0, .int .i64 k1, .int .i64 k2, .int .i64 k3]) := ((Ext.refl _).alloc _ _).setRow (Nat.le_refl _) _
  go_upto_region 7 with (first
    | ((with_reducible refine wpList_store_blk (op := ⟨none, .store 30 (.tmp 20) (.tmp 57), _, _, _, _⟩) ?_ 30 (.tmp 20) (.tmp 57) ?_ (w4.heap.size) ?_ (cs := #[.int .i64 k0, .int .i64 k1, .int .i64 k2, .int .i64 k3]) ?_ (z := #[.int .i64 0, .int .i64 0, .int .i64 0, .int .i64 0]) (T := 30) ?_ ?_ ?_ ?_ ?_); rfl; rfl; rfl; rfl; exact Blk.new w4 _ _; kernel_rfl; kernel_rfl; kernel_rfl)
    | fail)
  try simp only [Act.put]
  have xx := xx.trans y1
  have D3 := D3.ext y1
  have D4 := D4.ext y1
  clear y1
  generalize (w4.alloc (.cells #[.int .i64 0, .int .i64 0, .int .i64 0, .int .i64 0] 30)).setRow w4.heap.size #[.int .i64 k0, .int .i64 k1, .int .i64 k2, .int .i64 k3] = w5 at *
  generalize hbe : w4.heap.size = b20 at *
  clear hbe
  clear B20
  go_wp2_with fail
  refine (HMID.out _).mono ?_
  rintro e w6 ⟨rfl, x1⟩
  have xx := xx.trans x1
  have D3 := D3.ext x1
  have D4 := D4.ext x1
  clear x1
  have B22 := (Blk.new w6 #[.int .i64 0, .int .i64 0] 50).setRow #[.int .i64 (16 * zx + 8), .int .i64 (16 * zy + 8)]
  have y1 : Ext w6 ((w6.alloc (.cells #[.int .i64 0, .int .i64 0] 50)).setRow w6.heap.size #[.int .i64 (16 * zx + 8), .int .i64 (16 * zy + 8)]) := ((Ext.refl _).alloc _ _).setRow (Nat.le_refl _) _
  go_upto_region 8 with (first
    | ((with_reducible refine wpList_store_blk (op := ⟨none, .store 50 (.tmp 22) (.tmp 61), _, _, _, _⟩) ?_ 50 (.tmp 22) (.tmp 61) ?_ (w6.heap.size) ?_ (cs := #[.int .i64 (16 * zx + 8), .int .i64 (16 * zy + 8)]) ?_ (z := #[.int .i64 0, .int .i64 0]) (T := 50) ?_ ?_ ?_ ?_ ?_); rfl; rfl; rfl; rfl; exact Blk.new w6 _ _; kernel_rfl; kernel_rfl; kernel_rfl)
    | fail)
  try simp only [Act.put]
  have xx := xx.trans y1
  have D3 := D3.ext y1
  have D4 := D4.ext y1
  clear y1
  generalize (w6.alloc (.cells #[.int .i64 0, .int .i64 0] 50)).setRow w6.heap.size #[.int .i64 (16 * zx + 8), .int .i64 (16 * zy + 8)] = w7 at *
  generalize hbe : w6.heap.size = b22 at *
  clear hbe
  go_wp2_with (first
    | ((with_reducible refine wpList_load_blk (op := ⟨some 62, _, _, _, _, _⟩) ?_ 25 (.tmp 15) ?_ (w.heap.size + 1 + 1 + 1 + 1) ?_ (z := _) (T := 25) D4 Try.underlying25 ?_ ?_ ?_); rfl; rfl; rfl; rfl; kernel_rfl)
    | fail)
  refine (HV.out _).mono ?_
  rintro e w8 ⟨rfl, x1⟩
  have xx := xx.trans x1
  have D3 := D3.ext x1
  have B22 := B22.ext x1
  clear x1
  have B23 := (Blk.new w8 #[.int .i64 0, .int .i64 0, .int .i64 0, .int .i64 0, .int .i64 0, .int .i64 0, .int .i64 0, .int .i64 0] 84).setRow #[.int .i64 u0, .int .i64 u1, .int .i64 u2, .int .i64 u3, .int .i64 u4, .int .i64 u5, .int .i64 u6, .int .i64 u7]
  have y1 : Ext w8 ((w8.alloc (.cells #[.int .i64 0, .int .i64 0, .int .i64 0, .int .i64 0, .int .i64 0, .int .i64 0, .int .i64 0, .int .i64 0] 84)).setRow w8.heap.size #[.int .i64 u0, .int .i64 u1, .int .i64 u2, .int .i64 u3, .int .i64 u4, .int .i64 u5, .int .i64 u6, .int .i64 u7]) := ((Ext.refl _).alloc _ _).setRow (Nat.le_refl _) _
  go_upto_region 9 with (first
    | ((with_reducible refine wpList_store_blk (op := ⟨none, .store 84 (.tmp 23) (.tmp 63), _, _, _, _⟩) ?_ 84 (.tmp 23) (.tmp 63) ?_ (w8.heap.size) ?_ (cs := #[.int .i64 u0, .int .i64 u1, .int .i64 u2, .int .i64 u3, .int .i64 u4, .int .i64 u5, .int .i64 u6, .int .i64 u7]) ?_ (z := #[.int .i64 0, .int .i64 0, .int .i64 0, .int .i64 0, .int .i64 0, .int .i64 0, .int .i64 0, .int .i64 0]) (T := 84) ?_ ?_ ?_ ?_ ?_); rfl; rfl; rfl; rfl; exact Blk.new w8 _ _; kernel_rfl; kernel_rfl; kernel_rfl)
    | fail)
  try simp only [Act.put]
  have xx := xx.trans y1
  have D3 := D3.ext y1
  have B22 := B22.ext y1
  clear y1
  generalize (w8.alloc (.cells #[.int .i64 0, .int .i64 0, .int .i64 0, .int .i64 0, .int .i64 0, .int .i64 0, .int .i64 0, .int .i64 0] 84)).setRow w8.heap.size #[.int .i64 u0, .int .i64 u1, .int .i64 u2, .int .i64 u3, .int .i64 u4, .int .i64 u5, .int .i64 u6, .int .i64 u7] = w9 at *
  generalize hbe : w8.heap.size = b23 at *
  clear hbe
  have RA := Lib.hid (B23.mid13 0 [.int .i64 u0, .int .i64 u1, .int .i64 u2, .int .i64 u3] rfl)
  have RB := Lib.hid (B23.mid13 4 [.int .i64 u4, .int .i64 u5, .int .i64 u6, .int .i64 u7] rfl)
  go_wp2_with (first
    | ((with_reducible refine wpList_load_mid (op := ⟨some 65, _, _, _, _, _⟩) ?_ 30 (.tmp 64) ?_ b23 0 ?_ [.int .i64 u0, .int .i64 u1, .int .i64 u2, .int .i64 u3] _ RA.out Try.underlying30 ?_ ?_ ?_); rfl; rfl; rfl; rfl; kernel_rfl)
    | ((with_reducible refine wpList_load_mid (op := ⟨some 67, _, _, _, _, _⟩) ?_ 30 (.tmp 66) ?_ b23 4 ?_ [.int .i64 u4, .int .i64 u5, .int .i64 u6, .int .i64 u7] _ RB.out Try.underlying30 ?_ ?_ ?_); rfl; rfl; rfl; rfl; kernel_rfl)
    | fail)
  clear RA RB B23 D4
  refine (HO.out _).mono ?_
  rintro e w10 ⟨rfl, x1⟩
  have xx := xx.trans x1
  have D3 := D3.ext x1
  have B22 := B22.ext x1
  clear x1
  have B24 := (Blk.new w10 #[.int .i64 0, .int .i64 0, .int .i64 0, .int .i64 0, .int .i64 0, .int .i64 0, .int .i64 0, .int .i64 0] 59).setRow #[.int .i64 o0, .int .i64 o1, .int .i64 o2, .int .i64 o3, .int .i64 o4, .int .i64 o5, .int .i64 o6, .int .i64 o7]
  have y1 : Ext w10 ((w10.alloc (.cells #[.int .i64 0, .int .i64 0, .int .i64 0, .int .i64 0, .int .i64 0, .int .i64 0, .int .i64 0, .int .i64 0] 59)).setRow w10.heap.size #[.int .i64 o0, .int .i64 o1, .int .i64 o2, .int .i64 o3, .int .i64 o4, .int .i64 o5, .int .i64 o6, .int .i64 o7]) := ((Ext.refl _).alloc _ _).setRow (Nat.le_refl _) _
  go_upto_region 10 with (first
    | ((with_reducible refine wpList_store_blk (op := ⟨none, .store 59 (.tmp 24) (.tmp 71), _, _, _, _⟩) ?_ 59 (.tmp 24) (.tmp 71) ?_ (w10.heap.size) ?_ (cs := #[.int .i64 o0, .int .i64 o1, .int .i64 o2, .int .i64 o3, .int .i64 o4, .int .i64 o5, .int .i64 o6, .int .i64 o7]) ?_ (z := #[.int .i64 0, .int .i64 0, .int .i64 0, .int .i64 0, .int .i64 0, .int .i64 0, .int .i64 0, .int .i64 0]) (T := 59) ?_ ?_ ?_ ?_ ?_); rfl; rfl; rfl; rfl; exact Blk.new w10 _ _; kernel_rfl; kernel_rfl; kernel_rfl)
    | fail)
  try simp only [Act.put]
  have xx := xx.trans y1
  have D3 := D3.ext y1
  have B22 := B22.ext y1
  clear y1
  generalize (w10.alloc (.cells #[.int .i64 0, .int .i64 0, .int .i64 0, .int .i64 0, .int .i64 0, .int .i64 0, .int .i64 0, .int .i64 0] 59)).setRow w10.heap.size #[.int .i64 o0, .int .i64 o1, .int .i64 o2, .int .i64 o3, .int .i64 o4, .int .i64 o5, .int .i64 o6, .int .i64 o7] = w11 at *
  generalize hbe : w10.heap.size = b24 at *
  clear hbe
  clear D3
  have hmi := minI_fold
  have hma := maxI_fold
  have wz1 : IntKind.i64.wrap (16 * zx) = 16 * zx := by rw [IntKind.wrap_i64]; omega
  have wz2 : IntKind.i64.wrap (16 * zy) = 16 * zy := by rw [IntKind.wrap_i64]; omega
  have wz3 : IntKind.i64.wrap (16 * zx + 8) = 16 * zx + 8 := by rw [IntKind.wrap_i64]; omega
  have wz4 : IntKind.i64.wrap (16 * zy + 8) = 16 * zy + 8 := by rw [IntKind.wrap_i64]; omega
  have c22 := B22.cell
  have c24 := B24.cell
  go_wp2_with fail
  go_ret
  exact ⟨rfl, xx⟩
end Go.Proofs.Ytglehnmkdapnpaa

namespace Go.Proofs.Ytglehnmkdapnpaa
open Go.RowKit
set_option linter.unusedVariables false
theorem mid_eq (x : Int) : midI x = 16 * minI (maxI x (-1)) 64 + 8 := by
  rw [minI_eq, maxI_eq]
  unfold midI bdI
  omega
theorem mid_bd (x : Int) : -1 ≤ minI (maxI x (-1)) 64 ∧ minI (maxI x (-1)) 64 ≤ 64 := by
  rw [minI_eq, maxI_eq]
  omega
set_option maxRecDepth 100000 in
theorem setupRaw_row (a b c : Cn) (k : Int) (t : Tr) (x y : Int) (v : VSm) (ha : a.in64) (hb : b.in64) (hc : c.in64) (hk : 0 ≤ k ∧ k ≤ 255) (ht : t.in64) (hx : I64 x) (hy : I64 y) (hv : v.ok) (w : World) :
    Calls Try.prog 7 #[.agg a.l.toArray, .agg b.l.toArray, .agg c.l.toArray, .int .u8 k, .agg t.l.toArray, .int .i64 x, .int .i64 y, .agg v.l.toArray] w fun e w' => e = .returned (.bool true) ∧ Ext w w' := by
  have bk := tm_bd (m := 3) hk.1 (by omega)
  have hM := fun u => smake_any a b c ha hb hc (k.tmod 3) ⟨bk.1, by omega⟩ u
  have hMid := fun u => middle_any x y hx hy u
  rw [mid_eq x, mid_eq y] at hMid
  have hV := fun u => vertex11_any v hv u
  have hO := fun u => sof_any (vxF v) (vx_fine hv).in64 x y hx hy u
  have hA := fun u => atT_any t ht x y hx hy u
  have bo3 : 256 ≤ (ofF (vxF v) x y).f := by unfold ofF; dsimp only; omega
  have bo2 : 0 ≤ (ofF (vxF v) x y).d ∧ (ofF (vxF v) x y).d ≤ 65535 := bdI_bd _ (by omega)
  have bx := mid_bd x
  have by9 := mid_bd y
  by_cases hi : chkT t = 0 ∧ t.cov (midI x) (midI y) = true
  · have e : atF t x y = ⟨t.dAt (midI x) (midI y), (t.cAt (midI x) (midI y) t.a0 t.b0 t.c0), (t.cAt (midI x) (midI y) t.a1 t.b1 t.c1), (t.cAt (midI x) (midI y) t.a2 t.b2 t.c2), (t.cAt (midI x) (midI y) t.a3 t.b3 t.c3), true⟩ := by
      unfold atF
      rw [if_pos hi]
    rw [e] at hA
    have hTC := fun u => checkT_any t ht u
    rw [hi.1] at hTC
    have i1 : -9223372036854775808 ≤ 16 * (minI (maxI x (-1)) 64) + 8 ∧ 16 * (minI (maxI x (-1)) 64) + 8 ≤ 9223372036854775807 := by omega
    have i2 : -9223372036854775808 ≤ 16 * (minI (maxI y (-1)) 64) + 8 ∧ 16 * (minI (maxI y (-1)) 64) + 8 ≤ 9223372036854775807 := by omega
    obtain ⟨t0, t1, t2, t3, t4, t5, -⟩ := ht
    have hCov := fun u => covers_any t.ax t.ay t.bx t.by' t.cx t.cy (16 * (minI (maxI x (-1)) 64) + 8) (16 * (minI (maxI y (-1)) 64) + 8) t0 t1 t2 t3 t4 t5 i1 i2 u
    have hcv : covB t.ax t.ay t.bx t.by' t.cx t.cy (16 * (minI (maxI x (-1)) 64) + 8) (16 * (minI (maxI y (-1)) 64) + 8) = true := by
      rw [← mid_eq x, ← mid_eq y]
      exact hi.2
    rw [hcv] at hCov
    cases hm : makeF a b c (k.tmod 3) with
    | none =>
      rw [hm] at hM
      exact raw_false_true a.x a.y a.d a.f a.c0 a.c1 a.c2 a.c3 b.x b.y b.d b.f b.c0 b.c1 b.c2 b.c3 c.x c.y c.d c.f c.c0 c.c1 c.c2 c.c3 k (k.tmod 3) t.ax t.ay t.bx t.by' t.cx t.cy t.d0 t.d1 t.d2 t.n0 t.n1 t.n2 t.a0 t.a1 t.a2 t.a3 t.b0 t.b1 t.b2 t.b3 t.c0 t.c1 t.c2 t.c3 x y (minI (maxI x (-1)) 64) (minI (maxI y (-1)) 64) v.x v.y v.z v.w v.r v.g v.b v.a (t.dAt (midI x) (midI y)) (t.cAt (midI x) (midI y) t.a0 t.b0 t.c0) (t.cAt (midI x) (midI y) t.a1 t.b1 t.c1) (t.cAt (midI x) (midI y) t.a2 t.b2 t.c2) (t.cAt (midI x) (midI y) t.a3 t.b3 t.c3) (vxF v).p0 (vxF v).p1 (vxF v).p2 (vxF v).p3 (vxF v).c0 (vxF v).c1 (vxF v).c2 (vxF v).c3 (ofF (vxF v) x y).x (ofF (vxF v) x y).y (ofF (vxF v) x y).d (ofF (vxF v) x y).f (ofF (vxF v) x y).c0 (ofF (vxF v) x y).c1 (ofF (vxF v) x y).c2 (ofF (vxF v) x y).c3 v.far rfl rfl rfl bx by9 bo3 bo2 hM hA hMid hV hO hTC hCov w
    | some m =>
      rw [hm] at hM
      have hmc := make_chk hm
      have hMC := fun u => checkT_any m (rng_in64 (chk_rng hmc).1) u
      rw [hmc] at hMC
      exact raw_true_true a.x a.y a.d a.f a.c0 a.c1 a.c2 a.c3 b.x b.y b.d b.f b.c0 b.c1 b.c2 b.c3 c.x c.y c.d c.f c.c0 c.c1 c.c2 c.c3 k (k.tmod 3) t.ax t.ay t.bx t.by' t.cx t.cy t.d0 t.d1 t.d2 t.n0 t.n1 t.n2 t.a0 t.a1 t.a2 t.a3 t.b0 t.b1 t.b2 t.b3 t.c0 t.c1 t.c2 t.c3 x y (minI (maxI x (-1)) 64) (minI (maxI y (-1)) 64) v.x v.y v.z v.w v.r v.g v.b v.a (t.dAt (midI x) (midI y)) (t.cAt (midI x) (midI y) t.a0 t.b0 t.c0) (t.cAt (midI x) (midI y) t.a1 t.b1 t.c1) (t.cAt (midI x) (midI y) t.a2 t.b2 t.c2) (t.cAt (midI x) (midI y) t.a3 t.b3 t.c3) (vxF v).p0 (vxF v).p1 (vxF v).p2 (vxF v).p3 (vxF v).c0 (vxF v).c1 (vxF v).c2 (vxF v).c3 (ofF (vxF v) x y).x (ofF (vxF v) x y).y (ofF (vxF v) x y).d (ofF (vxF v) x y).f (ofF (vxF v) x y).c0 (ofF (vxF v) x y).c1 (ofF (vxF v) x y).c2 (ofF (vxF v) x y).c3 m.ax m.ay m.bx m.by' m.cx m.cy m.d0 m.d1 m.d2 m.n0 m.n1 m.n2 m.a0 m.a1 m.a2 m.a3 m.b0 m.b1 m.b2 m.b3 m.c0 m.c1 m.c2 m.c3 v.far rfl rfl rfl bx by9 bo3 bo2 hM hMC hA hMid hV hO hTC hCov w
  · have e : atF t x y = ⟨0, 0, 0, 0, 0, false⟩ := by
      unfold atF
      rw [if_neg hi]
    rw [e] at hA
    cases hm : makeF a b c (k.tmod 3) with
    | none =>
      rw [hm] at hM
      exact raw_false_false a.x a.y a.d a.f a.c0 a.c1 a.c2 a.c3 b.x b.y b.d b.f b.c0 b.c1 b.c2 b.c3 c.x c.y c.d c.f c.c0 c.c1 c.c2 c.c3 k (k.tmod 3) t.ax t.ay t.bx t.by' t.cx t.cy t.d0 t.d1 t.d2 t.n0 t.n1 t.n2 t.a0 t.a1 t.a2 t.a3 t.b0 t.b1 t.b2 t.b3 t.c0 t.c1 t.c2 t.c3 x y (minI (maxI x (-1)) 64) (minI (maxI y (-1)) 64) v.x v.y v.z v.w v.r v.g v.b v.a 0 0 0 0 0 (vxF v).p0 (vxF v).p1 (vxF v).p2 (vxF v).p3 (vxF v).c0 (vxF v).c1 (vxF v).c2 (vxF v).c3 (ofF (vxF v) x y).x (ofF (vxF v) x y).y (ofF (vxF v) x y).d (ofF (vxF v) x y).f (ofF (vxF v) x y).c0 (ofF (vxF v) x y).c1 (ofF (vxF v) x y).c2 (ofF (vxF v) x y).c3 v.far rfl rfl rfl bx by9 bo3 bo2 hM hA hMid hV hO w
    | some m =>
      rw [hm] at hM
      have hmc := make_chk hm
      have hMC := fun u => checkT_any m (rng_in64 (chk_rng hmc).1) u
      rw [hmc] at hMC
      exact raw_true_false a.x a.y a.d a.f a.c0 a.c1 a.c2 a.c3 b.x b.y b.d b.f b.c0 b.c1 b.c2 b.c3 c.x c.y c.d c.f c.c0 c.c1 c.c2 c.c3 k (k.tmod 3) t.ax t.ay t.bx t.by' t.cx t.cy t.d0 t.d1 t.d2 t.n0 t.n1 t.n2 t.a0 t.a1 t.a2 t.a3 t.b0 t.b1 t.b2 t.b3 t.c0 t.c1 t.c2 t.c3 x y (minI (maxI x (-1)) 64) (minI (maxI y (-1)) 64) v.x v.y v.z v.w v.r v.g v.b v.a 0 0 0 0 0 (vxF v).p0 (vxF v).p1 (vxF v).p2 (vxF v).p3 (vxF v).c0 (vxF v).c1 (vxF v).c2 (vxF v).c3 (ofF (vxF v) x y).x (ofF (vxF v) x y).y (ofF (vxF v) x y).d (ofF (vxF v) x y).f (ofF (vxF v) x y).c0 (ofF (vxF v) x y).c1 (ofF (vxF v) x y).c2 (ofF (vxF v) x y).c3 m.ax m.ay m.bx m.by' m.cx m.cy m.d0 m.d1 m.d2 m.n0 m.n1 m.n2 m.a0 m.a1 m.a2 m.a3 m.b0 m.b1 m.b2 m.b3 m.c0 m.c1 m.c2 m.c3 v.far rfl rfl rfl bx by9 bo3 bo2 hM hMC hA hMid hV hO w
end Go.Proofs.Ytglehnmkdapnpaa

