/-
  DERIVED. Layer 12: == on vertices: of one value and itself it is true (made by mkcliplaws.py). · What layer 12's laws begin with (made by mkcliplaw.py). · What the laws of layer 12 begin with (made by mkcliplaws.py). · ClipBounds: great literals (made by mkcliplaws.py). · Layer 12: Awake (made by mkcliplaws.py).
-/
import Derived.Test.YtglehnmkdapnpaaPkFix
import Derived.Laws.StructEq
import Derived.Test.YtglehnmkdapnpaaPkRefC
import Derived.Test.YtglehnmkdapnpaaPkVx
import Derived.Great.BuildSlice
import Derived.Test.YtglehnmkdapnpaaPkClip
namespace Go.Proofs.Ytglehnmkdapnpaa
open Go.RowKit
set_option linter.unusedVariables false
set_option maxRecDepth 100000 in
set_option maxHeartbeats 2000000 in
theorem eqInCV (d : Nat) (v0 v1 v2 v3 v4 v5 v6 v7 : Int) (w : World) : (Op.equalIn (d + 3) 32 (.agg #[.int .i64 v0, .int .i64 v1, .int .i64 v2, .int .i64 v3, .int .i64 v4, .int .i64 v5, .int .i64 v6, .int .i64 v7]) (.agg #[.int .i64 v0, .int .i64 v1, .int .i64 v2, .int .i64 v3, .int .i64 v4, .int .i64 v5, .int .i64 v6, .int .i64 v7])).run Try.prog w = .ok true w := by
  have h := eqInV d
  rw [show d + 3 = (d + 2) + 1 from rfl]
  unfold Op.equalIn
  simp [run_underlying Try.underlying32, go_sem, part, List.forIn_cons, h]
theorem eqCV (v0 v1 v2 v3 v4 v5 v6 v7 : Int) (w : World) : (Op.equalIn 10000 32 (.agg #[.int .i64 v0, .int .i64 v1, .int .i64 v2, .int .i64 v3, .int .i64 v4, .int .i64 v5, .int .i64 v6, .int .i64 v7]) (.agg #[.int .i64 v0, .int .i64 v1, .int .i64 v2, .int .i64 v3, .int .i64 v4, .int .i64 v5, .int .i64 v6, .int .i64 v7])).run Try.prog w = .ok true w := eqInCV 9997 v0 v1 v2 v3 v4 v5 v6 v7 w
end Go.Proofs.Ytglehnmkdapnpaa

namespace Go.Proofs.Ytglehnmkdapnpaa
open Go.RowKit
set_option linter.unusedVariables false
set_option maxRecDepth 100000 in
set_option maxHeartbeats 1000000 in
theorem ref12_any (v : V8) (w : World) : Calls Try.prog 13 #[.agg v.l.toArray] w fun e w' => e = .returned (.agg v.l.toArray) ∧ Ext w w' := by
  obtain ⟨v0, v1, v2, v3, v4, v5, v6, v7⟩ := v
  go_enter Try.func13, Try.ntmps13
  go_wp2_with fail
  exact bodyPost_ret (v := .agg #[.int .i64 v0, .int .i64 v1, .int .i64 v2, .int .i64 v3, .int .i64 v4, .int .i64 v5, .int .i64 v6, .int .i64 v7]) (results_blk (b := w.heap.size + 1) (t := 2) (ty := 46) rfl rfl (Blk.new' (by simp) _ _) Try.underlying46 rfl (by kernel_rfl)) rfl ⟨rfl, ((Ext.refl w).alloc _ _).alloc _ _⟩
set_option maxRecDepth 100000 in
theorem idx27 (y0 y1 y2 y3 y4 y5 y6 y7 y8 y9 y10 y11 y12 y13 y14 y15 y16 y17 y18 y19 y20 y21 y22 y23 y24 y25 y26 : Value) (w : World) :
    (Instr.index 27 (.agg #[y0, y1, y2, y3, y4, y5, y6, y7, y8, y9, y10, y11, y12, y13, y14, y15, y16, y17, y18, y19, y20, y21, y22, y23, y24, y25, y26]) (.int .i64 0)).run Try.prog w = .ok (.agg #[y0, y1, y2, y3, y4, y5, y6, y7, y8]) w ∧
    (Instr.index 27 (.agg #[y0, y1, y2, y3, y4, y5, y6, y7, y8, y9, y10, y11, y12, y13, y14, y15, y16, y17, y18, y19, y20, y21, y22, y23, y24, y25, y26]) (.int .i64 1)).run Try.prog w = .ok (.agg #[y9, y10, y11, y12, y13, y14, y15, y16, y17]) w ∧
    (Instr.index 27 (.agg #[y0, y1, y2, y3, y4, y5, y6, y7, y8, y9, y10, y11, y12, y13, y14, y15, y16, y17, y18, y19, y20, y21, y22, y23, y24, y25, y26]) (.int .i64 2)).run Try.prog w = .ok (.agg #[y18, y19, y20, y21, y22, y23, y24, y25, y26]) w := by
  refine ⟨?_, ?_, ?_⟩ <;> simp [Instr.index, asIntOf, run_underlying Try.underlying27, go_sem, part]
set_option maxRecDepth 100000 in
set_option maxHeartbeats 2000000 in
theorem vertices12_main (a_x a_y a_z a_w a_r a_g a_b a_a b_x b_y b_z b_w b_r b_g b_b b_a c_x c_y c_z c_w c_r c_g c_b c_a : Int) (a_f b_f c_f : Bool) (p0 p1 p2 p3 p4 p5 p6 p7 q0 q1 q2 q3 q4 q5 q6 q7 r0 r1 r2 r3 r4 r5 r6 r7 : Int) (w : World)
    (h0 : ∀ u, Calls Try.prog 22 #[.agg #[.int .i16 a_x, .int .i16 a_y, .int .i16 a_z, .int .i16 a_w, .int .u8 a_r, .int .u8 a_g, .int .u8 a_b, .int .u8 a_a, .bool a_f]] u fun e w' => e = .returned (.agg #[.int .i64 p0, .int .i64 p1, .int .i64 p2, .int .i64 p3, .int .i64 p4, .int .i64 p5, .int .i64 p6, .int .i64 p7]) ∧ Ext u w')
    (h1 : ∀ u, Calls Try.prog 22 #[.agg #[.int .i16 b_x, .int .i16 b_y, .int .i16 b_z, .int .i16 b_w, .int .u8 b_r, .int .u8 b_g, .int .u8 b_b, .int .u8 b_a, .bool b_f]] u fun e w' => e = .returned (.agg #[.int .i64 q0, .int .i64 q1, .int .i64 q2, .int .i64 q3, .int .i64 q4, .int .i64 q5, .int .i64 q6, .int .i64 q7]) ∧ Ext u w')
    (h2 : ∀ u, Calls Try.prog 22 #[.agg #[.int .i16 c_x, .int .i16 c_y, .int .i16 c_z, .int .i16 c_w, .int .u8 c_r, .int .u8 c_g, .int .u8 c_b, .int .u8 c_a, .bool c_f]] u fun e w' => e = .returned (.agg #[.int .i64 r0, .int .i64 r1, .int .i64 r2, .int .i64 r3, .int .i64 r4, .int .i64 r5, .int .i64 r6, .int .i64 r7]) ∧ Ext u w') :
    Calls Try.prog 10 #[.agg #[.int .i16 a_x, .int .i16 a_y, .int .i16 a_z, .int .i16 a_w, .int .u8 a_r, .int .u8 a_g, .int .u8 a_b, .int .u8 a_a, .bool a_f, .int .i16 b_x, .int .i16 b_y, .int .i16 b_z, .int .i16 b_w, .int .u8 b_r, .int .u8 b_g, .int .u8 b_b, .int .u8 b_a, .bool b_f, .int .i16 c_x, .int .i16 c_y, .int .i16 c_z, .int .i16 c_w, .int .u8 c_r, .int .u8 c_g, .int .u8 c_b, .int .u8 c_a, .bool c_f]] w fun e w' => e = .returned (.agg #[.int .i64 p0, .int .i64 p1, .int .i64 p2, .int .i64 p3, .int .i64 p4, .int .i64 p5, .int .i64 p6, .int .i64 p7, .int .i64 q0, .int .i64 q1, .int .i64 q2, .int .i64 q3, .int .i64 q4, .int .i64 q5, .int .i64 q6, .int .i64 q7, .int .i64 r0, .int .i64 r1, .int .i64 r2, .int .i64 r3, .int .i64 r4, .int .i64 r5, .int .i64 r6, .int .i64 r7]) ∧ Ext w w' := by
  have H0 := Lib.hid h0
  have H1 := Lib.hid h1
  have H2 := Lib.hid h2
  clear h0 h1 h2
  have hix := idx27 (.int .i16 a_x) (.int .i16 a_y) (.int .i16 a_z) (.int .i16 a_w) (.int .u8 a_r) (.int .u8 a_g) (.int .u8 a_b) (.int .u8 a_a) (.bool a_f) (.int .i16 b_x) (.int .i16 b_y) (.int .i16 b_z) (.int .i16 b_w) (.int .u8 b_r) (.int .u8 b_g) (.int .u8 b_b) (.int .u8 b_a) (.bool b_f) (.int .i16 c_x) (.int .i16 c_y) (.int .i16 c_z) (.int .i16 c_w) (.int .u8 c_r) (.int .u8 c_g) (.int .u8 c_b) (.int .u8 c_a) (.bool c_f)
  have B1 := ((Blk.new w #[.int .i16 a_x, .int .i16 a_y, .int .i16 a_z, .int .i16 a_w, .int .u8 a_r, .int .u8 a_g, .int .u8 a_b, .int .u8 a_a, .bool a_f, .int .i16 b_x, .int .i16 b_y, .int .i16 b_z, .int .i16 b_w, .int .u8 b_r, .int .u8 b_g, .int .u8 b_b, .int .u8 b_a, .bool b_f, .int .i16 c_x, .int .i16 c_y, .int .i16 c_z, .int .i16 c_w, .int .u8 c_r, .int .u8 c_g, .int .u8 c_b, .int .u8 c_a, .bool c_f] 27).alloc (.cells #[.int .i64 0, .int .i64 0, .int .i64 0, .int .i64 0, .int .i64 0, .int .i64 0, .int .i64 0, .int .i64 0, .int .i64 0, .int .i64 0, .int .i64 0, .int .i64 0, .int .i64 0, .int .i64 0, .int .i64 0, .int .i64 0, .int .i64 0, .int .i64 0, .int .i64 0, .int .i64 0, .int .i64 0, .int .i64 0, .int .i64 0, .int .i64 0] 33)).alloc (.cells #[.int .i64 0, .int .i64 0, .int .i64 0, .int .i64 0, .int .i64 0, .int .i64 0, .int .i64 0, .int .i64 0, .int .i64 0, .int .i64 0, .int .i64 0, .int .i64 0, .int .i64 0, .int .i64 0, .int .i64 0, .int .i64 0, .int .i64 0, .int .i64 0, .int .i64 0, .int .i64 0, .int .i64 0, .int .i64 0, .int .i64 0, .int .i64 0] 33)
  go_enter Try.func10, Try.ntmps10
  go_upto_region 2 with fail
  go_upto_region 3 with (first
    | ((with_reducible refine wpList_load_blk (op := ⟨some 7, _, _, _, _, _⟩) ?_ 27 (.tmp 1) ?_ w.heap.size ?_ (z := _) (T := 27) B1 Try.underlying27 ?_ ?_ ?_); rfl; rfl; rfl; rfl; kernel_rfl)
    | fail)
  have x3 : Ext w (((w.alloc (.cells #[.int .i16 a_x, .int .i16 a_y, .int .i16 a_z, .int .i16 a_w, .int .u8 a_r, .int .u8 a_g, .int .u8 a_b, .int .u8 a_a, .bool a_f, .int .i16 b_x, .int .i16 b_y, .int .i16 b_z, .int .i16 b_w, .int .u8 b_r, .int .u8 b_g, .int .u8 b_b, .int .u8 b_a, .bool b_f, .int .i16 c_x, .int .i16 c_y, .int .i16 c_z, .int .i16 c_w, .int .u8 c_r, .int .u8 c_g, .int .u8 c_b, .int .u8 c_a, .bool c_f] 27)).alloc (.cells #[.int .i64 0, .int .i64 0, .int .i64 0, .int .i64 0, .int .i64 0, .int .i64 0, .int .i64 0, .int .i64 0, .int .i64 0, .int .i64 0, .int .i64 0, .int .i64 0, .int .i64 0, .int .i64 0, .int .i64 0, .int .i64 0, .int .i64 0, .int .i64 0, .int .i64 0, .int .i64 0, .int .i64 0, .int .i64 0, .int .i64 0, .int .i64 0] 33)).alloc (.cells #[.int .i64 0, .int .i64 0, .int .i64 0, .int .i64 0, .int .i64 0, .int .i64 0, .int .i64 0, .int .i64 0, .int .i64 0, .int .i64 0, .int .i64 0, .int .i64 0, .int .i64 0, .int .i64 0, .int .i64 0, .int .i64 0, .int .i64 0, .int .i64 0, .int .i64 0, .int .i64 0, .int .i64 0, .int .i64 0, .int .i64 0, .int .i64 0] 33)) := (((Ext.refl w).alloc _ _).alloc _ _).alloc _ _
  have B2 := (Blk.new (w.alloc (.cells #[.int .i16 a_x, .int .i16 a_y, .int .i16 a_z, .int .i16 a_w, .int .u8 a_r, .int .u8 a_g, .int .u8 a_b, .int .u8 a_a, .bool a_f, .int .i16 b_x, .int .i16 b_y, .int .i16 b_z, .int .i16 b_w, .int .u8 b_r, .int .u8 b_g, .int .u8 b_b, .int .u8 b_a, .bool b_f, .int .i16 c_x, .int .i16 c_y, .int .i16 c_z, .int .i16 c_w, .int .u8 c_r, .int .u8 c_g, .int .u8 c_b, .int .u8 c_a, .bool c_f] 27)) #[.int .i64 0, .int .i64 0, .int .i64 0, .int .i64 0, .int .i64 0, .int .i64 0, .int .i64 0, .int .i64 0, .int .i64 0, .int .i64 0, .int .i64 0, .int .i64 0, .int .i64 0, .int .i64 0, .int .i64 0, .int .i64 0, .int .i64 0, .int .i64 0, .int .i64 0, .int .i64 0, .int .i64 0, .int .i64 0, .int .i64 0, .int .i64 0] 33).alloc (.cells #[.int .i64 0, .int .i64 0, .int .i64 0, .int .i64 0, .int .i64 0, .int .i64 0, .int .i64 0, .int .i64 0, .int .i64 0, .int .i64 0, .int .i64 0, .int .i64 0, .int .i64 0, .int .i64 0, .int .i64 0, .int .i64 0, .int .i64 0, .int .i64 0, .int .i64 0, .int .i64 0, .int .i64 0, .int .i64 0, .int .i64 0, .int .i64 0] 33)
  have B3 := Blk.new ((w.alloc (.cells #[.int .i16 a_x, .int .i16 a_y, .int .i16 a_z, .int .i16 a_w, .int .u8 a_r, .int .u8 a_g, .int .u8 a_b, .int .u8 a_a, .bool a_f, .int .i16 b_x, .int .i16 b_y, .int .i16 b_z, .int .i16 b_w, .int .u8 b_r, .int .u8 b_g, .int .u8 b_b, .int .u8 b_a, .bool b_f, .int .i16 c_x, .int .i16 c_y, .int .i16 c_z, .int .i16 c_w, .int .u8 c_r, .int .u8 c_g, .int .u8 c_b, .int .u8 c_a, .bool c_f] 27)).alloc (.cells #[.int .i64 0, .int .i64 0, .int .i64 0, .int .i64 0, .int .i64 0, .int .i64 0, .int .i64 0, .int .i64 0, .int .i64 0, .int .i64 0, .int .i64 0, .int .i64 0, .int .i64 0, .int .i64 0, .int .i64 0, .int .i64 0, .int .i64 0, .int .i64 0, .int .i64 0, .int .i64 0, .int .i64 0, .int .i64 0, .int .i64 0, .int .i64 0] 33)) #[.int .i64 0, .int .i64 0, .int .i64 0, .int .i64 0, .int .i64 0, .int .i64 0, .int .i64 0, .int .i64 0, .int .i64 0, .int .i64 0, .int .i64 0, .int .i64 0, .int .i64 0, .int .i64 0, .int .i64 0, .int .i64 0, .int .i64 0, .int .i64 0, .int .i64 0, .int .i64 0, .int .i64 0, .int .i64 0, .int .i64 0, .int .i64 0] 33
  simp only [World.size_alloc] at B2 B3
  generalize ((w.alloc (.cells #[.int .i16 a_x, .int .i16 a_y, .int .i16 a_z, .int .i16 a_w, .int .u8 a_r, .int .u8 a_g, .int .u8 a_b, .int .u8 a_a, .bool a_f, .int .i16 b_x, .int .i16 b_y, .int .i16 b_z, .int .i16 b_w, .int .u8 b_r, .int .u8 b_g, .int .u8 b_b, .int .u8 b_a, .bool b_f, .int .i16 c_x, .int .i16 c_y, .int .i16 c_z, .int .i16 c_w, .int .u8 c_r, .int .u8 c_g, .int .u8 c_b, .int .u8 c_a, .bool c_f] 27)).alloc (.cells #[.int .i64 0, .int .i64 0, .int .i64 0, .int .i64 0, .int .i64 0, .int .i64 0, .int .i64 0, .int .i64 0, .int .i64 0, .int .i64 0, .int .i64 0, .int .i64 0, .int .i64 0, .int .i64 0, .int .i64 0, .int .i64 0, .int .i64 0, .int .i64 0, .int .i64 0, .int .i64 0, .int .i64 0, .int .i64 0, .int .i64 0, .int .i64 0] 33)).alloc (.cells #[.int .i64 0, .int .i64 0, .int .i64 0, .int .i64 0, .int .i64 0, .int .i64 0, .int .i64 0, .int .i64 0, .int .i64 0, .int .i64 0, .int .i64 0, .int .i64 0, .int .i64 0, .int .i64 0, .int .i64 0, .int .i64 0, .int .i64 0, .int .i64 0, .int .i64 0, .int .i64 0, .int .i64 0, .int .i64 0, .int .i64 0, .int .i64 0] 33) = w3 at *
  go_wp2_with fail
  refine wp_loop_rounds 4 ?_
  rw [rounds_succ]
  have Bz := Blk.new w3 #[.int .i16 0, .int .i16 0, .int .i16 0, .int .i16 0, .int .u8 0, .int .u8 0, .int .u8 0, .int .u8 0, .bool false] 25
  have X5 := Bz.setRow #[.int .i16 a_x, .int .i16 a_y, .int .i16 a_z, .int .i16 a_w, .int .u8 a_r, .int .u8 a_g, .int .u8 a_b, .int .u8 a_a, .bool a_f]
  have y5 : Ext w3 ((w3.alloc (.cells #[.int .i16 0, .int .i16 0, .int .i16 0, .int .i16 0, .int .u8 0, .int .u8 0, .int .u8 0, .int .u8 0, .bool false] 25)).setRow w3.heap.size #[.int .i16 a_x, .int .i16 a_y, .int .i16 a_z, .int .i16 a_w, .int .u8 a_r, .int .u8 a_g, .int .u8 a_b, .int .u8 a_a, .bool a_f]) := ((Ext.refl _).alloc _ _).setRow (Nat.le_refl _) _
  go_upto_region 5 with (first
    | ((with_reducible refine wpList_store_blk (op := ⟨none, .store 25 (.tmp 5) (.tmp 11), _, _, _, _⟩) ?_ 25 (.tmp 5) (.tmp 11) ?_ (w3.heap.size) ?_ (cs := #[.int .i16 a_x, .int .i16 a_y, .int .i16 a_z, .int .i16 a_w, .int .u8 a_r, .int .u8 a_g, .int .u8 a_b, .int .u8 a_a, .bool a_f]) ?_ (z := #[.int .i16 0, .int .i16 0, .int .i16 0, .int .i16 0, .int .u8 0, .int .u8 0, .int .u8 0, .int .u8 0, .bool false]) (T := 25) ?_ ?_ ?_ ?_ ?_); rfl; rfl; rfl; rfl; exact Bz; kernel_rfl; kernel_rfl; kernel_rfl)
    | fail)
  have x3 := x3.trans y5
  have B2 := B2.ext y5
  have B3 := B3.ext y5
  clear Bz y5
  generalize (w3.alloc (.cells #[.int .i16 0, .int .i16 0, .int .i16 0, .int .i16 0, .int .u8 0, .int .u8 0, .int .u8 0, .int .u8 0, .bool false] 25)).setRow w3.heap.size #[.int .i16 a_x, .int .i16 a_y, .int .i16 a_z, .int .i16 a_w, .int .u8 a_r, .int .u8 a_g, .int .u8 a_b, .int .u8 a_a, .bool a_f] = w50 at *
  generalize w3.heap.size = b50 at *
  go_wp2_with (first
    | ((with_reducible refine wpList_load_blk (op := ⟨some 12, _, _, _, _, _⟩) ?_ 25 (.tmp 5) ?_ (b50) ?_ (z := _) (T := 25) X5 Try.underlying25 ?_ ?_ ?_); rfl; rfl; rfl; rfl; kernel_rfl)
    | fail)
  refine (H0.out _).mono ?_
  rintro e w60 ⟨rfl, x6⟩
  have x3 := x3.trans x6
  have B2 := B2.ext x6
  have B3 := B3.ext x6
  clear X5 x6
  have Bz := Blk.new w60 #[.int .i64 0, .int .i64 0, .int .i64 0, .int .i64 0, .int .i64 0, .int .i64 0, .int .i64 0, .int .i64 0] 84
  have X6 := Bz.setRow #[.int .i64 p0, .int .i64 p1, .int .i64 p2, .int .i64 p3, .int .i64 p4, .int .i64 p5, .int .i64 p6, .int .i64 p7]
  have y6 : Ext w60 ((w60.alloc (.cells #[.int .i64 0, .int .i64 0, .int .i64 0, .int .i64 0, .int .i64 0, .int .i64 0, .int .i64 0, .int .i64 0] 84)).setRow w60.heap.size #[.int .i64 p0, .int .i64 p1, .int .i64 p2, .int .i64 p3, .int .i64 p4, .int .i64 p5, .int .i64 p6, .int .i64 p7]) := ((Ext.refl _).alloc _ _).setRow (Nat.le_refl _) _
  go_upto_region 6 with (first
    | ((with_reducible refine wpList_store_blk (op := ⟨none, .store 84 (.tmp 6) (.tmp 13), _, _, _, _⟩) ?_ 84 (.tmp 6) (.tmp 13) ?_ (w60.heap.size) ?_ (cs := #[.int .i64 p0, .int .i64 p1, .int .i64 p2, .int .i64 p3, .int .i64 p4, .int .i64 p5, .int .i64 p6, .int .i64 p7]) ?_ (z := #[.int .i64 0, .int .i64 0, .int .i64 0, .int .i64 0, .int .i64 0, .int .i64 0, .int .i64 0, .int .i64 0]) (T := 84) ?_ ?_ ?_ ?_ ?_); rfl; rfl; rfl; rfl; exact Bz; kernel_rfl; kernel_rfl; kernel_rfl)
    | fail)
  have x3 := x3.trans y6
  have B2 := B2.ext y6
  have B3 := B3.ext y6
  clear Bz y6
  generalize (w60.alloc (.cells #[.int .i64 0, .int .i64 0, .int .i64 0, .int .i64 0, .int .i64 0, .int .i64 0, .int .i64 0, .int .i64 0] 84)).setRow w60.heap.size #[.int .i64 p0, .int .i64 p1, .int .i64 p2, .int .i64 p3, .int .i64 p4, .int .i64 p5, .int .i64 p6, .int .i64 p7] = w70 at *
  generalize w60.heap.size = b60 at *
  have cX6 := X6.cell
  have cB3 := B3.cell
  have fB3 := B3.frozen
  go_upto_region 7 with fail
  have B3 : Blk ((((((((w70.setCell ⟨w.heap.size + 1 + 1, 0, none⟩ (.int .i64 p0)).setCell ⟨w.heap.size + 1 + 1, 1, none⟩ (.int .i64 p1)).setCell ⟨w.heap.size + 1 + 1, 2, none⟩ (.int .i64 p2)).setCell ⟨w.heap.size + 1 + 1, 3, none⟩ (.int .i64 p3)).setCell ⟨w.heap.size + 1 + 1, 4, none⟩ (.int .i64 p4)).setCell ⟨w.heap.size + 1 + 1, 5, none⟩ (.int .i64 p5)).setCell ⟨w.heap.size + 1 + 1, 6, none⟩ (.int .i64 p6)).setCell ⟨w.heap.size + 1 + 1, 7, none⟩ (.int .i64 p7)) (w.heap.size + 1 + 1) #[.int .i64 p0, .int .i64 p1, .int .i64 p2, .int .i64 p3, .int .i64 p4, .int .i64 p5, .int .i64 p6, .int .i64 p7, .int .i64 0, .int .i64 0, .int .i64 0, .int .i64 0, .int .i64 0, .int .i64 0, .int .i64 0, .int .i64 0, .int .i64 0, .int .i64 0, .int .i64 0, .int .i64 0, .int .i64 0, .int .i64 0, .int .i64 0, .int .i64 0] 33 := by simpa using ((((((((B3.set 0 (.int .i64 p0)).set 1 (.int .i64 p1)).set 2 (.int .i64 p2)).set 3 (.int .i64 p3)).set 4 (.int .i64 p4)).set 5 (.int .i64 p5)).set 6 (.int .i64 p6)).set 7 (.int .i64 p7))
  have B2 : Blk ((((((((w70.setCell ⟨w.heap.size + 1 + 1, 0, none⟩ (.int .i64 p0)).setCell ⟨w.heap.size + 1 + 1, 1, none⟩ (.int .i64 p1)).setCell ⟨w.heap.size + 1 + 1, 2, none⟩ (.int .i64 p2)).setCell ⟨w.heap.size + 1 + 1, 3, none⟩ (.int .i64 p3)).setCell ⟨w.heap.size + 1 + 1, 4, none⟩ (.int .i64 p4)).setCell ⟨w.heap.size + 1 + 1, 5, none⟩ (.int .i64 p5)).setCell ⟨w.heap.size + 1 + 1, 6, none⟩ (.int .i64 p6)).setCell ⟨w.heap.size + 1 + 1, 7, none⟩ (.int .i64 p7)) (w.heap.size + 1) #[.int .i64 0, .int .i64 0, .int .i64 0, .int .i64 0, .int .i64 0, .int .i64 0, .int .i64 0, .int .i64 0, .int .i64 0, .int .i64 0, .int .i64 0, .int .i64 0, .int .i64 0, .int .i64 0, .int .i64 0, .int .i64 0, .int .i64 0, .int .i64 0, .int .i64 0, .int .i64 0, .int .i64 0, .int .i64 0, .int .i64 0, .int .i64 0] 33 := ((((((((B2.far (p := ⟨w.heap.size + 1 + 1, 0, none⟩) (by simp only; omega) (.int .i64 p0)).far (p := ⟨w.heap.size + 1 + 1, 1, none⟩) (by simp only; omega) (.int .i64 p1)).far (p := ⟨w.heap.size + 1 + 1, 2, none⟩) (by simp only; omega) (.int .i64 p2)).far (p := ⟨w.heap.size + 1 + 1, 3, none⟩) (by simp only; omega) (.int .i64 p3)).far (p := ⟨w.heap.size + 1 + 1, 4, none⟩) (by simp only; omega) (.int .i64 p4)).far (p := ⟨w.heap.size + 1 + 1, 5, none⟩) (by simp only; omega) (.int .i64 p5)).far (p := ⟨w.heap.size + 1 + 1, 6, none⟩) (by simp only; omega) (.int .i64 p6)).far (p := ⟨w.heap.size + 1 + 1, 7, none⟩) (by simp only; omega) (.int .i64 p7))
  have x3 : Ext w ((((((((w70.setCell ⟨w.heap.size + 1 + 1, 0, none⟩ (.int .i64 p0)).setCell ⟨w.heap.size + 1 + 1, 1, none⟩ (.int .i64 p1)).setCell ⟨w.heap.size + 1 + 1, 2, none⟩ (.int .i64 p2)).setCell ⟨w.heap.size + 1 + 1, 3, none⟩ (.int .i64 p3)).setCell ⟨w.heap.size + 1 + 1, 4, none⟩ (.int .i64 p4)).setCell ⟨w.heap.size + 1 + 1, 5, none⟩ (.int .i64 p5)).setCell ⟨w.heap.size + 1 + 1, 6, none⟩ (.int .i64 p6)).setCell ⟨w.heap.size + 1 + 1, 7, none⟩ (.int .i64 p7)) := ((((((((x3.setCell (by show w.heap.size ≤ w.heap.size + 1 + 1; omega) (.int .i64 p0) (p := ⟨w.heap.size + 1 + 1, 0, none⟩)).setCell (by show w.heap.size ≤ w.heap.size + 1 + 1; omega) (.int .i64 p1) (p := ⟨w.heap.size + 1 + 1, 1, none⟩)).setCell (by show w.heap.size ≤ w.heap.size + 1 + 1; omega) (.int .i64 p2) (p := ⟨w.heap.size + 1 + 1, 2, none⟩)).setCell (by show w.heap.size ≤ w.heap.size + 1 + 1; omega) (.int .i64 p3) (p := ⟨w.heap.size + 1 + 1, 3, none⟩)).setCell (by show w.heap.size ≤ w.heap.size + 1 + 1; omega) (.int .i64 p4) (p := ⟨w.heap.size + 1 + 1, 4, none⟩)).setCell (by show w.heap.size ≤ w.heap.size + 1 + 1; omega) (.int .i64 p5) (p := ⟨w.heap.size + 1 + 1, 5, none⟩)).setCell (by show w.heap.size ≤ w.heap.size + 1 + 1; omega) (.int .i64 p6) (p := ⟨w.heap.size + 1 + 1, 6, none⟩)).setCell (by show w.heap.size ≤ w.heap.size + 1 + 1; omega) (.int .i64 p7) (p := ⟨w.heap.size + 1 + 1, 7, none⟩))
  clear cX6 cB3 fB3 X6
  generalize ((((((((w70.setCell ⟨w.heap.size + 1 + 1, 0, none⟩ (.int .i64 p0)).setCell ⟨w.heap.size + 1 + 1, 1, none⟩ (.int .i64 p1)).setCell ⟨w.heap.size + 1 + 1, 2, none⟩ (.int .i64 p2)).setCell ⟨w.heap.size + 1 + 1, 3, none⟩ (.int .i64 p3)).setCell ⟨w.heap.size + 1 + 1, 4, none⟩ (.int .i64 p4)).setCell ⟨w.heap.size + 1 + 1, 5, none⟩ (.int .i64 p5)).setCell ⟨w.heap.size + 1 + 1, 6, none⟩ (.int .i64 p6)).setCell ⟨w.heap.size + 1 + 1, 7, none⟩ (.int .i64 p7)) = w80 at *
  go_wp2_with fail
  rw [rounds_succ]
  have Bz := Blk.new w80 #[.int .i16 0, .int .i16 0, .int .i16 0, .int .i16 0, .int .u8 0, .int .u8 0, .int .u8 0, .int .u8 0, .bool false] 25
  have X5 := Bz.setRow #[.int .i16 b_x, .int .i16 b_y, .int .i16 b_z, .int .i16 b_w, .int .u8 b_r, .int .u8 b_g, .int .u8 b_b, .int .u8 b_a, .bool b_f]
  have y5 : Ext w80 ((w80.alloc (.cells #[.int .i16 0, .int .i16 0, .int .i16 0, .int .i16 0, .int .u8 0, .int .u8 0, .int .u8 0, .int .u8 0, .bool false] 25)).setRow w80.heap.size #[.int .i16 b_x, .int .i16 b_y, .int .i16 b_z, .int .i16 b_w, .int .u8 b_r, .int .u8 b_g, .int .u8 b_b, .int .u8 b_a, .bool b_f]) := ((Ext.refl _).alloc _ _).setRow (Nat.le_refl _) _
  go_upto_region 5 with (first
    | ((with_reducible refine wpList_store_blk (op := ⟨none, .store 25 (.tmp 5) (.tmp 11), _, _, _, _⟩) ?_ 25 (.tmp 5) (.tmp 11) ?_ (w80.heap.size) ?_ (cs := #[.int .i16 b_x, .int .i16 b_y, .int .i16 b_z, .int .i16 b_w, .int .u8 b_r, .int .u8 b_g, .int .u8 b_b, .int .u8 b_a, .bool b_f]) ?_ (z := #[.int .i16 0, .int .i16 0, .int .i16 0, .int .i16 0, .int .u8 0, .int .u8 0, .int .u8 0, .int .u8 0, .bool false]) (T := 25) ?_ ?_ ?_ ?_ ?_); rfl; rfl; rfl; rfl; exact Bz; kernel_rfl; kernel_rfl; kernel_rfl)
    | fail)
  have x3 := x3.trans y5
  have B2 := B2.ext y5
  have B3 := B3.ext y5
  clear Bz y5
  generalize (w80.alloc (.cells #[.int .i16 0, .int .i16 0, .int .i16 0, .int .i16 0, .int .u8 0, .int .u8 0, .int .u8 0, .int .u8 0, .bool false] 25)).setRow w80.heap.size #[.int .i16 b_x, .int .i16 b_y, .int .i16 b_z, .int .i16 b_w, .int .u8 b_r, .int .u8 b_g, .int .u8 b_b, .int .u8 b_a, .bool b_f] = w51 at *
  generalize w80.heap.size = b51 at *
  go_wp2_with (first
    | ((with_reducible refine wpList_load_blk (op := ⟨some 12, _, _, _, _, _⟩) ?_ 25 (.tmp 5) ?_ (b51) ?_ (z := _) (T := 25) X5 Try.underlying25 ?_ ?_ ?_); rfl; rfl; rfl; rfl; kernel_rfl)
    | fail)
  refine (H1.out _).mono ?_
  rintro e w61 ⟨rfl, x6⟩
  have x3 := x3.trans x6
  have B2 := B2.ext x6
  have B3 := B3.ext x6
  clear X5 x6
  have Bz := Blk.new w61 #[.int .i64 0, .int .i64 0, .int .i64 0, .int .i64 0, .int .i64 0, .int .i64 0, .int .i64 0, .int .i64 0] 84
  have X6 := Bz.setRow #[.int .i64 q0, .int .i64 q1, .int .i64 q2, .int .i64 q3, .int .i64 q4, .int .i64 q5, .int .i64 q6, .int .i64 q7]
  have y6 : Ext w61 ((w61.alloc (.cells #[.int .i64 0, .int .i64 0, .int .i64 0, .int .i64 0, .int .i64 0, .int .i64 0, .int .i64 0, .int .i64 0] 84)).setRow w61.heap.size #[.int .i64 q0, .int .i64 q1, .int .i64 q2, .int .i64 q3, .int .i64 q4, .int .i64 q5, .int .i64 q6, .int .i64 q7]) := ((Ext.refl _).alloc _ _).setRow (Nat.le_refl _) _
  go_upto_region 6 with (first
    | ((with_reducible refine wpList_store_blk (op := ⟨none, .store 84 (.tmp 6) (.tmp 13), _, _, _, _⟩) ?_ 84 (.tmp 6) (.tmp 13) ?_ (w61.heap.size) ?_ (cs := #[.int .i64 q0, .int .i64 q1, .int .i64 q2, .int .i64 q3, .int .i64 q4, .int .i64 q5, .int .i64 q6, .int .i64 q7]) ?_ (z := #[.int .i64 0, .int .i64 0, .int .i64 0, .int .i64 0, .int .i64 0, .int .i64 0, .int .i64 0, .int .i64 0]) (T := 84) ?_ ?_ ?_ ?_ ?_); rfl; rfl; rfl; rfl; exact Bz; kernel_rfl; kernel_rfl; kernel_rfl)
    | fail)
  have x3 := x3.trans y6
  have B2 := B2.ext y6
  have B3 := B3.ext y6
  clear Bz y6
  generalize (w61.alloc (.cells #[.int .i64 0, .int .i64 0, .int .i64 0, .int .i64 0, .int .i64 0, .int .i64 0, .int .i64 0, .int .i64 0] 84)).setRow w61.heap.size #[.int .i64 q0, .int .i64 q1, .int .i64 q2, .int .i64 q3, .int .i64 q4, .int .i64 q5, .int .i64 q6, .int .i64 q7] = w71 at *
  generalize w61.heap.size = b61 at *
  have cX6 := X6.cell
  have cB3 := B3.cell
  have fB3 := B3.frozen
  go_upto_region 7 with fail
  have B3 : Blk ((((((((w71.setCell ⟨w.heap.size + 1 + 1, 8, none⟩ (.int .i64 q0)).setCell ⟨w.heap.size + 1 + 1, 9, none⟩ (.int .i64 q1)).setCell ⟨w.heap.size + 1 + 1, 10, none⟩ (.int .i64 q2)).setCell ⟨w.heap.size + 1 + 1, 11, none⟩ (.int .i64 q3)).setCell ⟨w.heap.size + 1 + 1, 12, none⟩ (.int .i64 q4)).setCell ⟨w.heap.size + 1 + 1, 13, none⟩ (.int .i64 q5)).setCell ⟨w.heap.size + 1 + 1, 14, none⟩ (.int .i64 q6)).setCell ⟨w.heap.size + 1 + 1, 15, none⟩ (.int .i64 q7)) (w.heap.size + 1 + 1) #[.int .i64 p0, .int .i64 p1, .int .i64 p2, .int .i64 p3, .int .i64 p4, .int .i64 p5, .int .i64 p6, .int .i64 p7, .int .i64 q0, .int .i64 q1, .int .i64 q2, .int .i64 q3, .int .i64 q4, .int .i64 q5, .int .i64 q6, .int .i64 q7, .int .i64 0, .int .i64 0, .int .i64 0, .int .i64 0, .int .i64 0, .int .i64 0, .int .i64 0, .int .i64 0] 33 := by simpa using ((((((((B3.set 8 (.int .i64 q0)).set 9 (.int .i64 q1)).set 10 (.int .i64 q2)).set 11 (.int .i64 q3)).set 12 (.int .i64 q4)).set 13 (.int .i64 q5)).set 14 (.int .i64 q6)).set 15 (.int .i64 q7))
  have B2 : Blk ((((((((w71.setCell ⟨w.heap.size + 1 + 1, 8, none⟩ (.int .i64 q0)).setCell ⟨w.heap.size + 1 + 1, 9, none⟩ (.int .i64 q1)).setCell ⟨w.heap.size + 1 + 1, 10, none⟩ (.int .i64 q2)).setCell ⟨w.heap.size + 1 + 1, 11, none⟩ (.int .i64 q3)).setCell ⟨w.heap.size + 1 + 1, 12, none⟩ (.int .i64 q4)).setCell ⟨w.heap.size + 1 + 1, 13, none⟩ (.int .i64 q5)).setCell ⟨w.heap.size + 1 + 1, 14, none⟩ (.int .i64 q6)).setCell ⟨w.heap.size + 1 + 1, 15, none⟩ (.int .i64 q7)) (w.heap.size + 1) #[.int .i64 0, .int .i64 0, .int .i64 0, .int .i64 0, .int .i64 0, .int .i64 0, .int .i64 0, .int .i64 0, .int .i64 0, .int .i64 0, .int .i64 0, .int .i64 0, .int .i64 0, .int .i64 0, .int .i64 0, .int .i64 0, .int .i64 0, .int .i64 0, .int .i64 0, .int .i64 0, .int .i64 0, .int .i64 0, .int .i64 0, .int .i64 0] 33 := ((((((((B2.far (p := ⟨w.heap.size + 1 + 1, 8, none⟩) (by simp only; omega) (.int .i64 q0)).far (p := ⟨w.heap.size + 1 + 1, 9, none⟩) (by simp only; omega) (.int .i64 q1)).far (p := ⟨w.heap.size + 1 + 1, 10, none⟩) (by simp only; omega) (.int .i64 q2)).far (p := ⟨w.heap.size + 1 + 1, 11, none⟩) (by simp only; omega) (.int .i64 q3)).far (p := ⟨w.heap.size + 1 + 1, 12, none⟩) (by simp only; omega) (.int .i64 q4)).far (p := ⟨w.heap.size + 1 + 1, 13, none⟩) (by simp only; omega) (.int .i64 q5)).far (p := ⟨w.heap.size + 1 + 1, 14, none⟩) (by simp only; omega) (.int .i64 q6)).far (p := ⟨w.heap.size + 1 + 1, 15, none⟩) (by simp only; omega) (.int .i64 q7))
  have x3 : Ext w ((((((((w71.setCell ⟨w.heap.size + 1 + 1, 8, none⟩ (.int .i64 q0)).setCell ⟨w.heap.size + 1 + 1, 9, none⟩ (.int .i64 q1)).setCell ⟨w.heap.size + 1 + 1, 10, none⟩ (.int .i64 q2)).setCell ⟨w.heap.size + 1 + 1, 11, none⟩ (.int .i64 q3)).setCell ⟨w.heap.size + 1 + 1, 12, none⟩ (.int .i64 q4)).setCell ⟨w.heap.size + 1 + 1, 13, none⟩ (.int .i64 q5)).setCell ⟨w.heap.size + 1 + 1, 14, none⟩ (.int .i64 q6)).setCell ⟨w.heap.size + 1 + 1, 15, none⟩ (.int .i64 q7)) := ((((((((x3.setCell (by show w.heap.size ≤ w.heap.size + 1 + 1; omega) (.int .i64 q0) (p := ⟨w.heap.size + 1 + 1, 8, none⟩)).setCell (by show w.heap.size ≤ w.heap.size + 1 + 1; omega) (.int .i64 q1) (p := ⟨w.heap.size + 1 + 1, 9, none⟩)).setCell (by show w.heap.size ≤ w.heap.size + 1 + 1; omega) (.int .i64 q2) (p := ⟨w.heap.size + 1 + 1, 10, none⟩)).setCell (by show w.heap.size ≤ w.heap.size + 1 + 1; omega) (.int .i64 q3) (p := ⟨w.heap.size + 1 + 1, 11, none⟩)).setCell (by show w.heap.size ≤ w.heap.size + 1 + 1; omega) (.int .i64 q4) (p := ⟨w.heap.size + 1 + 1, 12, none⟩)).setCell (by show w.heap.size ≤ w.heap.size + 1 + 1; omega) (.int .i64 q5) (p := ⟨w.heap.size + 1 + 1, 13, none⟩)).setCell (by show w.heap.size ≤ w.heap.size + 1 + 1; omega) (.int .i64 q6) (p := ⟨w.heap.size + 1 + 1, 14, none⟩)).setCell (by show w.heap.size ≤ w.heap.size + 1 + 1; omega) (.int .i64 q7) (p := ⟨w.heap.size + 1 + 1, 15, none⟩))
  clear cX6 cB3 fB3 X6
  generalize ((((((((w71.setCell ⟨w.heap.size + 1 + 1, 8, none⟩ (.int .i64 q0)).setCell ⟨w.heap.size + 1 + 1, 9, none⟩ (.int .i64 q1)).setCell ⟨w.heap.size + 1 + 1, 10, none⟩ (.int .i64 q2)).setCell ⟨w.heap.size + 1 + 1, 11, none⟩ (.int .i64 q3)).setCell ⟨w.heap.size + 1 + 1, 12, none⟩ (.int .i64 q4)).setCell ⟨w.heap.size + 1 + 1, 13, none⟩ (.int .i64 q5)).setCell ⟨w.heap.size + 1 + 1, 14, none⟩ (.int .i64 q6)).setCell ⟨w.heap.size + 1 + 1, 15, none⟩ (.int .i64 q7)) = w81 at *
  go_wp2_with fail
  rw [rounds_succ]
  have Bz := Blk.new w81 #[.int .i16 0, .int .i16 0, .int .i16 0, .int .i16 0, .int .u8 0, .int .u8 0, .int .u8 0, .int .u8 0, .bool false] 25
  have X5 := Bz.setRow #[.int .i16 c_x, .int .i16 c_y, .int .i16 c_z, .int .i16 c_w, .int .u8 c_r, .int .u8 c_g, .int .u8 c_b, .int .u8 c_a, .bool c_f]
  have y5 : Ext w81 ((w81.alloc (.cells #[.int .i16 0, .int .i16 0, .int .i16 0, .int .i16 0, .int .u8 0, .int .u8 0, .int .u8 0, .int .u8 0, .bool false] 25)).setRow w81.heap.size #[.int .i16 c_x, .int .i16 c_y, .int .i16 c_z, .int .i16 c_w, .int .u8 c_r, .int .u8 c_g, .int .u8 c_b, .int .u8 c_a, .bool c_f]) := ((Ext.refl _).alloc _ _).setRow (Nat.le_refl _) _
  go_upto_region 5 with (first
    | ((with_reducible refine wpList_store_blk (op := ⟨none, .store 25 (.tmp 5) (.tmp 11), _, _, _, _⟩) ?_ 25 (.tmp 5) (.tmp 11) ?_ (w81.heap.size) ?_ (cs := #[.int .i16 c_x, .int .i16 c_y, .int .i16 c_z, .int .i16 c_w, .int .u8 c_r, .int .u8 c_g, .int .u8 c_b, .int .u8 c_a, .bool c_f]) ?_ (z := #[.int .i16 0, .int .i16 0, .int .i16 0, .int .i16 0, .int .u8 0, .int .u8 0, .int .u8 0, .int .u8 0, .bool false]) (T := 25) ?_ ?_ ?_ ?_ ?_); rfl; rfl; rfl; rfl; exact Bz; kernel_rfl; kernel_rfl; kernel_rfl)
    | fail)
  have x3 := x3.trans y5
  have B2 := B2.ext y5
  have B3 := B3.ext y5
  clear Bz y5
  generalize (w81.alloc (.cells #[.int .i16 0, .int .i16 0, .int .i16 0, .int .i16 0, .int .u8 0, .int .u8 0, .int .u8 0, .int .u8 0, .bool false] 25)).setRow w81.heap.size #[.int .i16 c_x, .int .i16 c_y, .int .i16 c_z, .int .i16 c_w, .int .u8 c_r, .int .u8 c_g, .int .u8 c_b, .int .u8 c_a, .bool c_f] = w52 at *
  generalize w81.heap.size = b52 at *
  go_wp2_with (first
    | ((with_reducible refine wpList_load_blk (op := ⟨some 12, _, _, _, _, _⟩) ?_ 25 (.tmp 5) ?_ (b52) ?_ (z := _) (T := 25) X5 Try.underlying25 ?_ ?_ ?_); rfl; rfl; rfl; rfl; kernel_rfl)
    | fail)
  refine (H2.out _).mono ?_
  rintro e w62 ⟨rfl, x6⟩
  have x3 := x3.trans x6
  have B2 := B2.ext x6
  have B3 := B3.ext x6
  clear X5 x6
  have Bz := Blk.new w62 #[.int .i64 0, .int .i64 0, .int .i64 0, .int .i64 0, .int .i64 0, .int .i64 0, .int .i64 0, .int .i64 0] 84
  have X6 := Bz.setRow #[.int .i64 r0, .int .i64 r1, .int .i64 r2, .int .i64 r3, .int .i64 r4, .int .i64 r5, .int .i64 r6, .int .i64 r7]
  have y6 : Ext w62 ((w62.alloc (.cells #[.int .i64 0, .int .i64 0, .int .i64 0, .int .i64 0, .int .i64 0, .int .i64 0, .int .i64 0, .int .i64 0] 84)).setRow w62.heap.size #[.int .i64 r0, .int .i64 r1, .int .i64 r2, .int .i64 r3, .int .i64 r4, .int .i64 r5, .int .i64 r6, .int .i64 r7]) := ((Ext.refl _).alloc _ _).setRow (Nat.le_refl _) _
  go_upto_region 6 with (first
    | ((with_reducible refine wpList_store_blk (op := ⟨none, .store 84 (.tmp 6) (.tmp 13), _, _, _, _⟩) ?_ 84 (.tmp 6) (.tmp 13) ?_ (w62.heap.size) ?_ (cs := #[.int .i64 r0, .int .i64 r1, .int .i64 r2, .int .i64 r3, .int .i64 r4, .int .i64 r5, .int .i64 r6, .int .i64 r7]) ?_ (z := #[.int .i64 0, .int .i64 0, .int .i64 0, .int .i64 0, .int .i64 0, .int .i64 0, .int .i64 0, .int .i64 0]) (T := 84) ?_ ?_ ?_ ?_ ?_); rfl; rfl; rfl; rfl; exact Bz; kernel_rfl; kernel_rfl; kernel_rfl)
    | fail)
  have x3 := x3.trans y6
  have B2 := B2.ext y6
  have B3 := B3.ext y6
  clear Bz y6
  generalize (w62.alloc (.cells #[.int .i64 0, .int .i64 0, .int .i64 0, .int .i64 0, .int .i64 0, .int .i64 0, .int .i64 0, .int .i64 0] 84)).setRow w62.heap.size #[.int .i64 r0, .int .i64 r1, .int .i64 r2, .int .i64 r3, .int .i64 r4, .int .i64 r5, .int .i64 r6, .int .i64 r7] = w72 at *
  generalize w62.heap.size = b62 at *
  have cX6 := X6.cell
  have cB3 := B3.cell
  have fB3 := B3.frozen
  go_upto_region 7 with fail
  have B3 : Blk ((((((((w72.setCell ⟨w.heap.size + 1 + 1, 16, none⟩ (.int .i64 r0)).setCell ⟨w.heap.size + 1 + 1, 17, none⟩ (.int .i64 r1)).setCell ⟨w.heap.size + 1 + 1, 18, none⟩ (.int .i64 r2)).setCell ⟨w.heap.size + 1 + 1, 19, none⟩ (.int .i64 r3)).setCell ⟨w.heap.size + 1 + 1, 20, none⟩ (.int .i64 r4)).setCell ⟨w.heap.size + 1 + 1, 21, none⟩ (.int .i64 r5)).setCell ⟨w.heap.size + 1 + 1, 22, none⟩ (.int .i64 r6)).setCell ⟨w.heap.size + 1 + 1, 23, none⟩ (.int .i64 r7)) (w.heap.size + 1 + 1) #[.int .i64 p0, .int .i64 p1, .int .i64 p2, .int .i64 p3, .int .i64 p4, .int .i64 p5, .int .i64 p6, .int .i64 p7, .int .i64 q0, .int .i64 q1, .int .i64 q2, .int .i64 q3, .int .i64 q4, .int .i64 q5, .int .i64 q6, .int .i64 q7, .int .i64 r0, .int .i64 r1, .int .i64 r2, .int .i64 r3, .int .i64 r4, .int .i64 r5, .int .i64 r6, .int .i64 r7] 33 := by simpa using ((((((((B3.set 16 (.int .i64 r0)).set 17 (.int .i64 r1)).set 18 (.int .i64 r2)).set 19 (.int .i64 r3)).set 20 (.int .i64 r4)).set 21 (.int .i64 r5)).set 22 (.int .i64 r6)).set 23 (.int .i64 r7))
  have B2 : Blk ((((((((w72.setCell ⟨w.heap.size + 1 + 1, 16, none⟩ (.int .i64 r0)).setCell ⟨w.heap.size + 1 + 1, 17, none⟩ (.int .i64 r1)).setCell ⟨w.heap.size + 1 + 1, 18, none⟩ (.int .i64 r2)).setCell ⟨w.heap.size + 1 + 1, 19, none⟩ (.int .i64 r3)).setCell ⟨w.heap.size + 1 + 1, 20, none⟩ (.int .i64 r4)).setCell ⟨w.heap.size + 1 + 1, 21, none⟩ (.int .i64 r5)).setCell ⟨w.heap.size + 1 + 1, 22, none⟩ (.int .i64 r6)).setCell ⟨w.heap.size + 1 + 1, 23, none⟩ (.int .i64 r7)) (w.heap.size + 1) #[.int .i64 0, .int .i64 0, .int .i64 0, .int .i64 0, .int .i64 0, .int .i64 0, .int .i64 0, .int .i64 0, .int .i64 0, .int .i64 0, .int .i64 0, .int .i64 0, .int .i64 0, .int .i64 0, .int .i64 0, .int .i64 0, .int .i64 0, .int .i64 0, .int .i64 0, .int .i64 0, .int .i64 0, .int .i64 0, .int .i64 0, .int .i64 0] 33 := ((((((((B2.far (p := ⟨w.heap.size + 1 + 1, 16, none⟩) (by simp only; omega) (.int .i64 r0)).far (p := ⟨w.heap.size + 1 + 1, 17, none⟩) (by simp only; omega) (.int .i64 r1)).far (p := ⟨w.heap.size + 1 + 1, 18, none⟩) (by simp only; omega) (.int .i64 r2)).far (p := ⟨w.heap.size + 1 + 1, 19, none⟩) (by simp only; omega) (.int .i64 r3)).far (p := ⟨w.heap.size + 1 + 1, 20, none⟩) (by simp only; omega) (.int .i64 r4)).far (p := ⟨w.heap.size + 1 + 1, 21, none⟩) (by simp only; omega) (.int .i64 r5)).far (p := ⟨w.heap.size + 1 + 1, 22, none⟩) (by simp only; omega) (.int .i64 r6)).far (p := ⟨w.heap.size + 1 + 1, 23, none⟩) (by simp only; omega) (.int .i64 r7))
  have x3 : Ext w ((((((((w72.setCell ⟨w.heap.size + 1 + 1, 16, none⟩ (.int .i64 r0)).setCell ⟨w.heap.size + 1 + 1, 17, none⟩ (.int .i64 r1)).setCell ⟨w.heap.size + 1 + 1, 18, none⟩ (.int .i64 r2)).setCell ⟨w.heap.size + 1 + 1, 19, none⟩ (.int .i64 r3)).setCell ⟨w.heap.size + 1 + 1, 20, none⟩ (.int .i64 r4)).setCell ⟨w.heap.size + 1 + 1, 21, none⟩ (.int .i64 r5)).setCell ⟨w.heap.size + 1 + 1, 22, none⟩ (.int .i64 r6)).setCell ⟨w.heap.size + 1 + 1, 23, none⟩ (.int .i64 r7)) := ((((((((x3.setCell (by show w.heap.size ≤ w.heap.size + 1 + 1; omega) (.int .i64 r0) (p := ⟨w.heap.size + 1 + 1, 16, none⟩)).setCell (by show w.heap.size ≤ w.heap.size + 1 + 1; omega) (.int .i64 r1) (p := ⟨w.heap.size + 1 + 1, 17, none⟩)).setCell (by show w.heap.size ≤ w.heap.size + 1 + 1; omega) (.int .i64 r2) (p := ⟨w.heap.size + 1 + 1, 18, none⟩)).setCell (by show w.heap.size ≤ w.heap.size + 1 + 1; omega) (.int .i64 r3) (p := ⟨w.heap.size + 1 + 1, 19, none⟩)).setCell (by show w.heap.size ≤ w.heap.size + 1 + 1; omega) (.int .i64 r4) (p := ⟨w.heap.size + 1 + 1, 20, none⟩)).setCell (by show w.heap.size ≤ w.heap.size + 1 + 1; omega) (.int .i64 r5) (p := ⟨w.heap.size + 1 + 1, 21, none⟩)).setCell (by show w.heap.size ≤ w.heap.size + 1 + 1; omega) (.int .i64 r6) (p := ⟨w.heap.size + 1 + 1, 22, none⟩)).setCell (by show w.heap.size ≤ w.heap.size + 1 + 1; omega) (.int .i64 r7) (p := ⟨w.heap.size + 1 + 1, 23, none⟩))
  clear cX6 cB3 fB3 X6
  generalize ((((((((w72.setCell ⟨w.heap.size + 1 + 1, 16, none⟩ (.int .i64 r0)).setCell ⟨w.heap.size + 1 + 1, 17, none⟩ (.int .i64 r1)).setCell ⟨w.heap.size + 1 + 1, 18, none⟩ (.int .i64 r2)).setCell ⟨w.heap.size + 1 + 1, 19, none⟩ (.int .i64 r3)).setCell ⟨w.heap.size + 1 + 1, 20, none⟩ (.int .i64 r4)).setCell ⟨w.heap.size + 1 + 1, 21, none⟩ (.int .i64 r5)).setCell ⟨w.heap.size + 1 + 1, 22, none⟩ (.int .i64 r6)).setCell ⟨w.heap.size + 1 + 1, 23, none⟩ (.int .i64 r7)) = w82 at *
  go_wp2_with fail
  rw [rounds_succ]
  go_upto_region 8 with fail
  have Bf := B2.setRow #[.int .i64 p0, .int .i64 p1, .int .i64 p2, .int .i64 p3, .int .i64 p4, .int .i64 p5, .int .i64 p6, .int .i64 p7, .int .i64 q0, .int .i64 q1, .int .i64 q2, .int .i64 q3, .int .i64 q4, .int .i64 q5, .int .i64 q6, .int .i64 q7, .int .i64 r0, .int .i64 r1, .int .i64 r2, .int .i64 r3, .int .i64 r4, .int .i64 r5, .int .i64 r6, .int .i64 r7]
  have Ef := x3.setRow (g := w.heap.size + 1) (by omega) #[.int .i64 p0, .int .i64 p1, .int .i64 p2, .int .i64 p3, .int .i64 p4, .int .i64 p5, .int .i64 p6, .int .i64 p7, .int .i64 q0, .int .i64 q1, .int .i64 q2, .int .i64 q3, .int .i64 q4, .int .i64 q5, .int .i64 q6, .int .i64 q7, .int .i64 r0, .int .i64 r1, .int .i64 r2, .int .i64 r3, .int .i64 r4, .int .i64 r5, .int .i64 r6, .int .i64 r7]
  go_wp2_with (first
    | ((with_reducible refine wpList_load_blk (op := ⟨some 22, _, _, _, _, _⟩) ?_ 33 (.tmp 3) ?_ (w.heap.size + 1 + 1) ?_ (z := _) (T := 33) B3 Try.underlying33 ?_ ?_ ?_); rfl; rfl; rfl; rfl; kernel_rfl)
    | ((with_reducible refine wpList_store_blk (op := ⟨none, .store 33 (.tmp 2) (.tmp 22), _, _, _, _⟩) ?_ 33 (.tmp 2) (.tmp 22) ?_ (w.heap.size + 1) ?_ (cs := #[.int .i64 p0, .int .i64 p1, .int .i64 p2, .int .i64 p3, .int .i64 p4, .int .i64 p5, .int .i64 p6, .int .i64 p7, .int .i64 q0, .int .i64 q1, .int .i64 q2, .int .i64 q3, .int .i64 q4, .int .i64 q5, .int .i64 q6, .int .i64 q7, .int .i64 r0, .int .i64 r1, .int .i64 r2, .int .i64 r3, .int .i64 r4, .int .i64 r5, .int .i64 r6, .int .i64 r7]) ?_ (z := #[.int .i64 0, .int .i64 0, .int .i64 0, .int .i64 0, .int .i64 0, .int .i64 0, .int .i64 0, .int .i64 0, .int .i64 0, .int .i64 0, .int .i64 0, .int .i64 0, .int .i64 0, .int .i64 0, .int .i64 0, .int .i64 0, .int .i64 0, .int .i64 0, .int .i64 0, .int .i64 0, .int .i64 0, .int .i64 0, .int .i64 0, .int .i64 0]) (T := 33) ?_ ?_ ?_ ?_ ?_); rfl; rfl; rfl; rfl; exact B2; kernel_rfl; kernel_rfl; kernel_rfl)
    | fail)
  exact bodyPost_ret (v := .agg #[.int .i64 p0, .int .i64 p1, .int .i64 p2, .int .i64 p3, .int .i64 p4, .int .i64 p5, .int .i64 p6, .int .i64 p7, .int .i64 q0, .int .i64 q1, .int .i64 q2, .int .i64 q3, .int .i64 q4, .int .i64 q5, .int .i64 q6, .int .i64 q7, .int .i64 r0, .int .i64 r1, .int .i64 r2, .int .i64 r3, .int .i64 r4, .int .i64 r5, .int .i64 r6, .int .i64 r7]) (results_blk (b := w.heap.size + 1) (t := 2) (ty := 33) rfl rfl Bf Try.underlying33 rfl (by kernel_rfl)) rfl ⟨rfl, Ef⟩
theorem vertices12_any (x y z : VSm) (hx : x.ok) (hy : y.ok) (hz : z.ok) (w : World) : Calls Try.prog 10 #[.agg (x.l ++ (y.l ++ z.l)).toArray] w fun e w' => e = .returned (.agg ((vxF x).l ++ ((vxF y).l ++ (vxF z).l)).toArray) ∧ Ext w w' :=
  vertices12_main x.x x.y x.z x.w x.r x.g x.b x.a y.x y.y y.z y.w y.r y.g y.b y.a z.x z.y z.z z.w z.r z.g z.b z.a x.far y.far z.far (vxF x).p0 (vxF x).p1 (vxF x).p2 (vxF x).p3 (vxF x).c0 (vxF x).c1 (vxF x).c2 (vxF x).c3 (vxF y).p0 (vxF y).p1 (vxF y).p2 (vxF y).p3 (vxF y).c0 (vxF y).c1 (vxF y).c2 (vxF y).c3 (vxF z).p0 (vxF z).p1 (vxF z).p2 (vxF z).p3 (vxF z).c0 (vxF z).c1 (vxF z).c2 (vxF z).c3 w (fun u => vertex11_any x hx u) (fun u => vertex11_any y hy u) (fun u => vertex11_any z hz u)
end Go.Proofs.Ytglehnmkdapnpaa

namespace Go.Proofs.Ytglehnmkdapnpaa
open Go.RowKit
set_option linter.unusedVariables false
theorem Blk.mid {w : World} {b : Nat} {z : Array Value} {T : TypeId} (h : Blk w b z T) (o : Nat) (cs : List Value) (hcs : (z.toList.drop o).take cs.length = cs) : w.rangeAt b o cs := fun j v hv => by
  rw [h.cell]
  rw [← hcs, List.getElem?_take] at hv
  split at hv
  · rw [List.getElem?_drop] at hv
    simpa using hv
  · cases hv
set_option maxRecDepth 100000 in
theorem idx24 (a0 a1 a2 a3 a4 a5 a6 a7 b0 b1 b2 b3 b4 b5 b6 b7 c0 c1 c2 c3 c4 c5 c6 c7 : Value) (w : World) :
    (Instr.index 33 (.agg #[a0, a1, a2, a3, a4, a5, a6, a7, b0, b1, b2, b3, b4, b5, b6, b7, c0, c1, c2, c3, c4, c5, c6, c7]) (.int .i64 0)).run Try.prog w = .ok (.agg #[a0, a1, a2, a3, a4, a5, a6, a7]) w ∧
    (Instr.index 33 (.agg #[a0, a1, a2, a3, a4, a5, a6, a7, b0, b1, b2, b3, b4, b5, b6, b7, c0, c1, c2, c3, c4, c5, c6, c7]) (.int .i64 1)).run Try.prog w = .ok (.agg #[b0, b1, b2, b3, b4, b5, b6, b7]) w ∧
    (Instr.index 33 (.agg #[a0, a1, a2, a3, a4, a5, a6, a7, b0, b1, b2, b3, b4, b5, b6, b7, c0, c1, c2, c3, c4, c5, c6, c7]) (.int .i64 2)).run Try.prog w = .ok (.agg #[c0, c1, c2, c3, c4, c5, c6, c7]) w := by
  refine ⟨?_, ?_, ?_⟩ <;> simp [Instr.index, asIntOf, run_underlying Try.underlying33, go_sem, part]
theorem vx_in {v : VSm} (h : v.ok) : (vxF v).inP ∧ (vxF v).inC 0 65536 := by
  obtain ⟨a, b0, b1, b2, b3⟩ := vxF_bd h
  exact ⟨a, by refine ⟨?_, ?_, ?_, ?_⟩ <;> omega⟩
theorem vx_fine {v : VSm} (h : v.ok) : (vxF v).fine := by
  obtain ⟨a, b0, b1, b2, b3⟩ := vxF_bd h
  exact ⟨a, by refine ⟨?_, ?_, ?_, ?_⟩ <;> omega⟩
theorem three_all {P : V8 → Prop} {x y z : V8} (hx : P x) (hy : P y) (hz : P z) : ∀ q ∈ [x, y, z], P q := by
  intro q hq
  simp only [List.mem_cons, List.not_mem_nil, or_false] at hq
  rcases hq with rfl | rfl | rfl <;> assumption
theorem gend_le (l : List V8) : (gend l).length ≤ 16 := by
  rcases gend_len l with h | h <;> omega
theorem inside_fine (v : V8) (h : v.fine) (k : Nat) (u : World) : Calls Try.prog 47 #[.agg v.l.toArray, .int .i64 (k : Int)] u fun e w' => e = .returned (.int .i64 (insF v k)) ∧ Ext u w' := by
  have := insideN_any v h.in64 k u
  rw [V8.lim_id h] at this
  exact this
end Go.Proofs.Ytglehnmkdapnpaa

namespace Go.Proofs.Ytglehnmkdapnpaa
open Go.RowKit
set_option linter.unusedVariables false
section
variable {P : Program} {ops : Array Oper} {rest : List Oper} {o : Oper} {a : Act} {w : World} {Q : Exit → Act → World → Prop}
theorem wpList_build_eq (hg : o.guard = none) (t : TypeId) (parts : Array (Nat × Operand)) (ho : o.op = .build t parts) (cells : Array Value)
    (hb : P.built t (parts.map fun (i, x) => (i, a.eval x)).toList = some cells) (h : wpList P ops Q rest (a.put o.dst (.agg cells)) w) : wpList P ops Q (o :: rest) a w :=
  wpList_build hg t parts ho (by rw [hb]; rfl) (by rw [hb]; exact h)
theorem wpList_slice_eq (hg : o.guard = none) (t e : TypeId) (len : Nat) (parts : Array (Nat × Operand)) (ho : o.op = .buildSlice t len parts) (cells : Array Value) (n : Nat) (z : Value)
    (hu : P.underlying t = some (.slice e)) (hi : (P.info? e).map (fun i => (i.zero, i.size)) = some (some z, n)) (hsmall : ¬ len * n > 2 ^ 24) (hpos : ¬ len * n = 0)
    (hf : Instr.fill (fun i => some (i * n, n)) ((Array.range (len * n)).map (z.cells[· % z.cells.size]!)) (parts.map fun (i, x) => (i, a.eval x)).toList = some cells)
    (h : wpList P ops Q rest (a.put o.dst (.slice (some ⟨w.heap.size, 0, none⟩) len len)) (w.alloc (.cells cells e))) : wpList P ops Q (o :: rest) a w := by
  cases hie : P.info? e with
  | none => rw [hie] at hi; cases hi
  | some ie =>
    rw [hie] at hi
    simp only [Option.map_some, Option.some.injEq, Prod.mk.injEq] at hi
    obtain ⟨h1, rfl⟩ := hi
    exact wpList_buildSlice hg t e len parts ho cells ie z hu hie h1 hsmall hpos hf h
end
theorem idx4 (x0 x1 x2 x3 : Value) (w : World) :
    (Instr.index 30 (.agg #[x0, x1, x2, x3]) (.int .i64 0)).run Try.prog w = .ok x0 w ∧
    (Instr.index 30 (.agg #[x0, x1, x2, x3]) (.int .i64 1)).run Try.prog w = .ok x1 w ∧
    (Instr.index 30 (.agg #[x0, x1, x2, x3]) (.int .i64 2)).run Try.prog w = .ok x2 w ∧
    (Instr.index 30 (.agg #[x0, x1, x2, x3]) (.int .i64 3)).run Try.prog w = .ok x3 w := by
  refine ⟨?_, ?_, ?_, ?_⟩ <;> simp [Instr.index, asIntOf, run_underlying Try.underlying30, go_sem, part]
end Go.Proofs.Ytglehnmkdapnpaa

namespace Go.Proofs.Ytglehnmkdapnpaa
open Go.RowKit
set_option linter.unusedVariables false
theorem awake_l : gend (gplanes [⟨0, 0, 0, 65536, 0, 0, 0, 0⟩, ⟨9, 0, 0, 65536, 0, 0, 0, 0⟩, ⟨0, 9, 0, 65536, 0, 0, 0, 0⟩] 7) = [⟨0, 0, 0, 65536, 0, 0, 0, 0⟩, ⟨9, 0, 0, 65536, 0, 0, 0, 0⟩, ⟨0, 9, 0, 65536, 0, 0, 0, 0⟩] := by decide +kernel
end Go.Proofs.Ytglehnmkdapnpaa

