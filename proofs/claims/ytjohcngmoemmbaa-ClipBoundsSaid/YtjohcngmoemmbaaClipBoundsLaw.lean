/-
  DERIVED. ClipBounds (made by mkcliplaws.py).
-/
import Derived.Test.YtjohcngmoemmbaaClipBuilds
namespace Go.Proofs.Ytjohcngmoemmbaa
open Go.RowKit
set_option linter.unusedVariables false
set_option maxRecDepth 100000 in
set_option maxHeartbeats 4000000 in
theorem bounds_main (xa_x xa_y xa_z xa_w xa_r xa_g xa_b xa_a xb_x xb_y xb_z xb_w xb_r xb_g xb_b xb_a xc_x xc_y xc_z xc_w xc_r xc_g xc_b xc_a : Int) (xa_f xb_f xc_f : Bool) (a0 a1 a2 a3 a4 a5 a6 a7 b0 b1 b2 b3 b4 b5 b6 b7 c0 c1 c2 c3 c4 c5 c6 c7 d0 d1 d2 d3 d4 d5 d6 d7 d8 d9 d10 d11 e0 e1 e2 e3 e4 e5 e6 e7 e8 e9 e10 e11 : Int) (L0 L1 : List V8) (hV : ∀ u, Calls Try.prog 9 #[.agg #[.int .i16 xa_x, .int .i16 xa_y, .int .i16 xa_z, .int .i16 xa_w, .int .u8 xa_r, .int .u8 xa_g, .int .u8 xa_b, .int .u8 xa_a, .bool xa_f, .int .i16 xb_x, .int .i16 xb_y, .int .i16 xb_z, .int .i16 xb_w, .int .u8 xb_r, .int .u8 xb_g, .int .u8 xb_b, .int .u8 xb_a, .bool xb_f, .int .i16 xc_x, .int .i16 xc_y, .int .i16 xc_z, .int .i16 xc_w, .int .u8 xc_r, .int .u8 xc_g, .int .u8 xc_b, .int .u8 xc_a, .bool xc_f]] u fun e w' => e = .returned (.agg #[.int .i64 a0, .int .i64 a1, .int .i64 a2, .int .i64 a3, .int .i64 a4, .int .i64 a5, .int .i64 a6, .int .i64 a7, .int .i64 b0, .int .i64 b1, .int .i64 b2, .int .i64 b3, .int .i64 b4, .int .i64 b5, .int .i64 b6, .int .i64 b7, .int .i64 c0, .int .i64 c1, .int .i64 c2, .int .i64 c3, .int .i64 c4, .int .i64 c5, .int .i64 c6, .int .i64 c7]) ∧ Ext u w')
    (hC0 : ∀ u, Calls Try.prog 12 #[.agg #[.int .i64 a0, .int .i64 a1, .int .i64 a2, .int .i64 a3, .int .i64 a4, .int .i64 a5, .int .i64 a6, .int .i64 a7], .agg #[.int .i64 b0, .int .i64 b1, .int .i64 b2, .int .i64 b3, .int .i64 b4, .int .i64 b5, .int .i64 b6, .int .i64 b7], .agg #[.int .i64 c0, .int .i64 c1, .int .i64 c2, .int .i64 c3, .int .i64 c4, .int .i64 c5, .int .i64 c6, .int .i64 c7]] u fun e w' => ∃ r, e = .returned r ∧ OwnG LC w' u.heap.size r L0 ∧ Ext u w') (hS0 : ∀ x ∈ L0, x.shown) (hl0 : L0.length = 0 ∨ (3 ≤ L0.length ∧ L0.length ≤ 16))
    (hC1 : ∀ u, Calls Try.prog 12 #[.agg #[.int .i64 d0, .int .i64 d1, .int .i64 d2, .int .i64 d3, .int .i64 e0, .int .i64 e1, .int .i64 e2, .int .i64 e3], .agg #[.int .i64 d4, .int .i64 d5, .int .i64 d6, .int .i64 d7, .int .i64 e4, .int .i64 e5, .int .i64 e6, .int .i64 e7], .agg #[.int .i64 d8, .int .i64 d9, .int .i64 d10, .int .i64 d11, .int .i64 e8, .int .i64 e9, .int .i64 e10, .int .i64 e11]] u fun e w' => ∃ r, e = .returned r ∧ OwnG LC w' u.heap.size r L1 ∧ Ext u w') (hS1 : ∀ x ∈ L1, x.shown) (hl1 : L1.length = 0 ∨ (3 ≤ L1.length ∧ L1.length ≤ 16)) (w : World) :
    Calls Try.prog 7 #[.agg #[.int .i16 xa_x, .int .i16 xa_y, .int .i16 xa_z, .int .i16 xa_w, .int .u8 xa_r, .int .u8 xa_g, .int .u8 xa_b, .int .u8 xa_a, .bool xa_f, .int .i16 xb_x, .int .i16 xb_y, .int .i16 xb_z, .int .i16 xb_w, .int .u8 xb_r, .int .u8 xb_g, .int .u8 xb_b, .int .u8 xb_a, .bool xb_f, .int .i16 xc_x, .int .i16 xc_y, .int .i16 xc_z, .int .i16 xc_w, .int .u8 xc_r, .int .u8 xc_g, .int .u8 xc_b, .int .u8 xc_a, .bool xc_f], .agg #[.int .i64 d0, .int .i64 d1, .int .i64 d2, .int .i64 d3, .int .i64 d4, .int .i64 d5, .int .i64 d6, .int .i64 d7, .int .i64 d8, .int .i64 d9, .int .i64 d10, .int .i64 d11], .agg #[.int .i64 e0, .int .i64 e1, .int .i64 e2, .int .i64 e3, .int .i64 e4, .int .i64 e5, .int .i64 e6, .int .i64 e7, .int .i64 e8, .int .i64 e9, .int .i64 e10, .int .i64 e11]] w fun e w' => e = .returned (.bool true) ∧ Ext w w' := by
  have HC0 := Lib.hid hC0
  have HC1 := Lib.hid hC1
  have HS0 := Lib.hid hS0
  have HS1 := Lib.hid hS1
  clear hC0 hC1 hS0 hS1
  have HV := Lib.hid hV
  clear hV
  have x0 : Ext w (((w.alloc (.cells #[.int .i16 xa_x, .int .i16 xa_y, .int .i16 xa_z, .int .i16 xa_w, .int .u8 xa_r, .int .u8 xa_g, .int .u8 xa_b, .int .u8 xa_a, .bool xa_f, .int .i16 xb_x, .int .i16 xb_y, .int .i16 xb_z, .int .i16 xb_w, .int .u8 xb_r, .int .u8 xb_g, .int .u8 xb_b, .int .u8 xb_a, .bool xb_f, .int .i16 xc_x, .int .i16 xc_y, .int .i16 xc_z, .int .i16 xc_w, .int .u8 xc_r, .int .u8 xc_g, .int .u8 xc_b, .int .u8 xc_a, .bool xc_f] 27)).alloc (.cells #[.int .i64 d0, .int .i64 d1, .int .i64 d2, .int .i64 d3, .int .i64 d4, .int .i64 d5, .int .i64 d6, .int .i64 d7, .int .i64 d8, .int .i64 d9, .int .i64 d10, .int .i64 d11] 52)).alloc (.cells #[.int .i64 e0, .int .i64 e1, .int .i64 e2, .int .i64 e3, .int .i64 e4, .int .i64 e5, .int .i64 e6, .int .i64 e7, .int .i64 e8, .int .i64 e9, .int .i64 e10, .int .i64 e11] 52)) := ((((Ext.refl w).alloc _ _).alloc _ _).alloc _ _)
  have B1 := (((Blk.new w #[.int .i16 xa_x, .int .i16 xa_y, .int .i16 xa_z, .int .i16 xa_w, .int .u8 xa_r, .int .u8 xa_g, .int .u8 xa_b, .int .u8 xa_a, .bool xa_f, .int .i16 xb_x, .int .i16 xb_y, .int .i16 xb_z, .int .i16 xb_w, .int .u8 xb_r, .int .u8 xb_g, .int .u8 xb_b, .int .u8 xb_a, .bool xb_f, .int .i16 xc_x, .int .i16 xc_y, .int .i16 xc_z, .int .i16 xc_w, .int .u8 xc_r, .int .u8 xc_g, .int .u8 xc_b, .int .u8 xc_a, .bool xc_f] 27).alloc (.cells #[.int .i64 d0, .int .i64 d1, .int .i64 d2, .int .i64 d3, .int .i64 d4, .int .i64 d5, .int .i64 d6, .int .i64 d7, .int .i64 d8, .int .i64 d9, .int .i64 d10, .int .i64 d11] 52)).alloc (.cells #[.int .i64 e0, .int .i64 e1, .int .i64 e2, .int .i64 e3, .int .i64 e4, .int .i64 e5, .int .i64 e6, .int .i64 e7, .int .i64 e8, .int .i64 e9, .int .i64 e10, .int .i64 e11] 52))
  have D0 := ((Blk.new (w.alloc (.cells #[.int .i16 xa_x, .int .i16 xa_y, .int .i16 xa_z, .int .i16 xa_w, .int .u8 xa_r, .int .u8 xa_g, .int .u8 xa_b, .int .u8 xa_a, .bool xa_f, .int .i16 xb_x, .int .i16 xb_y, .int .i16 xb_z, .int .i16 xb_w, .int .u8 xb_r, .int .u8 xb_g, .int .u8 xb_b, .int .u8 xb_a, .bool xb_f, .int .i16 xc_x, .int .i16 xc_y, .int .i16 xc_z, .int .i16 xc_w, .int .u8 xc_r, .int .u8 xc_g, .int .u8 xc_b, .int .u8 xc_a, .bool xc_f] 27)) #[.int .i64 d0, .int .i64 d1, .int .i64 d2, .int .i64 d3, .int .i64 d4, .int .i64 d5, .int .i64 d6, .int .i64 d7, .int .i64 d8, .int .i64 d9, .int .i64 d10, .int .i64 d11] 52).alloc (.cells #[.int .i64 e0, .int .i64 e1, .int .i64 e2, .int .i64 e3, .int .i64 e4, .int .i64 e5, .int .i64 e6, .int .i64 e7, .int .i64 e8, .int .i64 e9, .int .i64 e10, .int .i64 e11] 52))
  have D1 := (Blk.new ((w.alloc (.cells #[.int .i16 xa_x, .int .i16 xa_y, .int .i16 xa_z, .int .i16 xa_w, .int .u8 xa_r, .int .u8 xa_g, .int .u8 xa_b, .int .u8 xa_a, .bool xa_f, .int .i16 xb_x, .int .i16 xb_y, .int .i16 xb_z, .int .i16 xb_w, .int .u8 xb_r, .int .u8 xb_g, .int .u8 xb_b, .int .u8 xb_a, .bool xb_f, .int .i16 xc_x, .int .i16 xc_y, .int .i16 xc_z, .int .i16 xc_w, .int .u8 xc_r, .int .u8 xc_g, .int .u8 xc_b, .int .u8 xc_a, .bool xc_f] 27)).alloc (.cells #[.int .i64 d0, .int .i64 d1, .int .i64 d2, .int .i64 d3, .int .i64 d4, .int .i64 d5, .int .i64 d6, .int .i64 d7, .int .i64 d8, .int .i64 d9, .int .i64 d10, .int .i64 d11] 52)) #[.int .i64 e0, .int .i64 e1, .int .i64 e2, .int .i64 e3, .int .i64 e4, .int .i64 e5, .int .i64 e6, .int .i64 e7, .int .i64 e8, .int .i64 e9, .int .i64 e10, .int .i64 e11] 52)
  go_enter Try.func7, Try.ntmps7
  go_upto_region 1 with fail
  simp only [World.size_alloc] at D0 D1
  generalize (((w.alloc (.cells #[.int .i16 xa_x, .int .i16 xa_y, .int .i16 xa_z, .int .i16 xa_w, .int .u8 xa_r, .int .u8 xa_g, .int .u8 xa_b, .int .u8 xa_a, .bool xa_f, .int .i16 xb_x, .int .i16 xb_y, .int .i16 xb_z, .int .i16 xb_w, .int .u8 xb_r, .int .u8 xb_g, .int .u8 xb_b, .int .u8 xb_a, .bool xb_f, .int .i16 xc_x, .int .i16 xc_y, .int .i16 xc_z, .int .i16 xc_w, .int .u8 xc_r, .int .u8 xc_g, .int .u8 xc_b, .int .u8 xc_a, .bool xc_f] 27)).alloc (.cells #[.int .i64 d0, .int .i64 d1, .int .i64 d2, .int .i64 d3, .int .i64 d4, .int .i64 d5, .int .i64 d6, .int .i64 d7, .int .i64 d8, .int .i64 d9, .int .i64 d10, .int .i64 d11] 52)).alloc (.cells #[.int .i64 e0, .int .i64 e1, .int .i64 e2, .int .i64 e3, .int .i64 e4, .int .i64 e5, .int .i64 e6, .int .i64 e7, .int .i64 e8, .int .i64 e9, .int .i64 e10, .int .i64 e11] 52)) = w0 at *
  go_wp2_with fail
  refine (awake12_any _).mono ?_
  rintro e w1 ⟨rfl, x1⟩
  have x01 := x0.trans x1
  have B1 := B1.ext x1
  have D0 := D0.ext x1
  have D1 := D1.ext x1
  clear x0 x1
  go_wp2_with (first
    | ((with_reducible refine wpList_load_blk (op := ⟨some 17, _, _, _, _, _⟩) ?_ 27 (.tmp 3) ?_ (w.heap.size) ?_ (z := _) (T := 27) B1 Try.underlying27 ?_ ?_ ?_); rfl; rfl; rfl; rfl; kernel_rfl)
    | fail)
  refine (HV.out _).mono ?_
  rintro e w2 ⟨rfl, x2⟩
  have x02 := x01.trans x2
  have y3 : Ext w2 ((w2.alloc (.cells #[.int .i64 0, .int .i64 0, .int .i64 0, .int .i64 0, .int .i64 0, .int .i64 0, .int .i64 0, .int .i64 0, .int .i64 0, .int .i64 0, .int .i64 0, .int .i64 0, .int .i64 0, .int .i64 0, .int .i64 0, .int .i64 0, .int .i64 0, .int .i64 0, .int .i64 0, .int .i64 0, .int .i64 0, .int .i64 0, .int .i64 0, .int .i64 0] 33)).setRow w2.heap.size #[.int .i64 a0, .int .i64 a1, .int .i64 a2, .int .i64 a3, .int .i64 a4, .int .i64 a5, .int .i64 a6, .int .i64 a7, .int .i64 b0, .int .i64 b1, .int .i64 b2, .int .i64 b3, .int .i64 b4, .int .i64 b5, .int .i64 b6, .int .i64 b7, .int .i64 c0, .int .i64 c1, .int .i64 c2, .int .i64 c3, .int .i64 c4, .int .i64 c5, .int .i64 c6, .int .i64 c7]) := ((Ext.refl _).alloc _ _).setRow (Nat.le_refl _) _
  have D0 := (D0.ext x2).ext y3
  have D1 := (D1.ext x2).ext y3
  have B3 := (Blk.new w2 #[.int .i64 0, .int .i64 0, .int .i64 0, .int .i64 0, .int .i64 0, .int .i64 0, .int .i64 0, .int .i64 0, .int .i64 0, .int .i64 0, .int .i64 0, .int .i64 0, .int .i64 0, .int .i64 0, .int .i64 0, .int .i64 0, .int .i64 0, .int .i64 0, .int .i64 0, .int .i64 0, .int .i64 0, .int .i64 0, .int .i64 0, .int .i64 0] 33).setRow #[.int .i64 a0, .int .i64 a1, .int .i64 a2, .int .i64 a3, .int .i64 a4, .int .i64 a5, .int .i64 a6, .int .i64 a7, .int .i64 b0, .int .i64 b1, .int .i64 b2, .int .i64 b3, .int .i64 b4, .int .i64 b5, .int .i64 b6, .int .i64 b7, .int .i64 c0, .int .i64 c1, .int .i64 c2, .int .i64 c3, .int .i64 c4, .int .i64 c5, .int .i64 c6, .int .i64 c7]
  go_upto_region 4 with (first
    | ((with_reducible refine wpList_store_blk (op := ⟨none, .store 33 (.tmp 7) (.tmp 18), _, _, _, _⟩) ?_ 33 (.tmp 7) (.tmp 18) ?_ (w2.heap.size) ?_ (cs := #[.int .i64 a0, .int .i64 a1, .int .i64 a2, .int .i64 a3, .int .i64 a4, .int .i64 a5, .int .i64 a6, .int .i64 a7, .int .i64 b0, .int .i64 b1, .int .i64 b2, .int .i64 b3, .int .i64 b4, .int .i64 b5, .int .i64 b6, .int .i64 b7, .int .i64 c0, .int .i64 c1, .int .i64 c2, .int .i64 c3, .int .i64 c4, .int .i64 c5, .int .i64 c6, .int .i64 c7]) ?_ (z := #[.int .i64 0, .int .i64 0, .int .i64 0, .int .i64 0, .int .i64 0, .int .i64 0, .int .i64 0, .int .i64 0, .int .i64 0, .int .i64 0, .int .i64 0, .int .i64 0, .int .i64 0, .int .i64 0, .int .i64 0, .int .i64 0, .int .i64 0, .int .i64 0, .int .i64 0, .int .i64 0, .int .i64 0, .int .i64 0, .int .i64 0, .int .i64 0]) (T := 33) ?_ ?_ ?_ ?_ ?_); rfl; rfl; rfl; rfl; exact Blk.new w2 _ _; kernel_rfl; kernel_rfl; kernel_rfl)
    | fail)
  simp only [Act.put]
  have x13 := x02.trans y3
  have hb3 : w.heap.size ≤ w2.heap.size := x02.size
  clear B1 x01 x2 x02 y3 HV
  generalize (w2.alloc (.cells #[.int .i64 0, .int .i64 0, .int .i64 0, .int .i64 0, .int .i64 0, .int .i64 0, .int .i64 0, .int .i64 0, .int .i64 0, .int .i64 0, .int .i64 0, .int .i64 0, .int .i64 0, .int .i64 0, .int .i64 0, .int .i64 0, .int .i64 0, .int .i64 0, .int .i64 0, .int .i64 0, .int .i64 0, .int .i64 0, .int .i64 0, .int .i64 0] 33)).setRow w2.heap.size #[.int .i64 a0, .int .i64 a1, .int .i64 a2, .int .i64 a3, .int .i64 a4, .int .i64 a5, .int .i64 a6, .int .i64 a7, .int .i64 b0, .int .i64 b1, .int .i64 b2, .int .i64 b3, .int .i64 b4, .int .i64 b5, .int .i64 b6, .int .i64 b7, .int .i64 c0, .int .i64 c1, .int .i64 c2, .int .i64 c3, .int .i64 c4, .int .i64 c5, .int .i64 c6, .int .i64 c7] = w3 at *
  generalize w2.heap.size = gb at *
  have R0 := B3.mid 0 [.int .i64 a0, .int .i64 a1, .int .i64 a2, .int .i64 a3, .int .i64 a4, .int .i64 a5, .int .i64 a6, .int .i64 a7] rfl
  have R1 := B3.mid 8 [.int .i64 b0, .int .i64 b1, .int .i64 b2, .int .i64 b3, .int .i64 b4, .int .i64 b5, .int .i64 b6, .int .i64 b7] rfl
  have R2 := B3.mid 16 [.int .i64 c0, .int .i64 c1, .int .i64 c2, .int .i64 c3, .int .i64 c4, .int .i64 c5, .int .i64 c6, .int .i64 c7] rfl
  clear R0 R1 R2
  have P0 := D0.mid 0 [.int .i64 d0, .int .i64 d1, .int .i64 d2, .int .i64 d3] rfl
  have Q0 := D1.mid 0 [.int .i64 e0, .int .i64 e1, .int .i64 e2, .int .i64 e3] rfl
  have HP0 := Lib.hid P0
  have HQ0 := Lib.hid Q0
  have P1 := D0.mid 4 [.int .i64 d4, .int .i64 d5, .int .i64 d6, .int .i64 d7] rfl
  have Q1 := D1.mid 4 [.int .i64 e4, .int .i64 e5, .int .i64 e6, .int .i64 e7] rfl
  have HP1 := Lib.hid P1
  have HQ1 := Lib.hid Q1
  have P2 := D0.mid 8 [.int .i64 d8, .int .i64 d9, .int .i64 d10, .int .i64 d11] rfl
  have Q2 := D1.mid 8 [.int .i64 e8, .int .i64 e9, .int .i64 e10, .int .i64 e11] rfl
  have HP2 := Lib.hid P2
  have HQ2 := Lib.hid Q2
  have HB3 := Lib.hid B3
  clear P0 P1 P2 Q0 Q1 Q2 B3 D0 D1
  have BS : Blk (w3.alloc (.cells #[.int .i64 a0, .int .i64 a1, .int .i64 a2, .int .i64 a3, .int .i64 a4, .int .i64 a5, .int .i64 a6, .int .i64 a7, .int .i64 b0, .int .i64 b1, .int .i64 b2, .int .i64 b3, .int .i64 b4, .int .i64 b5, .int .i64 b6, .int .i64 b7, .int .i64 c0, .int .i64 c1, .int .i64 c2, .int .i64 c3, .int .i64 c4, .int .i64 c5, .int .i64 c6, .int .i64 c7, .int .i64 d0, .int .i64 d1, .int .i64 d2, .int .i64 d3, .int .i64 e0, .int .i64 e1, .int .i64 e2, .int .i64 e3, .int .i64 d4, .int .i64 d5, .int .i64 d6, .int .i64 d7, .int .i64 e4, .int .i64 e5, .int .i64 e6, .int .i64 e7, .int .i64 d8, .int .i64 d9, .int .i64 d10, .int .i64 d11, .int .i64 e8, .int .i64 e9, .int .i64 e10, .int .i64 e11] 33)) w3.heap.size #[.int .i64 a0, .int .i64 a1, .int .i64 a2, .int .i64 a3, .int .i64 a4, .int .i64 a5, .int .i64 a6, .int .i64 a7, .int .i64 b0, .int .i64 b1, .int .i64 b2, .int .i64 b3, .int .i64 b4, .int .i64 b5, .int .i64 b6, .int .i64 b7, .int .i64 c0, .int .i64 c1, .int .i64 c2, .int .i64 c3, .int .i64 c4, .int .i64 c5, .int .i64 c6, .int .i64 c7, .int .i64 d0, .int .i64 d1, .int .i64 d2, .int .i64 d3, .int .i64 e0, .int .i64 e1, .int .i64 e2, .int .i64 e3, .int .i64 d4, .int .i64 d5, .int .i64 d6, .int .i64 d7, .int .i64 e4, .int .i64 e5, .int .i64 e6, .int .i64 e7, .int .i64 d8, .int .i64 d9, .int .i64 d10, .int .i64 d11, .int .i64 e8, .int .i64 e9, .int .i64 e10, .int .i64 e11] 33 := Blk.new _ _ _
  have xx : Ext w (w3.alloc (.cells #[.int .i64 a0, .int .i64 a1, .int .i64 a2, .int .i64 a3, .int .i64 a4, .int .i64 a5, .int .i64 a6, .int .i64 a7, .int .i64 b0, .int .i64 b1, .int .i64 b2, .int .i64 b3, .int .i64 b4, .int .i64 b5, .int .i64 b6, .int .i64 b7, .int .i64 c0, .int .i64 c1, .int .i64 c2, .int .i64 c3, .int .i64 c4, .int .i64 c5, .int .i64 c6, .int .i64 c7, .int .i64 d0, .int .i64 d1, .int .i64 d2, .int .i64 d3, .int .i64 e0, .int .i64 e1, .int .i64 e2, .int .i64 e3, .int .i64 d4, .int .i64 d5, .int .i64 d6, .int .i64 d7, .int .i64 e4, .int .i64 e5, .int .i64 e6, .int .i64 e7, .int .i64 d8, .int .i64 d9, .int .i64 d10, .int .i64 d11, .int .i64 e8, .int .i64 e9, .int .i64 e10, .int .i64 e11] 33)) := x13.alloc _ _
  have HBS := Lib.hid BS
  have HXX := Lib.hid xx
  clear BS xx x13
  go_wp2_with (first
    | ((with_reducible refine wpList_load_blk (op := ⟨some 19, _, _, _, _, _⟩) ?_ 33 (.tmp 7) ?_ (gb) ?_ (z := _) (T := 33) HB3.out Try.underlying33 ?_ ?_ ?_); rfl; rfl; rfl; rfl; kernel_rfl)
    | ((with_reducible refine wpList_load_mid (op := ⟨some 21, _, _, _, _, _⟩) ?_ 30 (.tmp 20) ?_ (w.heap.size + 1) 0 ?_ [.int .i64 d0, .int .i64 d1, .int .i64 d2, .int .i64 d3] _ HP0.out Try.underlying30 ?_ ?_ ?_); rfl; rfl; rfl; rfl; kernel_rfl)
    | ((with_reducible refine wpList_load_mid (op := ⟨some 23, _, _, _, _, _⟩) ?_ 30 (.tmp 22) ?_ (w.heap.size + 1 + 1) 0 ?_ [.int .i64 e0, .int .i64 e1, .int .i64 e2, .int .i64 e3] _ HQ0.out Try.underlying30 ?_ ?_ ?_); rfl; rfl; rfl; rfl; kernel_rfl)
    | ((with_reducible refine wpList_load_mid (op := ⟨some 26, _, _, _, _, _⟩) ?_ 30 (.tmp 25) ?_ (w.heap.size + 1) 4 ?_ [.int .i64 d4, .int .i64 d5, .int .i64 d6, .int .i64 d7] _ HP1.out Try.underlying30 ?_ ?_ ?_); rfl; rfl; rfl; rfl; kernel_rfl)
    | ((with_reducible refine wpList_load_mid (op := ⟨some 28, _, _, _, _, _⟩) ?_ 30 (.tmp 27) ?_ (w.heap.size + 1 + 1) 4 ?_ [.int .i64 e4, .int .i64 e5, .int .i64 e6, .int .i64 e7] _ HQ1.out Try.underlying30 ?_ ?_ ?_); rfl; rfl; rfl; rfl; kernel_rfl)
    | ((with_reducible refine wpList_load_mid (op := ⟨some 31, _, _, _, _, _⟩) ?_ 30 (.tmp 30) ?_ (w.heap.size + 1) 8 ?_ [.int .i64 d8, .int .i64 d9, .int .i64 d10, .int .i64 d11] _ HP2.out Try.underlying30 ?_ ?_ ?_); rfl; rfl; rfl; rfl; kernel_rfl)
    | ((with_reducible refine wpList_load_mid (op := ⟨some 33, _, _, _, _, _⟩) ?_ 30 (.tmp 32) ?_ (w.heap.size + 1 + 1) 8 ?_ [.int .i64 e8, .int .i64 e9, .int .i64 e10, .int .i64 e11] _ HQ2.out Try.underlying30 ?_ ?_ ?_); rfl; rfl; rfl; rfl; kernel_rfl)
    | ((with_reducible refine wpList_build_eq (o := ⟨some 35, _, _, _, _, _⟩) ?_ 33 #[(0, .tmp 24), (1, .tmp 29), (2, .tmp 34)] ?_ #[.int .i64 d0, .int .i64 d1, .int .i64 d2, .int .i64 d3, .int .i64 e0, .int .i64 e1, .int .i64 e2, .int .i64 e3, .int .i64 d4, .int .i64 d5, .int .i64 d6, .int .i64 d7, .int .i64 e4, .int .i64 e5, .int .i64 e6, .int .i64 e7, .int .i64 d8, .int .i64 d9, .int .i64 d10, .int .i64 d11, .int .i64 e8, .int .i64 e9, .int .i64 e10, .int .i64 e11] ?_ ?_); rfl; rfl; kernel_rfl)
    | ((with_reducible refine wpList_slice_eq (o := ⟨some 36, _, _, _, _, _⟩) ?_ 53 33 2 #[(0, .tmp 19), (1, .tmp 35)] ?_ #[.int .i64 a0, .int .i64 a1, .int .i64 a2, .int .i64 a3, .int .i64 a4, .int .i64 a5, .int .i64 a6, .int .i64 a7, .int .i64 b0, .int .i64 b1, .int .i64 b2, .int .i64 b3, .int .i64 b4, .int .i64 b5, .int .i64 b6, .int .i64 b7, .int .i64 c0, .int .i64 c1, .int .i64 c2, .int .i64 c3, .int .i64 c4, .int .i64 c5, .int .i64 c6, .int .i64 c7, .int .i64 d0, .int .i64 d1, .int .i64 d2, .int .i64 d3, .int .i64 e0, .int .i64 e1, .int .i64 e2, .int .i64 e3, .int .i64 d4, .int .i64 d5, .int .i64 d6, .int .i64 d7, .int .i64 e4, .int .i64 e5, .int .i64 e6, .int .i64 e7, .int .i64 d8, .int .i64 d9, .int .i64 d10, .int .i64 d11, .int .i64 e8, .int .i64 e9, .int .i64 e10, .int .i64 e11] 24 (.agg #[.int .i64 0, .int .i64 0, .int .i64 0, .int .i64 0, .int .i64 0, .int .i64 0, .int .i64 0, .int .i64 0, .int .i64 0, .int .i64 0, .int .i64 0, .int .i64 0, .int .i64 0, .int .i64 0, .int .i64 0, .int .i64 0, .int .i64 0, .int .i64 0, .int .i64 0, .int .i64 0, .int .i64 0, .int .i64 0, .int .i64 0, .int .i64 0]) ?_ ?_ ?_ ?_ ?_ ?_); rfl; rfl; kernel_rfl; kernel_rfl; decide; decide; kernel_rfl)
    | fail)
  have BS := HBS.out
  have xx := HXX.out
  clear HBS HXX HP0 HP1 HP2 HQ0 HQ1 HQ2 HB3
  generalize w3.alloc (.cells #[.int .i64 a0, .int .i64 a1, .int .i64 a2, .int .i64 a3, .int .i64 a4, .int .i64 a5, .int .i64 a6, .int .i64 a7, .int .i64 b0, .int .i64 b1, .int .i64 b2, .int .i64 b3, .int .i64 b4, .int .i64 b5, .int .i64 b6, .int .i64 b7, .int .i64 c0, .int .i64 c1, .int .i64 c2, .int .i64 c3, .int .i64 c4, .int .i64 c5, .int .i64 c6, .int .i64 c7, .int .i64 d0, .int .i64 d1, .int .i64 d2, .int .i64 d3, .int .i64 e0, .int .i64 e1, .int .i64 e2, .int .i64 e3, .int .i64 d4, .int .i64 d5, .int .i64 d6, .int .i64 d7, .int .i64 e4, .int .i64 e5, .int .i64 e6, .int .i64 e7, .int .i64 d8, .int .i64 d9, .int .i64 d10, .int .i64 d11, .int .i64 e8, .int .i64 e9, .int .i64 e10, .int .i64 e11] 33) = wa0 at *
  generalize w3.heap.size = gs at *
  refine wp_loop_rounds 3 ?_
  rw [rounds_succ]
  have RS := BS.mid 0 [.int .i64 a0, .int .i64 a1, .int .i64 a2, .int .i64 a3, .int .i64 a4, .int .i64 a5, .int .i64 a6, .int .i64 a7, .int .i64 b0, .int .i64 b1, .int .i64 b2, .int .i64 b3, .int .i64 b4, .int .i64 b5, .int .i64 b6, .int .i64 b7, .int .i64 c0, .int .i64 c1, .int .i64 c2, .int .i64 c3, .int .i64 c4, .int .i64 c5, .int .i64 c6, .int .i64 c7] rfl
  have N9 := (Blk.new wa0 #[.int .i64 0, .int .i64 0, .int .i64 0, .int .i64 0, .int .i64 0, .int .i64 0, .int .i64 0, .int .i64 0, .int .i64 0, .int .i64 0, .int .i64 0, .int .i64 0, .int .i64 0, .int .i64 0, .int .i64 0, .int .i64 0, .int .i64 0, .int .i64 0, .int .i64 0, .int .i64 0, .int .i64 0, .int .i64 0, .int .i64 0, .int .i64 0] 33).setRow #[.int .i64 a0, .int .i64 a1, .int .i64 a2, .int .i64 a3, .int .i64 a4, .int .i64 a5, .int .i64 a6, .int .i64 a7, .int .i64 b0, .int .i64 b1, .int .i64 b2, .int .i64 b3, .int .i64 b4, .int .i64 b5, .int .i64 b6, .int .i64 b7, .int .i64 c0, .int .i64 c1, .int .i64 c2, .int .i64 c3, .int .i64 c4, .int .i64 c5, .int .i64 c6, .int .i64 c7]
  have y9 : Ext wa0 ((wa0.alloc (.cells #[.int .i64 0, .int .i64 0, .int .i64 0, .int .i64 0, .int .i64 0, .int .i64 0, .int .i64 0, .int .i64 0, .int .i64 0, .int .i64 0, .int .i64 0, .int .i64 0, .int .i64 0, .int .i64 0, .int .i64 0, .int .i64 0, .int .i64 0, .int .i64 0, .int .i64 0, .int .i64 0, .int .i64 0, .int .i64 0, .int .i64 0, .int .i64 0] 33)).setRow wa0.heap.size #[.int .i64 a0, .int .i64 a1, .int .i64 a2, .int .i64 a3, .int .i64 a4, .int .i64 a5, .int .i64 a6, .int .i64 a7, .int .i64 b0, .int .i64 b1, .int .i64 b2, .int .i64 b3, .int .i64 b4, .int .i64 b5, .int .i64 b6, .int .i64 b7, .int .i64 c0, .int .i64 c1, .int .i64 c2, .int .i64 c3, .int .i64 c4, .int .i64 c5, .int .i64 c6, .int .i64 c7]) := ((Ext.refl _).alloc _ _).setRow (Nat.le_refl _) _
  go_upto_region 7 with (first
    | ((with_reducible refine wpList_load_mid (op := ⟨some 41, _, _, _, _, _⟩) ?_ 33 (.tmp 40) ?_ gs 0 ?_ [.int .i64 a0, .int .i64 a1, .int .i64 a2, .int .i64 a3, .int .i64 a4, .int .i64 a5, .int .i64 a6, .int .i64 a7, .int .i64 b0, .int .i64 b1, .int .i64 b2, .int .i64 b3, .int .i64 b4, .int .i64 b5, .int .i64 b6, .int .i64 b7, .int .i64 c0, .int .i64 c1, .int .i64 c2, .int .i64 c3, .int .i64 c4, .int .i64 c5, .int .i64 c6, .int .i64 c7] _ RS Try.underlying33 ?_ ?_ ?_); rfl; rfl; rfl; rfl; kernel_rfl)
    | ((with_reducible refine wpList_store_blk (op := ⟨none, .store 33 (.tmp 9) (.tmp 41), _, _, _, _⟩) ?_ 33 (.tmp 9) (.tmp 41) ?_ (wa0.heap.size) ?_ (cs := #[.int .i64 a0, .int .i64 a1, .int .i64 a2, .int .i64 a3, .int .i64 a4, .int .i64 a5, .int .i64 a6, .int .i64 a7, .int .i64 b0, .int .i64 b1, .int .i64 b2, .int .i64 b3, .int .i64 b4, .int .i64 b5, .int .i64 b6, .int .i64 b7, .int .i64 c0, .int .i64 c1, .int .i64 c2, .int .i64 c3, .int .i64 c4, .int .i64 c5, .int .i64 c6, .int .i64 c7]) ?_ (z := #[.int .i64 0, .int .i64 0, .int .i64 0, .int .i64 0, .int .i64 0, .int .i64 0, .int .i64 0, .int .i64 0, .int .i64 0, .int .i64 0, .int .i64 0, .int .i64 0, .int .i64 0, .int .i64 0, .int .i64 0, .int .i64 0, .int .i64 0, .int .i64 0, .int .i64 0, .int .i64 0, .int .i64 0, .int .i64 0, .int .i64 0, .int .i64 0]) (T := 33) ?_ ?_ ?_ ?_ ?_); rfl; rfl; rfl; rfl; exact Blk.new wa0 _ _; kernel_rfl; kernel_rfl; kernel_rfl)
    | fail)
  simp only [Act.put]
  have BS := BS.ext y9
  have xx := xx.trans y9
  clear y9
  generalize (wa0.alloc (.cells #[.int .i64 0, .int .i64 0, .int .i64 0, .int .i64 0, .int .i64 0, .int .i64 0, .int .i64 0, .int .i64 0, .int .i64 0, .int .i64 0, .int .i64 0, .int .i64 0, .int .i64 0, .int .i64 0, .int .i64 0, .int .i64 0, .int .i64 0, .int .i64 0, .int .i64 0, .int .i64 0, .int .i64 0, .int .i64 0, .int .i64 0, .int .i64 0] 33)).setRow wa0.heap.size #[.int .i64 a0, .int .i64 a1, .int .i64 a2, .int .i64 a3, .int .i64 a4, .int .i64 a5, .int .i64 a6, .int .i64 a7, .int .i64 b0, .int .i64 b1, .int .i64 b2, .int .i64 b3, .int .i64 b4, .int .i64 b5, .int .i64 b6, .int .i64 b7, .int .i64 c0, .int .i64 c1, .int .i64 c2, .int .i64 c3, .int .i64 c4, .int .i64 c5, .int .i64 c6, .int .i64 c7] = wb0 at *
  generalize wa0.heap.size = g9_0 at *
  have B9 := N9
  clear N9 RS
  have R0 := B9.mid 0 [.int .i64 a0, .int .i64 a1, .int .i64 a2, .int .i64 a3, .int .i64 a4, .int .i64 a5, .int .i64 a6, .int .i64 a7] rfl
  have R1 := B9.mid 8 [.int .i64 b0, .int .i64 b1, .int .i64 b2, .int .i64 b3, .int .i64 b4, .int .i64 b5, .int .i64 b6, .int .i64 b7] rfl
  have R2 := B9.mid 16 [.int .i64 c0, .int .i64 c1, .int .i64 c2, .int .i64 c3, .int .i64 c4, .int .i64 c5, .int .i64 c6, .int .i64 c7] rfl
  go_wp2_with (first
      | ((with_reducible refine wpList_load_mid (op := ⟨some 43, _, _, _, _, _⟩) ?_ 32 (.tmp 42) ?_ g9_0 0 ?_ [.int .i64 a0, .int .i64 a1, .int .i64 a2, .int .i64 a3, .int .i64 a4, .int .i64 a5, .int .i64 a6, .int .i64 a7] _ R0 Try.underlying32 ?_ ?_ ?_); rfl; rfl; rfl; rfl; kernel_rfl)
      | ((with_reducible refine wpList_load_mid (op := ⟨some 45, _, _, _, _, _⟩) ?_ 32 (.tmp 44) ?_ g9_0 8 ?_ [.int .i64 b0, .int .i64 b1, .int .i64 b2, .int .i64 b3, .int .i64 b4, .int .i64 b5, .int .i64 b6, .int .i64 b7] _ R1 Try.underlying32 ?_ ?_ ?_); rfl; rfl; rfl; rfl; kernel_rfl)
      | ((with_reducible refine wpList_load_mid (op := ⟨some 47, _, _, _, _, _⟩) ?_ 32 (.tmp 46) ?_ g9_0 16 ?_ [.int .i64 c0, .int .i64 c1, .int .i64 c2, .int .i64 c3, .int .i64 c4, .int .i64 c5, .int .i64 c6, .int .i64 c7] _ R2 Try.underlying32 ?_ ?_ ?_); rfl; rfl; rfl; rfl; kernel_rfl)
      | fail)
  refine (HC0.out _).mono ?_
  rintro e wc0 ⟨r, rfl, o, xc⟩
  obtain ⟨ao, cp, rfl, -, -⟩ := o.slice
  have xx := xx.trans xc
  have BS := BS.ext xc
  have HO := Lib.hid o
  have h16 : ¬ (16 : Int) < (L0.length : Int) := by omega
  have h1 : ¬ (L0.length : Int) = 1 := by omega
  have h2 : ¬ (L0.length : Int) = 2 := by omega
  have h16n : ¬ 16 < L0.length := by omega
  have h1n : ¬ L0.length = 1 := by omega
  have h2n : ¬ L0.length = 2 := by omega
  have h1b : ((L0.length : Int) == 1) = false := by simpa using h1
  have h2b : ((L0.length : Int) == 2) = false := by simpa using h2
  have HBS := Lib.hid BS
  clear R0 R1 R2 B9 xc o BS
  go_wp2_with fail
  go_loopg [64] L0.length (fun n0 iv wx => ∃ (i : Nat), i + n0 = L0.length ∧ iv = .int .i64 i ∧ Ext wc0 wx)
  case atStart => exact ⟨0, by omega, by simp, Ext.refl _⟩
  case round =>
    generalize wr = wy0 at *
    obtain ⟨i, hik, rfl, E⟩ := hrel
    by_cases hi : i < L0.length
    · have hiI : (i : Int) < (L0.length : Int) := by omega
      clear h16 h1 h2 h16n h1n h2n h1b h2b
      obtain ⟨g, x, rfl, -, hx, cx⟩ := (HO.out.ext E).nth i hi
      obtain ⟨⟨i0, i1, i2, i3⟩, hn3, ⟨i4, i5, i6, i7⟩⟩ := HS0.out x (List.mem_of_getElem? hx)
      have hW := fun u => vwithin_lim x.p0 x.p1 x.p2 x.p3 (by omega) (by omega) (by omega) (by omega) u
      rw [lim4_id i0, lim4_id i1, lim4_id i2, lim4_id i3] at hW
      clear hx
      obtain ⟨v0, v1, v2, v3, v4, v5, v6, v7⟩ := x
      have HW := Lib.hid hW
      clear hW
      have k0 := cx 0 _ rfl
      have k1 := cx 1 _ rfl
      have k2 := cx 2 _ rfl
      have k3 := cx 3 _ rfl
      have k4 := cx 4 _ rfl
      have k5 := cx 5 _ rfl
      have k6 := cx 6 _ rfl
      have k7 := cx 7 _ rfl
      simp only [LC, Nat.add_zero] at k0 k1 k2 k3 k4 k5 k6 k7
      simp only at hn3 i4 i5 i6 i7
      have hn : ¬ v3 < 256 := by omega
      have lo0 : ¬ v4 < 0 := by omega
      have hh0 : ¬ 65536 < v4 := by omega
      have lo1 : ¬ v5 < 0 := by omega
      have hh1 : ¬ 65536 < v5 := by omega
      have lo2 : ¬ v6 < 0 := by omega
      have hh2 : ¬ 65536 < v6 := by omega
      have lo3 : ¬ v7 < 0 := by omega
      have hh3 : ¬ 65536 < v7 := by omega
      clear cx i0 i1 i2 i3 i4 i5 i6 i7 hn3
      have N12 := (Blk.new wy0 #[.int .i64 0, .int .i64 0, .int .i64 0, .int .i64 0, .int .i64 0, .int .i64 0, .int .i64 0, .int .i64 0] 32).setRow #[.int .i64 v0, .int .i64 v1, .int .i64 v2, .int .i64 v3, .int .i64 v4, .int .i64 v5, .int .i64 v6, .int .i64 v7]
      have y12 : Ext wy0 ((wy0.alloc (.cells #[.int .i64 0, .int .i64 0, .int .i64 0, .int .i64 0, .int .i64 0, .int .i64 0, .int .i64 0, .int .i64 0] 32)).setRow wy0.heap.size #[.int .i64 v0, .int .i64 v1, .int .i64 v2, .int .i64 v3, .int .i64 v4, .int .i64 v5, .int .i64 v6, .int .i64 v7]) := ((Ext.refl _).alloc _ _).setRow (Nat.le_refl _) _
      go_upto_region 13 with (first
        | ((with_reducible refine wpList_store_blk (op := ⟨none, .store 32 (.tmp 12) (.tmp 67), _, _, _, _⟩) ?_ 32 (.tmp 12) (.tmp 67) ?_ (wy0.heap.size) ?_ (cs := #[.int .i64 v0, .int .i64 v1, .int .i64 v2, .int .i64 v3, .int .i64 v4, .int .i64 v5, .int .i64 v6, .int .i64 v7]) ?_ (z := #[.int .i64 0, .int .i64 0, .int .i64 0, .int .i64 0, .int .i64 0, .int .i64 0, .int .i64 0, .int .i64 0]) (T := 32) ?_ ?_ ?_ ?_ ?_); rfl; rfl; rfl; rfl; exact Blk.new wy0 _ _; kernel_rfl; kernel_rfl; kernel_rfl)
        | fail)
      simp only [Act.put]
      have E2 := E.trans y12
      clear y12 k0 k1 k2 k3 k4 k5 k6 k7
      generalize (wy0.alloc (.cells #[.int .i64 0, .int .i64 0, .int .i64 0, .int .i64 0, .int .i64 0, .int .i64 0, .int .i64 0, .int .i64 0] 32)).setRow wy0.heap.size #[.int .i64 v0, .int .i64 v1, .int .i64 v2, .int .i64 v3, .int .i64 v4, .int .i64 v5, .int .i64 v6, .int .i64 v7] = w12 at *
      generalize wy0.heap.size = g12 at *
      have hE := eqV
      apply wp_region_reads2 _ (by kernel_rfl) (by kernel_rfl)
      case H =>
        intro y0 hy0
        have hne : Nonempty (Wx y0) := ⟨⟨y0, Ext.refl y0⟩⟩
        have q3 := fun (t : Wx y0) => (N12.ext (hy0.trans t.ext)).cell
        repeat (go_big_quiet_step (first | (go_at_call 14; with_reducible exact calm_of (HW.out _))))
        exact wpQuiet_nil rfl
      intro w13 x13
      have E3 := E2.trans x13
      have N12 := N12.ext x13
      have cN := N12.cell
      clear x13 E2 HW hE
      have ix0 : ∀ u, (Instr.index 30 (.agg #[.int .i64 v4, .int .i64 v5, .int .i64 v6, .int .i64 v7]) (.int .i64 0)).run Try.prog u = .ok (.int .i64 v4) u := fun u => (idx4 _ _ _ _ u).1
      have ix1 : ∀ u, (Instr.index 30 (.agg #[.int .i64 v4, .int .i64 v5, .int .i64 v6, .int .i64 v7]) (.int .i64 1)).run Try.prog u = .ok (.int .i64 v5) u := fun u => (idx4 _ _ _ _ u).2.1
      have ix2 : ∀ u, (Instr.index 30 (.agg #[.int .i64 v4, .int .i64 v5, .int .i64 v6, .int .i64 v7]) (.int .i64 2)).run Try.prog u = .ok (.int .i64 v6) u := fun u => (idx4 _ _ _ _ u).2.2.1
      have ix3 : ∀ u, (Instr.index 30 (.agg #[.int .i64 v4, .int .i64 v5, .int .i64 v6, .int .i64 v7]) (.int .i64 3)).run Try.prog u = .ok (.int .i64 v7) u := fun u => (idx4 _ _ _ _ u).2.2.2
      go_wp2_with fail
      refine wp_loop_rounds 5 ?_
      rw [rounds_succ]
      go_wp2_with fail
      rw [rounds_succ]
      go_wp2_with fail
      rw [rounds_succ]
      go_wp2_with fail
      rw [rounds_succ]
      go_wp2_with fail
      rw [rounds_succ]
      go_wp2
      go_roundg (gk - 1)
      case measure => omega
      case rel => exact ⟨i + 1, by omega, by simp, E3⟩
    · obtain rfl : i = L0.length := by omega
      have xx := xx.trans E
      have BS := HBS.out.ext E
      clear h16 h1 h2 h16n h1n h2n h1b h2b HBS HO E
      go_wp2_with fail
      generalize wy0 = wa1 at *
      rw [rounds_succ]
      have RS := BS.mid 24 [.int .i64 d0, .int .i64 d1, .int .i64 d2, .int .i64 d3, .int .i64 e0, .int .i64 e1, .int .i64 e2, .int .i64 e3, .int .i64 d4, .int .i64 d5, .int .i64 d6, .int .i64 d7, .int .i64 e4, .int .i64 e5, .int .i64 e6, .int .i64 e7, .int .i64 d8, .int .i64 d9, .int .i64 d10, .int .i64 d11, .int .i64 e8, .int .i64 e9, .int .i64 e10, .int .i64 e11] rfl
      have N9 := (Blk.new wa1 #[.int .i64 0, .int .i64 0, .int .i64 0, .int .i64 0, .int .i64 0, .int .i64 0, .int .i64 0, .int .i64 0, .int .i64 0, .int .i64 0, .int .i64 0, .int .i64 0, .int .i64 0, .int .i64 0, .int .i64 0, .int .i64 0, .int .i64 0, .int .i64 0, .int .i64 0, .int .i64 0, .int .i64 0, .int .i64 0, .int .i64 0, .int .i64 0] 33).setRow #[.int .i64 d0, .int .i64 d1, .int .i64 d2, .int .i64 d3, .int .i64 e0, .int .i64 e1, .int .i64 e2, .int .i64 e3, .int .i64 d4, .int .i64 d5, .int .i64 d6, .int .i64 d7, .int .i64 e4, .int .i64 e5, .int .i64 e6, .int .i64 e7, .int .i64 d8, .int .i64 d9, .int .i64 d10, .int .i64 d11, .int .i64 e8, .int .i64 e9, .int .i64 e10, .int .i64 e11]
      have y9 : Ext wa1 ((wa1.alloc (.cells #[.int .i64 0, .int .i64 0, .int .i64 0, .int .i64 0, .int .i64 0, .int .i64 0, .int .i64 0, .int .i64 0, .int .i64 0, .int .i64 0, .int .i64 0, .int .i64 0, .int .i64 0, .int .i64 0, .int .i64 0, .int .i64 0, .int .i64 0, .int .i64 0, .int .i64 0, .int .i64 0, .int .i64 0, .int .i64 0, .int .i64 0, .int .i64 0] 33)).setRow wa1.heap.size #[.int .i64 d0, .int .i64 d1, .int .i64 d2, .int .i64 d3, .int .i64 e0, .int .i64 e1, .int .i64 e2, .int .i64 e3, .int .i64 d4, .int .i64 d5, .int .i64 d6, .int .i64 d7, .int .i64 e4, .int .i64 e5, .int .i64 e6, .int .i64 e7, .int .i64 d8, .int .i64 d9, .int .i64 d10, .int .i64 d11, .int .i64 e8, .int .i64 e9, .int .i64 e10, .int .i64 e11]) := ((Ext.refl _).alloc _ _).setRow (Nat.le_refl _) _
      go_upto_region 7 with (first
        | ((with_reducible refine wpList_load_mid (op := ⟨some 41, _, _, _, _, _⟩) ?_ 33 (.tmp 40) ?_ gs 24 ?_ [.int .i64 d0, .int .i64 d1, .int .i64 d2, .int .i64 d3, .int .i64 e0, .int .i64 e1, .int .i64 e2, .int .i64 e3, .int .i64 d4, .int .i64 d5, .int .i64 d6, .int .i64 d7, .int .i64 e4, .int .i64 e5, .int .i64 e6, .int .i64 e7, .int .i64 d8, .int .i64 d9, .int .i64 d10, .int .i64 d11, .int .i64 e8, .int .i64 e9, .int .i64 e10, .int .i64 e11] _ RS Try.underlying33 ?_ ?_ ?_); rfl; rfl; rfl; rfl; kernel_rfl)
        | ((with_reducible refine wpList_store_blk (op := ⟨none, .store 33 (.tmp 9) (.tmp 41), _, _, _, _⟩) ?_ 33 (.tmp 9) (.tmp 41) ?_ (wa1.heap.size) ?_ (cs := #[.int .i64 d0, .int .i64 d1, .int .i64 d2, .int .i64 d3, .int .i64 e0, .int .i64 e1, .int .i64 e2, .int .i64 e3, .int .i64 d4, .int .i64 d5, .int .i64 d6, .int .i64 d7, .int .i64 e4, .int .i64 e5, .int .i64 e6, .int .i64 e7, .int .i64 d8, .int .i64 d9, .int .i64 d10, .int .i64 d11, .int .i64 e8, .int .i64 e9, .int .i64 e10, .int .i64 e11]) ?_ (z := #[.int .i64 0, .int .i64 0, .int .i64 0, .int .i64 0, .int .i64 0, .int .i64 0, .int .i64 0, .int .i64 0, .int .i64 0, .int .i64 0, .int .i64 0, .int .i64 0, .int .i64 0, .int .i64 0, .int .i64 0, .int .i64 0, .int .i64 0, .int .i64 0, .int .i64 0, .int .i64 0, .int .i64 0, .int .i64 0, .int .i64 0, .int .i64 0]) (T := 33) ?_ ?_ ?_ ?_ ?_); rfl; rfl; rfl; rfl; exact Blk.new wa1 _ _; kernel_rfl; kernel_rfl; kernel_rfl)
        | fail)
      simp only [Act.put]
      have BS := BS.ext y9
      have xx := xx.trans y9
      clear y9
      generalize (wa1.alloc (.cells #[.int .i64 0, .int .i64 0, .int .i64 0, .int .i64 0, .int .i64 0, .int .i64 0, .int .i64 0, .int .i64 0, .int .i64 0, .int .i64 0, .int .i64 0, .int .i64 0, .int .i64 0, .int .i64 0, .int .i64 0, .int .i64 0, .int .i64 0, .int .i64 0, .int .i64 0, .int .i64 0, .int .i64 0, .int .i64 0, .int .i64 0, .int .i64 0] 33)).setRow wa1.heap.size #[.int .i64 d0, .int .i64 d1, .int .i64 d2, .int .i64 d3, .int .i64 e0, .int .i64 e1, .int .i64 e2, .int .i64 e3, .int .i64 d4, .int .i64 d5, .int .i64 d6, .int .i64 d7, .int .i64 e4, .int .i64 e5, .int .i64 e6, .int .i64 e7, .int .i64 d8, .int .i64 d9, .int .i64 d10, .int .i64 d11, .int .i64 e8, .int .i64 e9, .int .i64 e10, .int .i64 e11] = wb1 at *
      generalize wa1.heap.size = g9_1 at *
      have B9 := N9
      clear N9 RS
      have R0 := B9.mid 0 [.int .i64 d0, .int .i64 d1, .int .i64 d2, .int .i64 d3, .int .i64 e0, .int .i64 e1, .int .i64 e2, .int .i64 e3] rfl
      have R1 := B9.mid 8 [.int .i64 d4, .int .i64 d5, .int .i64 d6, .int .i64 d7, .int .i64 e4, .int .i64 e5, .int .i64 e6, .int .i64 e7] rfl
      have R2 := B9.mid 16 [.int .i64 d8, .int .i64 d9, .int .i64 d10, .int .i64 d11, .int .i64 e8, .int .i64 e9, .int .i64 e10, .int .i64 e11] rfl
      go_wp2_with (first
          | ((with_reducible refine wpList_load_mid (op := ⟨some 43, _, _, _, _, _⟩) ?_ 32 (.tmp 42) ?_ g9_1 0 ?_ [.int .i64 d0, .int .i64 d1, .int .i64 d2, .int .i64 d3, .int .i64 e0, .int .i64 e1, .int .i64 e2, .int .i64 e3] _ R0 Try.underlying32 ?_ ?_ ?_); rfl; rfl; rfl; rfl; kernel_rfl)
          | ((with_reducible refine wpList_load_mid (op := ⟨some 45, _, _, _, _, _⟩) ?_ 32 (.tmp 44) ?_ g9_1 8 ?_ [.int .i64 d4, .int .i64 d5, .int .i64 d6, .int .i64 d7, .int .i64 e4, .int .i64 e5, .int .i64 e6, .int .i64 e7] _ R1 Try.underlying32 ?_ ?_ ?_); rfl; rfl; rfl; rfl; kernel_rfl)
          | ((with_reducible refine wpList_load_mid (op := ⟨some 47, _, _, _, _, _⟩) ?_ 32 (.tmp 46) ?_ g9_1 16 ?_ [.int .i64 d8, .int .i64 d9, .int .i64 d10, .int .i64 d11, .int .i64 e8, .int .i64 e9, .int .i64 e10, .int .i64 e11] _ R2 Try.underlying32 ?_ ?_ ?_); rfl; rfl; rfl; rfl; kernel_rfl)
          | fail)
      refine (HC1.out _).mono ?_
      rintro e wc1 ⟨r, rfl, o, xc⟩
      obtain ⟨ao, cp, rfl, -, -⟩ := o.slice
      have xx := xx.trans xc
      have BS := BS.ext xc
      have HO := Lib.hid o
      have h16 : ¬ (16 : Int) < (L1.length : Int) := by omega
      have h1 : ¬ (L1.length : Int) = 1 := by omega
      have h2 : ¬ (L1.length : Int) = 2 := by omega
      have h16n : ¬ 16 < L1.length := by omega
      have h1n : ¬ L1.length = 1 := by omega
      have h2n : ¬ L1.length = 2 := by omega
      have h1b : ((L1.length : Int) == 1) = false := by simpa using h1
      have h2b : ((L1.length : Int) == 2) = false := by simpa using h2
      have HBS := Lib.hid BS
      clear R0 R1 R2 B9 xc o BS
      go_wp2_with fail
      go_loopg [64] L1.length (fun n0 iv wx => ∃ (i : Nat), i + n0 = L1.length ∧ iv = .int .i64 i ∧ Ext wc1 wx)
      case atStart => exact ⟨0, by omega, by simp, Ext.refl _⟩
      case round =>
        generalize wr = wy1 at *
        obtain ⟨i, hik, rfl, E⟩ := hrel
        by_cases hi : i < L1.length
        · have hiI : (i : Int) < (L1.length : Int) := by omega
          clear h16 h1 h2 h16n h1n h2n h1b h2b
          obtain ⟨g, x, rfl, -, hx, cx⟩ := (HO.out.ext E).nth i hi
          obtain ⟨⟨i0, i1, i2, i3⟩, hn3, ⟨i4, i5, i6, i7⟩⟩ := HS1.out x (List.mem_of_getElem? hx)
          have hW := fun u => vwithin_lim x.p0 x.p1 x.p2 x.p3 (by omega) (by omega) (by omega) (by omega) u
          rw [lim4_id i0, lim4_id i1, lim4_id i2, lim4_id i3] at hW
          clear hx
          obtain ⟨v0, v1, v2, v3, v4, v5, v6, v7⟩ := x
          have HW := Lib.hid hW
          clear hW
          have k0 := cx 0 _ rfl
          have k1 := cx 1 _ rfl
          have k2 := cx 2 _ rfl
          have k3 := cx 3 _ rfl
          have k4 := cx 4 _ rfl
          have k5 := cx 5 _ rfl
          have k6 := cx 6 _ rfl
          have k7 := cx 7 _ rfl
          simp only [LC, Nat.add_zero] at k0 k1 k2 k3 k4 k5 k6 k7
          simp only at hn3 i4 i5 i6 i7
          have hn : ¬ v3 < 256 := by omega
          have lo0 : ¬ v4 < 0 := by omega
          have hh0 : ¬ 65536 < v4 := by omega
          have lo1 : ¬ v5 < 0 := by omega
          have hh1 : ¬ 65536 < v5 := by omega
          have lo2 : ¬ v6 < 0 := by omega
          have hh2 : ¬ 65536 < v6 := by omega
          have lo3 : ¬ v7 < 0 := by omega
          have hh3 : ¬ 65536 < v7 := by omega
          clear cx i0 i1 i2 i3 i4 i5 i6 i7 hn3
          have N12 := (Blk.new wy1 #[.int .i64 0, .int .i64 0, .int .i64 0, .int .i64 0, .int .i64 0, .int .i64 0, .int .i64 0, .int .i64 0] 32).setRow #[.int .i64 v0, .int .i64 v1, .int .i64 v2, .int .i64 v3, .int .i64 v4, .int .i64 v5, .int .i64 v6, .int .i64 v7]
          have y12 : Ext wy1 ((wy1.alloc (.cells #[.int .i64 0, .int .i64 0, .int .i64 0, .int .i64 0, .int .i64 0, .int .i64 0, .int .i64 0, .int .i64 0] 32)).setRow wy1.heap.size #[.int .i64 v0, .int .i64 v1, .int .i64 v2, .int .i64 v3, .int .i64 v4, .int .i64 v5, .int .i64 v6, .int .i64 v7]) := ((Ext.refl _).alloc _ _).setRow (Nat.le_refl _) _
          go_upto_region 13 with (first
            | ((with_reducible refine wpList_store_blk (op := ⟨none, .store 32 (.tmp 12) (.tmp 67), _, _, _, _⟩) ?_ 32 (.tmp 12) (.tmp 67) ?_ (wy1.heap.size) ?_ (cs := #[.int .i64 v0, .int .i64 v1, .int .i64 v2, .int .i64 v3, .int .i64 v4, .int .i64 v5, .int .i64 v6, .int .i64 v7]) ?_ (z := #[.int .i64 0, .int .i64 0, .int .i64 0, .int .i64 0, .int .i64 0, .int .i64 0, .int .i64 0, .int .i64 0]) (T := 32) ?_ ?_ ?_ ?_ ?_); rfl; rfl; rfl; rfl; exact Blk.new wy1 _ _; kernel_rfl; kernel_rfl; kernel_rfl)
            | fail)
          simp only [Act.put]
          have E2 := E.trans y12
          clear y12 k0 k1 k2 k3 k4 k5 k6 k7
          generalize (wy1.alloc (.cells #[.int .i64 0, .int .i64 0, .int .i64 0, .int .i64 0, .int .i64 0, .int .i64 0, .int .i64 0, .int .i64 0] 32)).setRow wy1.heap.size #[.int .i64 v0, .int .i64 v1, .int .i64 v2, .int .i64 v3, .int .i64 v4, .int .i64 v5, .int .i64 v6, .int .i64 v7] = w12 at *
          generalize wy1.heap.size = g12 at *
          have hE := eqV
          apply wp_region_reads2 _ (by kernel_rfl) (by kernel_rfl)
          case H =>
            intro y0 hy0
            have hne : Nonempty (Wx y0) := ⟨⟨y0, Ext.refl y0⟩⟩
            have q3 := fun (t : Wx y0) => (N12.ext (hy0.trans t.ext)).cell
            repeat (go_big_quiet_step (first | (go_at_call 14; with_reducible exact calm_of (HW.out _))))
            exact wpQuiet_nil rfl
          intro w13 x13
          have E3 := E2.trans x13
          have N12 := N12.ext x13
          have cN := N12.cell
          clear x13 E2 HW hE
          have ix0 : ∀ u, (Instr.index 30 (.agg #[.int .i64 v4, .int .i64 v5, .int .i64 v6, .int .i64 v7]) (.int .i64 0)).run Try.prog u = .ok (.int .i64 v4) u := fun u => (idx4 _ _ _ _ u).1
          have ix1 : ∀ u, (Instr.index 30 (.agg #[.int .i64 v4, .int .i64 v5, .int .i64 v6, .int .i64 v7]) (.int .i64 1)).run Try.prog u = .ok (.int .i64 v5) u := fun u => (idx4 _ _ _ _ u).2.1
          have ix2 : ∀ u, (Instr.index 30 (.agg #[.int .i64 v4, .int .i64 v5, .int .i64 v6, .int .i64 v7]) (.int .i64 2)).run Try.prog u = .ok (.int .i64 v6) u := fun u => (idx4 _ _ _ _ u).2.2.1
          have ix3 : ∀ u, (Instr.index 30 (.agg #[.int .i64 v4, .int .i64 v5, .int .i64 v6, .int .i64 v7]) (.int .i64 3)).run Try.prog u = .ok (.int .i64 v7) u := fun u => (idx4 _ _ _ _ u).2.2.2
          go_wp2_with fail
          refine wp_loop_rounds 5 ?_
          rw [rounds_succ]
          go_wp2_with fail
          rw [rounds_succ]
          go_wp2_with fail
          rw [rounds_succ]
          go_wp2_with fail
          rw [rounds_succ]
          go_wp2_with fail
          rw [rounds_succ]
          go_wp2
          go_roundg (gk - 1)
          case measure => omega
          case rel => exact ⟨i + 1, by omega, by simp, E3⟩
        · obtain rfl : i = L1.length := by omega
          have xx := xx.trans E
          have BS := HBS.out.ext E
          clear h16 h1 h2 h16n h1n h2n h1b h2b HBS HO E
          go_wp2_with fail
          generalize wy1 = wa2 at *
          rw [rounds_succ]
          go_wp2
          go_ret
          exact ⟨rfl, xx⟩
theorem clipBounds_row (va vb vc : VSm) (d0 d1 d2 d3 d4 d5 d6 d7 d8 d9 d10 d11 e0 e1 e2 e3 e4 e5 e6 e7 e8 e9 e10 e11 : Int) (ha : va.ok) (hb : vb.ok) (hc : vc.ok) (hd0 : -9223372036854775808 ≤ d0 ∧ d0 ≤ 9223372036854775807) (hd1 : -9223372036854775808 ≤ d1 ∧ d1 ≤ 9223372036854775807) (hd2 : -9223372036854775808 ≤ d2 ∧ d2 ≤ 9223372036854775807) (hd3 : -9223372036854775808 ≤ d3 ∧ d3 ≤ 9223372036854775807) (hd4 : -9223372036854775808 ≤ d4 ∧ d4 ≤ 9223372036854775807) (hd5 : -9223372036854775808 ≤ d5 ∧ d5 ≤ 9223372036854775807) (hd6 : -9223372036854775808 ≤ d6 ∧ d6 ≤ 9223372036854775807) (hd7 : -9223372036854775808 ≤ d7 ∧ d7 ≤ 9223372036854775807) (hd8 : -9223372036854775808 ≤ d8 ∧ d8 ≤ 9223372036854775807) (hd9 : -9223372036854775808 ≤ d9 ∧ d9 ≤ 9223372036854775807) (hd10 : -9223372036854775808 ≤ d10 ∧ d10 ≤ 9223372036854775807) (hd11 : -9223372036854775808 ≤ d11 ∧ d11 ≤ 9223372036854775807) (he0 : -9223372036854775808 ≤ e0 ∧ e0 ≤ 9223372036854775807) (he1 : -9223372036854775808 ≤ e1 ∧ e1 ≤ 9223372036854775807) (he2 : -9223372036854775808 ≤ e2 ∧ e2 ≤ 9223372036854775807) (he3 : -9223372036854775808 ≤ e3 ∧ e3 ≤ 9223372036854775807) (he4 : -9223372036854775808 ≤ e4 ∧ e4 ≤ 9223372036854775807) (he5 : -9223372036854775808 ≤ e5 ∧ e5 ≤ 9223372036854775807) (he6 : -9223372036854775808 ≤ e6 ∧ e6 ≤ 9223372036854775807) (he7 : -9223372036854775808 ≤ e7 ∧ e7 ≤ 9223372036854775807) (he8 : -9223372036854775808 ≤ e8 ∧ e8 ≤ 9223372036854775807) (he9 : -9223372036854775808 ≤ e9 ∧ e9 ≤ 9223372036854775807) (he10 : -9223372036854775808 ≤ e10 ∧ e10 ≤ 9223372036854775807) (he11 : -9223372036854775808 ≤ e11 ∧ e11 ≤ 9223372036854775807) (w : World) :
    Calls Try.prog 7 #[.agg (va.l ++ (vb.l ++ vc.l)).toArray, .agg #[.int .i64 d0, .int .i64 d1, .int .i64 d2, .int .i64 d3, .int .i64 d4, .int .i64 d5, .int .i64 d6, .int .i64 d7, .int .i64 d8, .int .i64 d9, .int .i64 d10, .int .i64 d11], .agg #[.int .i64 e0, .int .i64 e1, .int .i64 e2, .int .i64 e3, .int .i64 e4, .int .i64 e5, .int .i64 e6, .int .i64 e7, .int .i64 e8, .int .i64 e9, .int .i64 e10, .int .i64 e11]] w fun e w' => e = .returned (.bool true) ∧ Ext w w' := by
  have fa := vx_fine ha
  have fb := vx_fine hb
  have fc := vx_fine hc
  exact bounds_main va.x va.y va.z va.w va.r va.g va.b va.a vb.x vb.y vb.z vb.w vb.r vb.g vb.b vb.a vc.x vc.y vc.z vc.w vc.r vc.g vc.b vc.a va.far vb.far vc.far (vxF va).p0 (vxF va).p1 (vxF va).p2 (vxF va).p3 (vxF va).c0 (vxF va).c1 (vxF va).c2 (vxF va).c3 (vxF vb).p0 (vxF vb).p1 (vxF vb).p2 (vxF vb).p3 (vxF vb).c0 (vxF vb).c1 (vxF vb).c2 (vxF vb).c3 (vxF vc).p0 (vxF vc).p1 (vxF vc).p2 (vxF vc).p3 (vxF vc).c0 (vxF vc).c1 (vxF vc).c2 (vxF vc).c3 d0 d1 d2 d3 d4 d5 d6 d7 d8 d9 d10 d11 e0 e1 e2 e3 e4 e5 e6 e7 e8 e9 e10 e11 _ _
    (fun u => vertices12_any va vb vc ha hb hc u) (fun u => clip_any (vxF va) (vxF vb) (vxF vc) fa.in64 fb.in64 fc.in64 u) (gend_shown _) (gend_len _)
    (fun u => clip_any ⟨d0, d1, d2, d3, e0, e1, e2, e3⟩ ⟨d4, d5, d6, d7, e4, e5, e6, e7⟩ ⟨d8, d9, d10, d11, e8, e9, e10, e11⟩ ⟨hd0, hd1, hd2, hd3, he0, he1, he2, he3⟩ ⟨hd4, hd5, hd6, hd7, he4, he5, he6, he7⟩ ⟨hd8, hd9, hd10, hd11, he8, he9, he10, he11⟩ u) (gend_shown _) (gend_len _) w
end Go.Proofs.Ytjohcngmoemmbaa
