/-
  DERIVED. ClipCuts (made by mkcliplaws.py).
-/
import Derived.Test.YtjohcngmoemmbaaClipThree
namespace Go.Proofs.Ytjohcngmoemmbaa
open Go.RowKit
set_option linter.unusedVariables false
set_option maxRecDepth 100000 in
set_option maxHeartbeats 4000000 in
theorem cuts_main (xa_x xa_y xa_z xa_w xa_r xa_g xa_b xa_a xb_x xb_y xb_z xb_w xb_r xb_g xb_b xb_a xc_x xc_y xc_z xc_w xc_r xc_g xc_b xc_a : Int) (xa_f xb_f xc_f : Bool) (a0 a1 a2 a3 a4 a5 a6 a7 b0 b1 b2 b3 b4 b5 b6 b7 c0 c1 c2 c3 c4 c5 c6 c7 : Int) (L : List V8) (hL : L.length ≤ 16) (hV : ∀ u, Calls Try.prog 9 #[.agg #[.int .i16 xa_x, .int .i16 xa_y, .int .i16 xa_z, .int .i16 xa_w, .int .u8 xa_r, .int .u8 xa_g, .int .u8 xa_b, .int .u8 xa_a, .bool xa_f, .int .i16 xb_x, .int .i16 xb_y, .int .i16 xb_z, .int .i16 xb_w, .int .u8 xb_r, .int .u8 xb_g, .int .u8 xb_b, .int .u8 xb_a, .bool xb_f, .int .i16 xc_x, .int .i16 xc_y, .int .i16 xc_z, .int .i16 xc_w, .int .u8 xc_r, .int .u8 xc_g, .int .u8 xc_b, .int .u8 xc_a, .bool xc_f]] u fun e w' => e = .returned (.agg #[.int .i64 a0, .int .i64 a1, .int .i64 a2, .int .i64 a3, .int .i64 a4, .int .i64 a5, .int .i64 a6, .int .i64 a7, .int .i64 b0, .int .i64 b1, .int .i64 b2, .int .i64 b3, .int .i64 b4, .int .i64 b5, .int .i64 b6, .int .i64 b7, .int .i64 c0, .int .i64 c1, .int .i64 c2, .int .i64 c3, .int .i64 c4, .int .i64 c5, .int .i64 c6, .int .i64 c7]) ∧ Ext u w') (hC : ∀ u, Calls Try.prog 12 #[.agg #[.int .i64 a0, .int .i64 a1, .int .i64 a2, .int .i64 a3, .int .i64 a4, .int .i64 a5, .int .i64 a6, .int .i64 a7], .agg #[.int .i64 b0, .int .i64 b1, .int .i64 b2, .int .i64 b3, .int .i64 b4, .int .i64 b5, .int .i64 b6, .int .i64 b7], .agg #[.int .i64 c0, .int .i64 c1, .int .i64 c2, .int .i64 c3, .int .i64 c4, .int .i64 c5, .int .i64 c6, .int .i64 c7]] u fun e w' => ∃ r, e = .returned r ∧ OwnG LC w' u.heap.size r L ∧ Ext u w')
    (hR : ∀ u ao n c, PArrG LR u (.slice ao n c) [⟨a0, a1, a2, a3, a4, a5, a6, a7⟩, ⟨b0, b1, b2, b3, b4, b5, b6, b7⟩, ⟨c0, c1, c2, c3, c4, c5, c6, c7⟩] → Calls Try.prog 10 #[.slice ao n c] u fun e w' => ∃ r, e = .returned r ∧ OwnG LR w' u.heap.size r L ∧ Ext u w') (w : World) :
    Calls Try.prog 3 #[.agg #[.int .i16 xa_x, .int .i16 xa_y, .int .i16 xa_z, .int .i16 xa_w, .int .u8 xa_r, .int .u8 xa_g, .int .u8 xa_b, .int .u8 xa_a, .bool xa_f, .int .i16 xb_x, .int .i16 xb_y, .int .i16 xb_z, .int .i16 xb_w, .int .u8 xb_r, .int .u8 xb_g, .int .u8 xb_b, .int .u8 xb_a, .bool xb_f, .int .i16 xc_x, .int .i16 xc_y, .int .i16 xc_z, .int .i16 xc_w, .int .u8 xc_r, .int .u8 xc_g, .int .u8 xc_b, .int .u8 xc_a, .bool xc_f]] w fun e w' => e = .returned (.bool true) ∧ Ext w w' := by
  have HC := Lib.hid hC
  have HR := Lib.hid hR
  clear hC hR
  have HV := Lib.hid hV
  clear hV
  have x0 : Ext w (w.alloc (.cells #[.int .i16 xa_x, .int .i16 xa_y, .int .i16 xa_z, .int .i16 xa_w, .int .u8 xa_r, .int .u8 xa_g, .int .u8 xa_b, .int .u8 xa_a, .bool xa_f, .int .i16 xb_x, .int .i16 xb_y, .int .i16 xb_z, .int .i16 xb_w, .int .u8 xb_r, .int .u8 xb_g, .int .u8 xb_b, .int .u8 xb_a, .bool xb_f, .int .i16 xc_x, .int .i16 xc_y, .int .i16 xc_z, .int .i16 xc_w, .int .u8 xc_r, .int .u8 xc_g, .int .u8 xc_b, .int .u8 xc_a, .bool xc_f] 27)) := ((Ext.refl w).alloc _ _)
  have B1 := (Blk.new w #[.int .i16 xa_x, .int .i16 xa_y, .int .i16 xa_z, .int .i16 xa_w, .int .u8 xa_r, .int .u8 xa_g, .int .u8 xa_b, .int .u8 xa_a, .bool xa_f, .int .i16 xb_x, .int .i16 xb_y, .int .i16 xb_z, .int .i16 xb_w, .int .u8 xb_r, .int .u8 xb_g, .int .u8 xb_b, .int .u8 xb_a, .bool xb_f, .int .i16 xc_x, .int .i16 xc_y, .int .i16 xc_z, .int .i16 xc_w, .int .u8 xc_r, .int .u8 xc_g, .int .u8 xc_b, .int .u8 xc_a, .bool xc_f] 27)
  go_enter Try.func3, Try.ntmps3
  go_upto_region 1 with fail

  generalize (w.alloc (.cells #[.int .i16 xa_x, .int .i16 xa_y, .int .i16 xa_z, .int .i16 xa_w, .int .u8 xa_r, .int .u8 xa_g, .int .u8 xa_b, .int .u8 xa_a, .bool xa_f, .int .i16 xb_x, .int .i16 xb_y, .int .i16 xb_z, .int .i16 xb_w, .int .u8 xb_r, .int .u8 xb_g, .int .u8 xb_b, .int .u8 xb_a, .bool xb_f, .int .i16 xc_x, .int .i16 xc_y, .int .i16 xc_z, .int .i16 xc_w, .int .u8 xc_r, .int .u8 xc_g, .int .u8 xc_b, .int .u8 xc_a, .bool xc_f] 27)) = w0 at *
  go_wp2_with fail
  refine (awake12_any _).mono ?_
  rintro e w1 ⟨rfl, x1⟩
  have x01 := x0.trans x1
  have B1 := B1.ext x1
  clear x0 x1
  go_wp2_with (first
    | ((with_reducible refine wpList_load_blk (op := ⟨some 9, _, _, _, _, _⟩) ?_ 27 (.tmp 1) ?_ (w.heap.size) ?_ (z := _) (T := 27) B1 Try.underlying27 ?_ ?_ ?_); rfl; rfl; rfl; rfl; kernel_rfl)
    | fail)
  refine (HV.out _).mono ?_
  rintro e w2 ⟨rfl, x2⟩
  have x02 := x01.trans x2
  have y3 : Ext w2 ((w2.alloc (.cells #[.int .i64 0, .int .i64 0, .int .i64 0, .int .i64 0, .int .i64 0, .int .i64 0, .int .i64 0, .int .i64 0, .int .i64 0, .int .i64 0, .int .i64 0, .int .i64 0, .int .i64 0, .int .i64 0, .int .i64 0, .int .i64 0, .int .i64 0, .int .i64 0, .int .i64 0, .int .i64 0, .int .i64 0, .int .i64 0, .int .i64 0, .int .i64 0] 33)).setRow w2.heap.size #[.int .i64 a0, .int .i64 a1, .int .i64 a2, .int .i64 a3, .int .i64 a4, .int .i64 a5, .int .i64 a6, .int .i64 a7, .int .i64 b0, .int .i64 b1, .int .i64 b2, .int .i64 b3, .int .i64 b4, .int .i64 b5, .int .i64 b6, .int .i64 b7, .int .i64 c0, .int .i64 c1, .int .i64 c2, .int .i64 c3, .int .i64 c4, .int .i64 c5, .int .i64 c6, .int .i64 c7]) := ((Ext.refl _).alloc _ _).setRow (Nat.le_refl _) _
  have B3 := (Blk.new w2 #[.int .i64 0, .int .i64 0, .int .i64 0, .int .i64 0, .int .i64 0, .int .i64 0, .int .i64 0, .int .i64 0, .int .i64 0, .int .i64 0, .int .i64 0, .int .i64 0, .int .i64 0, .int .i64 0, .int .i64 0, .int .i64 0, .int .i64 0, .int .i64 0, .int .i64 0, .int .i64 0, .int .i64 0, .int .i64 0, .int .i64 0, .int .i64 0] 33).setRow #[.int .i64 a0, .int .i64 a1, .int .i64 a2, .int .i64 a3, .int .i64 a4, .int .i64 a5, .int .i64 a6, .int .i64 a7, .int .i64 b0, .int .i64 b1, .int .i64 b2, .int .i64 b3, .int .i64 b4, .int .i64 b5, .int .i64 b6, .int .i64 b7, .int .i64 c0, .int .i64 c1, .int .i64 c2, .int .i64 c3, .int .i64 c4, .int .i64 c5, .int .i64 c6, .int .i64 c7]
  go_upto_region 4 with (first
    | ((with_reducible refine wpList_store_blk (op := ⟨none, .store 33 (.tmp 3) (.tmp 10), _, _, _, _⟩) ?_ 33 (.tmp 3) (.tmp 10) ?_ (w2.heap.size) ?_ (cs := #[.int .i64 a0, .int .i64 a1, .int .i64 a2, .int .i64 a3, .int .i64 a4, .int .i64 a5, .int .i64 a6, .int .i64 a7, .int .i64 b0, .int .i64 b1, .int .i64 b2, .int .i64 b3, .int .i64 b4, .int .i64 b5, .int .i64 b6, .int .i64 b7, .int .i64 c0, .int .i64 c1, .int .i64 c2, .int .i64 c3, .int .i64 c4, .int .i64 c5, .int .i64 c6, .int .i64 c7]) ?_ (z := #[.int .i64 0, .int .i64 0, .int .i64 0, .int .i64 0, .int .i64 0, .int .i64 0, .int .i64 0, .int .i64 0, .int .i64 0, .int .i64 0, .int .i64 0, .int .i64 0, .int .i64 0, .int .i64 0, .int .i64 0, .int .i64 0, .int .i64 0, .int .i64 0, .int .i64 0, .int .i64 0, .int .i64 0, .int .i64 0, .int .i64 0, .int .i64 0]) (T := 33) ?_ ?_ ?_ ?_ ?_); rfl; rfl; rfl; rfl; exact Blk.new w2 _ _; kernel_rfl; kernel_rfl; kernel_rfl)
    | fail)
  simp only [Act.put]
  have x13 := x02.trans y3
  have hb3 : w.heap.size ≤ w2.heap.size := x02.size
  clear B1 x01 x2 x02 y3 HV
  generalize (w2.alloc (.cells #[.int .i64 0, .int .i64 0, .int .i64 0, .int .i64 0, .int .i64 0, .int .i64 0, .int .i64 0, .int .i64 0, .int .i64 0, .int .i64 0, .int .i64 0, .int .i64 0, .int .i64 0, .int .i64 0, .int .i64 0, .int .i64 0, .int .i64 0, .int .i64 0, .int .i64 0, .int .i64 0, .int .i64 0, .int .i64 0, .int .i64 0, .int .i64 0] 33)).setRow w2.heap.size #[.int .i64 a0, .int .i64 a1, .int .i64 a2, .int .i64 a3, .int .i64 a4, .int .i64 a5, .int .i64 a6, .int .i64 a7, .int .i64 b0, .int .i64 b1, .int .i64 b2, .int .i64 b3, .int .i64 b4, .int .i64 b5, .int .i64 b6, .int .i64 b7, .int .i64 c0, .int .i64 c1, .int .i64 c2, .int .i64 c3, .int .i64 c4, .int .i64 c5, .int .i64 c6, .int .i64 c7] = w3 at *
  generalize w2.heap.size = gb at *
  have R0 := B3.mid 0 [.int .i64 a0, .int .i64 a1, .int .i64 a2, .int .i64 a3, .int .i64 a4, .int .i64 a5, .int .i64 a6, .int .i64 a7] rfl
  have R1 := B3.mid 8 [.int .i64 b0, .int .i64 b1, .int .i64 b2, .int .i64 b3, .int .i64 b4, .int .i64 b5, .int .i64 b6, .int .i64 b7] rfl
  have R2 := B3.mid 16 [.int .i64 c0, .int .i64 c1, .int .i64 c2, .int .i64 c3, .int .i64 c4, .int .i64 c5, .int .i64 c6, .int .i64 c7] rfl
  have hR0 : ∀ u, Calls Try.prog 11 #[.agg #[.int .i64 a0, .int .i64 a1, .int .i64 a2, .int .i64 a3, .int .i64 a4, .int .i64 a5, .int .i64 a6, .int .i64 a7]] u fun e w' => e = .returned (.agg #[.int .i64 a0, .int .i64 a1, .int .i64 a2, .int .i64 a3, .int .i64 a4, .int .i64 a5, .int .i64 a6, .int .i64 a7]) ∧ Ext u w' := fun u => ref12_any ⟨a0, a1, a2, a3, a4, a5, a6, a7⟩ u
  have hR1 : ∀ u, Calls Try.prog 11 #[.agg #[.int .i64 b0, .int .i64 b1, .int .i64 b2, .int .i64 b3, .int .i64 b4, .int .i64 b5, .int .i64 b6, .int .i64 b7]] u fun e w' => e = .returned (.agg #[.int .i64 b0, .int .i64 b1, .int .i64 b2, .int .i64 b3, .int .i64 b4, .int .i64 b5, .int .i64 b6, .int .i64 b7]) ∧ Ext u w' := fun u => ref12_any ⟨b0, b1, b2, b3, b4, b5, b6, b7⟩ u
  have hR2 : ∀ u, Calls Try.prog 11 #[.agg #[.int .i64 c0, .int .i64 c1, .int .i64 c2, .int .i64 c3, .int .i64 c4, .int .i64 c5, .int .i64 c6, .int .i64 c7]] u fun e w' => e = .returned (.agg #[.int .i64 c0, .int .i64 c1, .int .i64 c2, .int .i64 c3, .int .i64 c4, .int .i64 c5, .int .i64 c6, .int .i64 c7]) ∧ Ext u w' := fun u => ref12_any ⟨c0, c1, c2, c3, c4, c5, c6, c7⟩ u
  have HR0 := Lib.hid hR0
  have HR1 := Lib.hid hR1
  have HR2 := Lib.hid hR2
  clear hR0 hR1 hR2 R0 R1 R2
  apply wp_region_tail 3 [false, false, false, false, false, false, false, false, false, true, true, true] [20, 21, 4] [] _ (by kernel_rfl) (by kernel_rfl) (by kernel_rfl)
  case H =>
    intro y0 hy0
    have hne : Nonempty (Wx y0) := ⟨⟨y0, Ext.refl y0⟩⟩
    have qB := fun (t : Wx y0) => ((B3.calm hy0 (by simp)).ext t.ext).cell
    simp only [eraseM]
    repeat (go_big_quiet_step (first | (go_at_call 11; with_reducible exact calm_of (HR0.out _)) | (go_at_call 11; with_reducible exact calm_of (HR1.out _)) | (go_at_call 11; with_reducible exact calm_of (HR2.out _))))
    exact wpQuiet_nil rfl
  case hF => rfl
  case T =>
    change tailW _ _ _ _ [_, _, _] _ _
    refine fun u x hc => ?_
    have O : OwnG LR (u.alloc (.cells #[.int .i64 a0, .int .i64 a1, .int .i64 a2, .int .i64 a3, .int .i64 a4, .int .i64 a5, .int .i64 a6, .int .i64 a7, .int .i64 b0, .int .i64 b1, .int .i64 b2, .int .i64 b3, .int .i64 b4, .int .i64 b5, .int .i64 b6, .int .i64 b7, .int .i64 c0, .int .i64 c1, .int .i64 c2, .int .i64 c3, .int .i64 c4, .int .i64 c5, .int .i64 c6, .int .i64 c7] 38)) u.heap.size (.slice (some ⟨u.heap.size, 0, none⟩) 3 3) [⟨a0, a1, a2, a3, a4, a5, a6, a7⟩, ⟨b0, b1, b2, b3, b4, b5, b6, b7⟩, ⟨c0, c1, c2, c3, c4, c5, c6, c7⟩] := OwnG.lit LR u [⟨a0, a1, a2, a3, a4, a5, a6, a7⟩, ⟨b0, b1, b2, b3, b4, b5, b6, b7⟩, ⟨c0, c1, c2, c3, c4, c5, c6, c7⟩] (by simp)
    refine gives_value (u' := u.alloc (.cells #[.int .i64 a0, .int .i64 a1, .int .i64 a2, .int .i64 a3, .int .i64 a4, .int .i64 a5, .int .i64 a6, .int .i64 a7, .int .i64 b0, .int .i64 b1, .int .i64 b2, .int .i64 b3, .int .i64 b4, .int .i64 b5, .int .i64 b6, .int .i64 b7, .int .i64 c0, .int .i64 c1, .int .i64 c2, .int .i64 c3, .int .i64 c4, .int .i64 c5, .int .i64 c6, .int .i64 c7] 38)) (v := .slice (some ⟨u.heap.size, 0, none⟩) 3 3) ?_ ⟨hc.trans (((Ext.refl u).alloc _ _).calm []), fun u2 z2 hc2 => ?_⟩
    · simp [go_sem]
    · refine gives_enter (f := 10) (args := #[.slice (some ⟨u.heap.size, 0, none⟩) 3 3]) (by simp [go_sem]) (HR.out u2 _ _ _ ((O.ext z2).parr)) ?_
      rintro e w8 ⟨r, rfl, oR, z4⟩
      obtain ⟨ar, cr, rfl, -, -⟩ := oR.slice
      refine ⟨_, rfl, hc2.trans (z4.calm []), fun u3 z3 hc3 => ?_⟩
      refine gives_value (u' := u3) (v := .slice ar L.length cr) (by simp [go_sem]) ⟨hc3, fun u4 z5 hc4 => ?_⟩
      have oR := (oR.ext z3).ext z5
      have x14 := x13.trans hc4.ext
      have B3 := B3.ext hc4.ext
      have R0 := B3.mid 0 [.int .i64 a0, .int .i64 a1, .int .i64 a2, .int .i64 a3, .int .i64 a4, .int .i64 a5, .int .i64 a6, .int .i64 a7] rfl
      have R1 := B3.mid 8 [.int .i64 b0, .int .i64 b1, .int .i64 b2, .int .i64 b3, .int .i64 b4, .int .i64 b5, .int .i64 b6, .int .i64 b7] rfl
      have R2 := B3.mid 16 [.int .i64 c0, .int .i64 c1, .int .i64 c2, .int .i64 c3, .int .i64 c4, .int .i64 c5, .int .i64 c6, .int .i64 c7] rfl
      have HO := Lib.hid oR
      clear x13 z5 hc4 z3 hc3 z4 hc2 z2 O hc x oR HR HR0 HR1 HR2
      simp only [Act.put, List.setIfInBounds_toArray, List.set_cons_succ, List.set_cons_zero]
      go_wp2_with (first
    | (refine wpList_load_mid (op := ⟨some 23, _, _, _, _, _⟩) rfl 32 (.tmp 22) rfl gb 0 rfl [.int .i64 a0, .int .i64 a1, .int .i64 a2, .int .i64 a3, .int .i64 a4, .int .i64 a5, .int .i64 a6, .int .i64 a7] _ R0 Try.underlying32 rfl (by kernel_rfl) ?_)
    | (refine wpList_load_mid (op := ⟨some 25, _, _, _, _, _⟩) rfl 32 (.tmp 24) rfl gb 8 rfl [.int .i64 b0, .int .i64 b1, .int .i64 b2, .int .i64 b3, .int .i64 b4, .int .i64 b5, .int .i64 b6, .int .i64 b7] _ R1 Try.underlying32 rfl (by kernel_rfl) ?_)
    | (refine wpList_load_mid (op := ⟨some 27, _, _, _, _, _⟩) rfl 32 (.tmp 26) rfl gb 16 rfl [.int .i64 c0, .int .i64 c1, .int .i64 c2, .int .i64 c3, .int .i64 c4, .int .i64 c5, .int .i64 c6, .int .i64 c7] _ R2 Try.underlying32 rfl (by kernel_rfl) ?_)
    | fail)
      refine (HC.out _).mono ?_
      rintro e w5 ⟨r, rfl, o, x5⟩
      obtain ⟨ao, cp, rfl, -, -⟩ := o.slice
      have x15 := x14.trans x5
      have HOR := Lib.hid (HO.out.ext x5)
      have HOG := Lib.hid o
      have hL16 : ¬ (16 : Int) < (L.length : Int) := by omega
      clear x14 x5 R0 R1 R2 HC o HO B3
      go_wp2_with fail
      go_loopg [41] L.length (fun n0 iv wx => ∃ (i : Nat), i + n0 = L.length ∧ iv = .int .i64 i ∧ Ext w5 wx)
      case atStart => exact ⟨0, by omega, by simp, Ext.refl _⟩
      case round =>
        generalize wr = wy at *
        obtain ⟨i, hik, rfl, E⟩ := hrel
        have x16 := x15.trans E
        by_cases hi : i < L.length
        · have hiI : (i : Int) < (L.length : Int) := by omega
          obtain ⟨g, x, rfl, -, hx, cx⟩ := (HOG.out.ext E).nth i hi
          obtain ⟨g2, y, rfl, -, hy, cy⟩ := (HOR.out.ext E).nth i hi
          rw [hx] at hy
          obtain rfl := Option.some.inj hy
          clear hx hy
          obtain ⟨v0, v1, v2, v3, v4, v5, v6, v7⟩ := x
          have k0 := cx 0 _ rfl
          have m0 := cy 0 _ rfl
          have k1 := cx 1 _ rfl
          have m1 := cy 1 _ rfl
          have k2 := cx 2 _ rfl
          have m2 := cy 2 _ rfl
          have k3 := cx 3 _ rfl
          have m3 := cy 3 _ rfl
          have k4 := cx 4 _ rfl
          have m4 := cy 4 _ rfl
          have k5 := cx 5 _ rfl
          have m5 := cy 5 _ rfl
          have k6 := cx 6 _ rfl
          have m6 := cy 6 _ rfl
          have k7 := cx 7 _ rfl
          have m7 := cy 7 _ rfl
          simp only [LC, LR, Nat.add_zero] at k0 m0 k1 m1 k2 m2 k3 m3 k4 m4 k5 m5 k6 m6 k7 m7
          clear cx cy
          have hE := eqV
          go_upto_region 11 with fail
          apply wp_region_reads2 _ (by kernel_rfl) (by kernel_rfl)
          case H =>
            intro y0 hy0
            have hne : Nonempty (Wx y0) := ⟨⟨y0, Ext.refl y0⟩⟩
            have qk0 := fun (t : Wx y0) => (hy0.trans t.ext).old k0
            have qm0 := fun (t : Wx y0) => (hy0.trans t.ext).old m0
            have qk1 := fun (t : Wx y0) => (hy0.trans t.ext).old k1
            have qm1 := fun (t : Wx y0) => (hy0.trans t.ext).old m1
            have qk2 := fun (t : Wx y0) => (hy0.trans t.ext).old k2
            have qm2 := fun (t : Wx y0) => (hy0.trans t.ext).old m2
            have qk3 := fun (t : Wx y0) => (hy0.trans t.ext).old k3
            have qm3 := fun (t : Wx y0) => (hy0.trans t.ext).old m3
            have qk4 := fun (t : Wx y0) => (hy0.trans t.ext).old k4
            have qm4 := fun (t : Wx y0) => (hy0.trans t.ext).old m4
            have qk5 := fun (t : Wx y0) => (hy0.trans t.ext).old k5
            have qm5 := fun (t : Wx y0) => (hy0.trans t.ext).old m5
            have qk6 := fun (t : Wx y0) => (hy0.trans t.ext).old k6
            have qm6 := fun (t : Wx y0) => (hy0.trans t.ext).old m6
            have qk7 := fun (t : Wx y0) => (hy0.trans t.ext).old k7
            have qm7 := fun (t : Wx y0) => (hy0.trans t.ext).old m7
            repeat (go_big_quiet_step (fail))
            exact wpQuiet_nil rfl
          intro w7 x7
          have E7 := E.trans x7
          clear k0 m0 k1 m1 k2 m2 k3 m3 k4 m4 k5 m5 k6 m6 k7 m7
          go_wp2
          go_roundg (gk - 1)
          case measure => omega
          case rel => exact ⟨i + 1, by omega, by simp, E7⟩
        · obtain rfl : i = L.length := by omega
          go_wp2
          go_ret
          exact ⟨rfl, x16⟩
theorem clipCuts_row (va vb vc : VSm) (ha : va.ok) (hb : vb.ok) (hc : vc.ok) (w : World) :
    Calls Try.prog 3 #[.agg (va.l ++ (vb.l ++ vc.l)).toArray] w fun e w' => e = .returned (.bool true) ∧ Ext w w' := by
  have fa := vx_fine ha
  have fb := vx_fine hb
  have fc := vx_fine hc
  have hall := three_all (P := fun x => x.inP ∧ x.inC 0 65536) (vx_in ha) (vx_in hb) (vx_in hc)
  refine cuts_main va.x va.y va.z va.w va.r va.g va.b va.a vb.x vb.y vb.z vb.w vb.r vb.g vb.b vb.a vc.x vc.y vc.z vc.w vc.r vc.g vc.b vc.a va.far vb.far vc.far (vxF va).p0 (vxF va).p1 (vxF va).p2 (vxF va).p3 (vxF va).c0 (vxF va).c1 (vxF va).c2 (vxF va).c3 (vxF vb).p0 (vxF vb).p1 (vxF vb).p2 (vxF vb).p3 (vxF vb).c0 (vxF vb).c1 (vxF vb).c2 (vxF vb).c3 (vxF vc).p0 (vxF vc).p1 (vxF vc).p2 (vxF vc).p3 (vxF vc).c0 (vxF vc).c1 (vxF vc).c2 (vxF vc).c3 (gend (gplanes [vxF va, vxF vb, vxF vc] 7)) (gend_le _)
    (fun u => vertices12_any va vb vc ha hb hc u) (fun u => clip_any (vxF va) (vxF vb) (vxF vc) fa.in64 fb.in64 fc.in64 u) ?_ w
  intro u ao n c hP
  rw [gend_eq hall]
  exact rclip_any u ao n c _ hP (by simp) (three_all fa fb fc)
end Go.Proofs.Ytjohcngmoemmbaa
