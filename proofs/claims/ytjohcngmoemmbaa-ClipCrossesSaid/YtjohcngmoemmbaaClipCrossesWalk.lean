/-
  DERIVED. ClipCrosses: the walks (made by mkcliplaws.py).
-/
import Derived.Test.YtjohcngmoemmbaaClipThree
namespace Go.Proofs.Ytjohcngmoemmbaa
open Go.RowKit
set_option linter.unusedVariables false
theorem mkS (u : World) : (Instr.alloc 43 true (.tuple #[])).run Try.prog u = .ok (.pointer (some ⟨u.heap.size, 0, none⟩)) (u.alloc (.cells #[.int .i64 0, .int .i64 0, .int .i64 0, .int .i64 0, .int .i64 0, .int .i64 0, .int .i64 0, .int .i64 0] 43)) := by
  simp [go_sem]
theorem mkC (u : World) : (Instr.alloc 32 true (.tuple #[])).run Try.prog u = .ok (.pointer (some ⟨u.heap.size, 0, none⟩)) (u.alloc (.cells #[.int .i64 0, .int .i64 0, .int .i64 0, .int .i64 0, .int .i64 0, .int .i64 0, .int .i64 0, .int .i64 0] 32)) := by
  simp [go_sem]
set_option maxRecDepth 100000 in
set_option maxHeartbeats 4000000 in
theorem crosses_keepA (xa_x xa_y xa_z xa_w xa_r xa_g xa_b xa_a xb_x xb_y xb_z xb_w xb_r xb_g xb_b xb_a : Int) (xa_f xb_f : Bool) (a0 a1 a2 a3 a4 a5 a6 a7 b0 b1 b2 b3 b4 b5 b6 b7 a b pl : Int) (k : Nat) (hk7 : k < 7) (hp : 0 ≤ pl ∧ pl ≤ 255) (hk : pl % 7 = (k : Int)) (hV1 : ∀ u, Calls Try.prog 13 #[.agg #[.int .i16 xa_x, .int .i16 xa_y, .int .i16 xa_z, .int .i16 xa_w, .int .u8 xa_r, .int .u8 xa_g, .int .u8 xa_b, .int .u8 xa_a, .bool xa_f]] u fun e w' => e = .returned (.agg #[.int .i64 a0, .int .i64 a1, .int .i64 a2, .int .i64 a3, .int .i64 a4, .int .i64 a5, .int .i64 a6, .int .i64 a7]) ∧ Ext u w') (hV2 : ∀ u, Calls Try.prog 13 #[.agg #[.int .i16 xb_x, .int .i16 xb_y, .int .i16 xb_z, .int .i16 xb_w, .int .u8 xb_r, .int .u8 xb_g, .int .u8 xb_b, .int .u8 xb_a, .bool xb_f]] u fun e w' => e = .returned (.agg #[.int .i64 b0, .int .i64 b1, .int .i64 b2, .int .i64 b3, .int .i64 b4, .int .i64 b5, .int .i64 b6, .int .i64 b7]) ∧ Ext u w') (hA : ∀ u, Calls Try.prog 15 #[.agg #[.int .i64 a0, .int .i64 a1, .int .i64 a2, .int .i64 a3, .int .i64 a4, .int .i64 a5, .int .i64 a6, .int .i64 a7], .int .i64 (k : Int)] u fun e w' => e = .returned (.int .i64 a) ∧ Ext u w') (hB : ∀ u, Calls Try.prog 15 #[.agg #[.int .i64 b0, .int .i64 b1, .int .i64 b2, .int .i64 b3, .int .i64 b4, .int .i64 b5, .int .i64 b6, .int .i64 b7], .int .i64 (k : Int)] u fun e w' => e = .returned (.int .i64 b) ∧ Ext u w') (s1 : 0 ≤ a) (s2 : 0 ≤ b)
    
    (hC : ∀ u, Calls Try.prog 17 #[.agg #[.int .i64 a0, .int .i64 a1, .int .i64 a2, .int .i64 a3, .int .i64 a4, .int .i64 a5, .int .i64 a6, .int .i64 a7], .agg #[.int .i64 b0, .int .i64 b1, .int .i64 b2, .int .i64 b3, .int .i64 b4, .int .i64 b5, .int .i64 b6, .int .i64 b7], .int .i64 (k : Int)] u fun e w' => e = .returned (.agg #[.int .i64 a0, .int .i64 a1, .int .i64 a2, .int .i64 a3, .int .i64 a4, .int .i64 a5, .int .i64 a6, .int .i64 a7]) ∧ Ext u w') (w : World) :
    Calls Try.prog 5 #[.agg #[.int .i16 xa_x, .int .i16 xa_y, .int .i16 xa_z, .int .i16 xa_w, .int .u8 xa_r, .int .u8 xa_g, .int .u8 xa_b, .int .u8 xa_a, .bool xa_f], .agg #[.int .i16 xb_x, .int .i16 xb_y, .int .i16 xb_z, .int .i16 xb_w, .int .u8 xb_r, .int .u8 xb_g, .int .u8 xb_b, .int .u8 xb_a, .bool xb_f], .int .u8 pl] w fun e w' => e = .returned (.bool true) ∧ Ext w w' := by
  have HV1 := Lib.hid hV1
  have HV2 := Lib.hid hV2
  have HA := Lib.hid hA
  have HB := Lib.hid hB
  have HC := Lib.hid hC
  clear hV1 hV2 hA hB hC


  have xx : Ext w ((w.alloc (.cells #[.int .i16 xa_x, .int .i16 xa_y, .int .i16 xa_z, .int .i16 xa_w, .int .u8 xa_r, .int .u8 xa_g, .int .u8 xa_b, .int .u8 xa_a, .bool xa_f] 25)).alloc (.cells #[.int .i16 xb_x, .int .i16 xb_y, .int .i16 xb_z, .int .i16 xb_w, .int .u8 xb_r, .int .u8 xb_g, .int .u8 xb_b, .int .u8 xb_a, .bool xb_f] 25)) := ((Ext.refl w).alloc _ _).alloc _ _
  have B3 := (Blk.new w #[.int .i16 xa_x, .int .i16 xa_y, .int .i16 xa_z, .int .i16 xa_w, .int .u8 xa_r, .int .u8 xa_g, .int .u8 xa_b, .int .u8 xa_a, .bool xa_f] 25).alloc (.cells #[.int .i16 xb_x, .int .i16 xb_y, .int .i16 xb_z, .int .i16 xb_w, .int .u8 xb_r, .int .u8 xb_g, .int .u8 xb_b, .int .u8 xb_a, .bool xb_f] 25)
  have B4 := Blk.new (w.alloc (.cells #[.int .i16 xa_x, .int .i16 xa_y, .int .i16 xa_z, .int .i16 xa_w, .int .u8 xa_r, .int .u8 xa_g, .int .u8 xa_b, .int .u8 xa_a, .bool xa_f] 25)) #[.int .i16 xb_x, .int .i16 xb_y, .int .i16 xb_z, .int .i16 xb_w, .int .u8 xb_r, .int .u8 xb_g, .int .u8 xb_b, .int .u8 xb_a, .bool xb_f] 25
  go_enter Try.func5, Try.ntmps5
  go_upto_region 1 with fail
  simp only [World.size_alloc] at B4
  generalize ((w.alloc (.cells #[.int .i16 xa_x, .int .i16 xa_y, .int .i16 xa_z, .int .i16 xa_w, .int .u8 xa_r, .int .u8 xa_g, .int .u8 xa_b, .int .u8 xa_a, .bool xa_f] 25)).alloc (.cells #[.int .i16 xb_x, .int .i16 xb_y, .int .i16 xb_z, .int .i16 xb_w, .int .u8 xb_r, .int .u8 xb_g, .int .u8 xb_b, .int .u8 xb_a, .bool xb_f] 25)) = w0 at *
  go_wp2_with fail
  refine (awake12_any _).mono ?_
  rintro e w1 ⟨rfl, x1⟩
  have xx := xx.trans x1
  have B3 := B3.ext x1
  have B4 := B4.ext x1
  clear x1
  go_upto_region 3 with fail
  apply wp_region_vars [false, false, false, false, true, true, true, true] [] [⟨some 4, 7, 0, some 6, 43, #[.int .i64 0, .int .i64 0, .int .i64 0, .int .i64 0, .int .i64 0, .int .i64 0, .int .i64 0, .int .i64 0], #[.int .i64 a0, .int .i64 a1, .int .i64 a2, .int .i64 a3, .int .i64 a4, .int .i64 a5, .int .i64 a6, .int .i64 a7]⟩, ⟨some 5, 8, 0, some 7, 43, #[.int .i64 0, .int .i64 0, .int .i64 0, .int .i64 0, .int .i64 0, .int .i64 0, .int .i64 0, .int .i64 0], #[.int .i64 b0, .int .i64 b1, .int .i64 b2, .int .i64 b3, .int .i64 b4, .int .i64 b5, .int .i64 b6, .int .i64 b7]⟩] _ (by kernel_rfl) (by kernel_rfl) (by kernel_rfl)
  case H =>
    intro y0 hy0
    have hne : Nonempty (Wx y0) := ⟨⟨y0, Ext.refl y0⟩⟩
    have qB3 := fun (t : Wx y0) => ((B3.calm hy0 (by simp)).ext t.ext).cell
    have qB4 := fun (t : Wx y0) => ((B4.calm hy0 (by simp)).ext t.ext).cell
    simp only [eraseM]
    repeat (go_big_quiet_step (first | (go_at_call 13; with_reducible exact calm_of (HV1.out _)) | (go_at_call 13; with_reducible exact calm_of (HV2.out _))))
    exact wpQuiet_nil rfl
  case hok =>
    simp only [List.forall_mem_cons, List.not_mem_nil, false_implies, implies_true, and_true]
    refine ⟨tgt_fresh (by simp) rfl rfl mkS rfl rfl rfl rfl (by kernel_rfl) (by kernel_rfl) rfl, tgt_fresh (by simp) rfl rfl mkS rfl rfl rfl rfl (by kernel_rfl) (by kernel_rfl) rfl⟩
  case hdis =>
    intro k k' t t' hk hk' _ ha
    exfalso
    have := List.mem_of_getElem? hk
    simp only [List.mem_cons, List.not_mem_nil, or_false] at this
    rcases this with rfl | rfl <;> cases ha
  rintro w2 f hw ⟨k0, l0, d0, -, k1, l1, d1, u1, -⟩
  have xx := xx.trans hw.ext
  have ndis := u1 0 (by decide)
  clear u1
  simp only [pairs, putAll, Option.isSome_some, if_true, Act.put, List.setIfInBounds_toArray, List.set_cons_succ, List.set_cons_zero, Nat.zero_add]
  generalize f 0 = z7 at *
  generalize f 1 = z8 at *
  have K0 : w1.heap.size ≤ z7 := k0
  have K1 : w1.heap.size ≤ z8 := k1
  clear k0 k1 l0 l1 hw
  have B7 : Blk w2 z7 #[.int .i64 a0, .int .i64 a1, .int .i64 a2, .int .i64 a3, .int .i64 a4, .int .i64 a5, .int .i64 a6, .int .i64 a7] 43 := d0
  have B8 : Blk w2 z8 #[.int .i64 b0, .int .i64 b1, .int .i64 b2, .int .i64 b3, .int .i64 b4, .int .i64 b5, .int .i64 b6, .int .i64 b7] 43 := d1
  clear B3 B4 d0 d1 ndis HV1 HV2
  have xs2 := xx.size
  go_upto_region 4 with fail
  apply wp_region_vars [false, false, false, false, false, false, false, false, false, false, true, true, true, true] [] [⟨some 10, 9, 0, some 12, 32, #[.int .i64 0, .int .i64 0, .int .i64 0, .int .i64 0, .int .i64 0, .int .i64 0, .int .i64 0, .int .i64 0], #[.int .i64 a0, .int .i64 a1, .int .i64 a2, .int .i64 a3, .int .i64 a4, .int .i64 a5, .int .i64 a6, .int .i64 a7]⟩, ⟨some 11, 10, 0, some 13, 32, #[.int .i64 0, .int .i64 0, .int .i64 0, .int .i64 0, .int .i64 0, .int .i64 0, .int .i64 0, .int .i64 0], #[.int .i64 b0, .int .i64 b1, .int .i64 b2, .int .i64 b3, .int .i64 b4, .int .i64 b5, .int .i64 b6, .int .i64 b7]⟩] _ (by kernel_rfl) (by kernel_rfl) (by kernel_rfl)
  case H =>
    intro y0 hy0
    have hne : Nonempty (Wx y0) := ⟨⟨y0, Ext.refl y0⟩⟩
    have qB7 := fun (t : Wx y0) => ((B7.calm hy0 (by simp)).ext t.ext).cell
    have qB8 := fun (t : Wx y0) => ((B8.calm hy0 (by simp)).ext t.ext).cell
    simp only [eraseM]
    repeat (go_big_quiet_step (fail))
    exact wpQuiet_nil rfl
  case hok =>
    simp only [List.forall_mem_cons, List.not_mem_nil, false_implies, implies_true, and_true]
    refine ⟨tgt_fresh (by simp) rfl rfl mkC rfl rfl rfl rfl (by kernel_rfl) (by kernel_rfl) rfl, tgt_fresh (by simp) rfl rfl mkC rfl rfl rfl rfl (by kernel_rfl) (by kernel_rfl) rfl⟩
  case hdis =>
    intro k k' t t' hk hk' _ ha
    exfalso
    have := List.mem_of_getElem? hk
    simp only [List.mem_cons, List.not_mem_nil, or_false] at this
    rcases this with rfl | rfl <;> cases ha
  rintro w3 f hw ⟨k0, l0, d0, -, k1, l1, d1, u1, -⟩
  have xx := xx.trans hw.ext
  have ndis := u1 0 (by decide)
  clear u1
  simp only [pairs, putAll, Option.isSome_some, if_true, Act.put, List.setIfInBounds_toArray, List.set_cons_succ, List.set_cons_zero, Nat.zero_add]
  generalize f 0 = z9 at *
  generalize f 1 = z10 at *
  have K0 : w2.heap.size ≤ z9 := k0
  have K1 : w2.heap.size ≤ z10 := k1
  clear k0 k1 l0 l1 hw
  have B9 : Blk w3 z9 #[.int .i64 a0, .int .i64 a1, .int .i64 a2, .int .i64 a3, .int .i64 a4, .int .i64 a5, .int .i64 a6, .int .i64 a7] 32 := d0
  have B10 : Blk w3 z10 #[.int .i64 b0, .int .i64 b1, .int .i64 b2, .int .i64 b3, .int .i64 b4, .int .i64 b5, .int .i64 b6, .int .i64 b7] 32 := d1
  have hb9 : w.heap.size ≤ z9 := by omega
  have hb10 : w.heap.size ≤ z10 := by omega
  clear d0 d1 K0 K1 xs2 B7 B8
  have ndis2 : z10 ≠ z9 := fun h => ndis h.symm
  have m1 : pl.tmod 7 = (k : Int) := by rw [Int.tmod_eq_emod_of_nonneg hp.1]; exact hk
  have m2 : IntKind.i64.wrap (k : Int) = (k : Int) := by rw [IntKind.wrap_i64]; omega
  go_wp2_with (first
    | ((with_reducible refine wpList_load_blk (op := ⟨some 38, _, _, _, _, _⟩) ?_ 32 (.tmp 9) ?_ (z9) ?_ (z := _) (T := 32) B9 Try.underlying32 ?_ ?_ ?_); rfl; rfl; rfl; rfl; kernel_rfl)
    | fail)
  refine (HA.out _).mono ?_
  rintro e w4 ⟨rfl, x4⟩
  have xx := xx.trans x4
  have B9 := B9.ext x4
  have B10 := B10.ext x4
  clear x4
  have s1n : ¬ a < 0 := by omega
  go_wp2_with (first
    | ((with_reducible refine wpList_load_blk (op := ⟨some 44, _, _, _, _, _⟩) ?_ 32 (.tmp 9) ?_ (z9) ?_ (z := _) (T := 32) B9 Try.underlying32 ?_ ?_ ?_); rfl; rfl; rfl; rfl; kernel_rfl)
    | ((with_reducible refine wpList_load_blk (op := ⟨some 45, _, _, _, _, _⟩) ?_ 32 (.tmp 10) ?_ (z10) ?_ (z := _) (T := 32) B10 Try.underlying32 ?_ ?_ ?_); rfl; rfl; rfl; rfl; kernel_rfl)
    | fail)
  refine (HC.out _).mono ?_
  rintro e w6 ⟨rfl, x6⟩
  have xx := xx.trans x6
  have B9 := B9.ext x6
  have B10 := B10.ext x6
  clear x6 HC
  have N12 := (Blk.new w6 #[.int .i64 0, .int .i64 0, .int .i64 0, .int .i64 0, .int .i64 0, .int .i64 0, .int .i64 0, .int .i64 0] 32).setRow #[.int .i64 a0, .int .i64 a1, .int .i64 a2, .int .i64 a3, .int .i64 a4, .int .i64 a5, .int .i64 a6, .int .i64 a7]
  have y12 : Ext w6 ((w6.alloc (.cells #[.int .i64 0, .int .i64 0, .int .i64 0, .int .i64 0, .int .i64 0, .int .i64 0, .int .i64 0, .int .i64 0] 32)).setRow w6.heap.size #[.int .i64 a0, .int .i64 a1, .int .i64 a2, .int .i64 a3, .int .i64 a4, .int .i64 a5, .int .i64 a6, .int .i64 a7]) := ((Ext.refl _).alloc _ _).setRow (Nat.le_refl _) _
  go_upto_region 9 with (first
    | fail
    | ((with_reducible refine wpList_store_blk (op := ⟨none, .store 32 (.tmp 12) (.tmp 47), _, _, _, _⟩) ?_ 32 (.tmp 12) (.tmp 47) ?_ (w6.heap.size) ?_ (cs := #[.int .i64 a0, .int .i64 a1, .int .i64 a2, .int .i64 a3, .int .i64 a4, .int .i64 a5, .int .i64 a6, .int .i64 a7]) ?_ (z := #[.int .i64 0, .int .i64 0, .int .i64 0, .int .i64 0, .int .i64 0, .int .i64 0, .int .i64 0, .int .i64 0]) (T := 32) ?_ ?_ ?_ ?_ ?_); rfl; rfl; rfl; rfl; exact Blk.new w6 _ _; kernel_rfl; kernel_rfl; kernel_rfl)
    | fail)
  simp only [Act.put]
  have B9 := B9.ext y12
  have B10 := B10.ext y12
  have xx := xx.trans y12
  clear y12
  generalize (w6.alloc (.cells #[.int .i64 0, .int .i64 0, .int .i64 0, .int .i64 0, .int .i64 0, .int .i64 0, .int .i64 0, .int .i64 0] 32)).setRow w6.heap.size #[.int .i64 a0, .int .i64 a1, .int .i64 a2, .int .i64 a3, .int .i64 a4, .int .i64 a5, .int .i64 a6, .int .i64 a7] = w7 at *
  generalize w6.heap.size = z12 at *
  have B12 := N12
  clear N12
  go_wp2_with (first
    | ((with_reducible refine wpList_load_blk (op := ⟨some 48, _, _, _, _, _⟩) ?_ 32 (.tmp 9) ?_ (z9) ?_ (z := _) (T := 32) B9 Try.underlying32 ?_ ?_ ?_); rfl; rfl; rfl; rfl; kernel_rfl)
    | fail)
  refine (HA.out _).mono ?_
  rintro e w8 ⟨rfl, x8⟩
  have xx := xx.trans x8
  have B9 := B9.ext x8
  have B10 := B10.ext x8
  have B12 := B12.ext x8
  clear x8
  have s1m : ¬ a < 0 := by omega
  have c10 := B10.cell
  go_wp2_with fail
  refine (HB.out _).mono ?_
  rintro e w9 ⟨rfl, x9⟩
  have xx := xx.trans x9
  have B9 := B9.ext x9
  have B10 := B10.ext x9
  have B12 := B12.ext x9
  clear x9 c10
  have s2m : 0 ≤ b := by omega
  have hE := eqCV
  go_wp2_with (first
    | ((with_reducible refine wpList_load_blk (op := ⟨some 58, _, _, _, _, _⟩) ?_ 32 (.tmp 12) ?_ (z12) ?_ (z := _) (T := 32) B12 Try.underlying32 ?_ ?_ ?_); rfl; rfl; rfl; rfl; kernel_rfl)
    | ((with_reducible refine wpList_load_blk (op := ⟨some 59, _, _, _, _, _⟩) ?_ 32 (.tmp 9) ?_ (z9) ?_ (z := _) (T := 32) B9 Try.underlying32 ?_ ?_ ?_); rfl; rfl; rfl; rfl; kernel_rfl)
    | fail)
  go_ret
  exact ⟨rfl, xx⟩
set_option maxRecDepth 100000 in
set_option maxHeartbeats 4000000 in
theorem crosses_cutA (xa_x xa_y xa_z xa_w xa_r xa_g xa_b xa_a xb_x xb_y xb_z xb_w xb_r xb_g xb_b xb_a : Int) (xa_f xb_f : Bool) (a0 a1 a2 a3 a4 a5 a6 a7 b0 b1 b2 b3 b4 b5 b6 b7 a b pl : Int) (k : Nat) (hk7 : k < 7) (hp : 0 ≤ pl ∧ pl ≤ 255) (hk : pl % 7 = (k : Int)) (hV1 : ∀ u, Calls Try.prog 13 #[.agg #[.int .i16 xa_x, .int .i16 xa_y, .int .i16 xa_z, .int .i16 xa_w, .int .u8 xa_r, .int .u8 xa_g, .int .u8 xa_b, .int .u8 xa_a, .bool xa_f]] u fun e w' => e = .returned (.agg #[.int .i64 a0, .int .i64 a1, .int .i64 a2, .int .i64 a3, .int .i64 a4, .int .i64 a5, .int .i64 a6, .int .i64 a7]) ∧ Ext u w') (hV2 : ∀ u, Calls Try.prog 13 #[.agg #[.int .i16 xb_x, .int .i16 xb_y, .int .i16 xb_z, .int .i16 xb_w, .int .u8 xb_r, .int .u8 xb_g, .int .u8 xb_b, .int .u8 xb_a, .bool xb_f]] u fun e w' => e = .returned (.agg #[.int .i64 b0, .int .i64 b1, .int .i64 b2, .int .i64 b3, .int .i64 b4, .int .i64 b5, .int .i64 b6, .int .i64 b7]) ∧ Ext u w') (hA : ∀ u, Calls Try.prog 15 #[.agg #[.int .i64 a0, .int .i64 a1, .int .i64 a2, .int .i64 a3, .int .i64 a4, .int .i64 a5, .int .i64 a6, .int .i64 a7], .int .i64 (k : Int)] u fun e w' => e = .returned (.int .i64 a) ∧ Ext u w') (hB : ∀ u, Calls Try.prog 15 #[.agg #[.int .i64 b0, .int .i64 b1, .int .i64 b2, .int .i64 b3, .int .i64 b4, .int .i64 b5, .int .i64 b6, .int .i64 b7], .int .i64 (k : Int)] u fun e w' => e = .returned (.int .i64 b) ∧ Ext u w') (s1 : 0 ≤ a) (s2 : b < 0)
    (r0 r1 r2 r3 r4 r5 r6 r7 d : Int) (hD : ∀ u, Calls Try.prog 15 #[.agg #[.int .i64 r0, .int .i64 r1, .int .i64 r2, .int .i64 r3, .int .i64 r4, .int .i64 r5, .int .i64 r6, .int .i64 r7], .int .i64 (k : Int)] u fun e w' => e = .returned (.int .i64 d) ∧ Ext u w') (hd : -9 ≤ d ∧ d ≤ 9) (g0 : min a0 b0 ≤ r0 ∧ r0 ≤ max a0 b0) (g1 : min a1 b1 ≤ r1 ∧ r1 ≤ max a1 b1) (g2 : min a2 b2 ≤ r2 ∧ r2 ≤ max a2 b2) (g3 : min a3 b3 ≤ r3 ∧ r3 ≤ max a3 b3) (g4 : min a4 b4 ≤ r4 ∧ r4 ≤ max a4 b4) (g5 : min a5 b5 ≤ r5 ∧ r5 ≤ max a5 b5) (g6 : min a6 b6 ≤ r6 ∧ r6 ≤ max a6 b6) (g7 : min a7 b7 ≤ r7 ∧ r7 ≤ max a7 b7)
    (hC : ∀ u, Calls Try.prog 17 #[.agg #[.int .i64 a0, .int .i64 a1, .int .i64 a2, .int .i64 a3, .int .i64 a4, .int .i64 a5, .int .i64 a6, .int .i64 a7], .agg #[.int .i64 b0, .int .i64 b1, .int .i64 b2, .int .i64 b3, .int .i64 b4, .int .i64 b5, .int .i64 b6, .int .i64 b7], .int .i64 (k : Int)] u fun e w' => e = .returned (.agg #[.int .i64 r0, .int .i64 r1, .int .i64 r2, .int .i64 r3, .int .i64 r4, .int .i64 r5, .int .i64 r6, .int .i64 r7]) ∧ Ext u w') (w : World) :
    Calls Try.prog 5 #[.agg #[.int .i16 xa_x, .int .i16 xa_y, .int .i16 xa_z, .int .i16 xa_w, .int .u8 xa_r, .int .u8 xa_g, .int .u8 xa_b, .int .u8 xa_a, .bool xa_f], .agg #[.int .i16 xb_x, .int .i16 xb_y, .int .i16 xb_z, .int .i16 xb_w, .int .u8 xb_r, .int .u8 xb_g, .int .u8 xb_b, .int .u8 xb_a, .bool xb_f], .int .u8 pl] w fun e w' => e = .returned (.bool true) ∧ Ext w w' := by
  have HV1 := Lib.hid hV1
  have HV2 := Lib.hid hV2
  have HA := Lib.hid hA
  have HB := Lib.hid hB
  have HC := Lib.hid hC
  clear hV1 hV2 hA hB hC
  have HD := Lib.hid hD
  clear hD
  have lo0 : ¬ r0 < minI a0 b0 := by rw [minI_eq]; omega
  have up0 : ¬ maxI a0 b0 < r0 := by rw [maxI_eq]; omega
  have lo1 : ¬ r1 < minI a1 b1 := by rw [minI_eq]; omega
  have up1 : ¬ maxI a1 b1 < r1 := by rw [maxI_eq]; omega
  have lo2 : ¬ r2 < minI a2 b2 := by rw [minI_eq]; omega
  have up2 : ¬ maxI a2 b2 < r2 := by rw [maxI_eq]; omega
  have lo3 : ¬ r3 < minI a3 b3 := by rw [minI_eq]; omega
  have up3 : ¬ maxI a3 b3 < r3 := by rw [maxI_eq]; omega
  have lo4 : ¬ r4 < minI a4 b4 := by rw [minI_eq]; omega
  have up4 : ¬ maxI a4 b4 < r4 := by rw [maxI_eq]; omega
  have lo5 : ¬ r5 < minI a5 b5 := by rw [minI_eq]; omega
  have up5 : ¬ maxI a5 b5 < r5 := by rw [maxI_eq]; omega
  have lo6 : ¬ r6 < minI a6 b6 := by rw [minI_eq]; omega
  have up6 : ¬ maxI a6 b6 < r6 := by rw [maxI_eq]; omega
  have lo7 : ¬ r7 < minI a7 b7 := by rw [minI_eq]; omega
  have up7 : ¬ maxI a7 b7 < r7 := by rw [maxI_eq]; omega
  clear g0 g1 g2 g3 g4 g5 g6 g7
  have xx : Ext w ((w.alloc (.cells #[.int .i16 xa_x, .int .i16 xa_y, .int .i16 xa_z, .int .i16 xa_w, .int .u8 xa_r, .int .u8 xa_g, .int .u8 xa_b, .int .u8 xa_a, .bool xa_f] 25)).alloc (.cells #[.int .i16 xb_x, .int .i16 xb_y, .int .i16 xb_z, .int .i16 xb_w, .int .u8 xb_r, .int .u8 xb_g, .int .u8 xb_b, .int .u8 xb_a, .bool xb_f] 25)) := ((Ext.refl w).alloc _ _).alloc _ _
  have B3 := (Blk.new w #[.int .i16 xa_x, .int .i16 xa_y, .int .i16 xa_z, .int .i16 xa_w, .int .u8 xa_r, .int .u8 xa_g, .int .u8 xa_b, .int .u8 xa_a, .bool xa_f] 25).alloc (.cells #[.int .i16 xb_x, .int .i16 xb_y, .int .i16 xb_z, .int .i16 xb_w, .int .u8 xb_r, .int .u8 xb_g, .int .u8 xb_b, .int .u8 xb_a, .bool xb_f] 25)
  have B4 := Blk.new (w.alloc (.cells #[.int .i16 xa_x, .int .i16 xa_y, .int .i16 xa_z, .int .i16 xa_w, .int .u8 xa_r, .int .u8 xa_g, .int .u8 xa_b, .int .u8 xa_a, .bool xa_f] 25)) #[.int .i16 xb_x, .int .i16 xb_y, .int .i16 xb_z, .int .i16 xb_w, .int .u8 xb_r, .int .u8 xb_g, .int .u8 xb_b, .int .u8 xb_a, .bool xb_f] 25
  go_enter Try.func5, Try.ntmps5
  go_upto_region 1 with fail
  simp only [World.size_alloc] at B4
  generalize ((w.alloc (.cells #[.int .i16 xa_x, .int .i16 xa_y, .int .i16 xa_z, .int .i16 xa_w, .int .u8 xa_r, .int .u8 xa_g, .int .u8 xa_b, .int .u8 xa_a, .bool xa_f] 25)).alloc (.cells #[.int .i16 xb_x, .int .i16 xb_y, .int .i16 xb_z, .int .i16 xb_w, .int .u8 xb_r, .int .u8 xb_g, .int .u8 xb_b, .int .u8 xb_a, .bool xb_f] 25)) = w0 at *
  go_wp2_with fail
  refine (awake12_any _).mono ?_
  rintro e w1 ⟨rfl, x1⟩
  have xx := xx.trans x1
  have B3 := B3.ext x1
  have B4 := B4.ext x1
  clear x1
  go_upto_region 3 with fail
  apply wp_region_vars [false, false, false, false, true, true, true, true] [] [⟨some 4, 7, 0, some 6, 43, #[.int .i64 0, .int .i64 0, .int .i64 0, .int .i64 0, .int .i64 0, .int .i64 0, .int .i64 0, .int .i64 0], #[.int .i64 a0, .int .i64 a1, .int .i64 a2, .int .i64 a3, .int .i64 a4, .int .i64 a5, .int .i64 a6, .int .i64 a7]⟩, ⟨some 5, 8, 0, some 7, 43, #[.int .i64 0, .int .i64 0, .int .i64 0, .int .i64 0, .int .i64 0, .int .i64 0, .int .i64 0, .int .i64 0], #[.int .i64 b0, .int .i64 b1, .int .i64 b2, .int .i64 b3, .int .i64 b4, .int .i64 b5, .int .i64 b6, .int .i64 b7]⟩] _ (by kernel_rfl) (by kernel_rfl) (by kernel_rfl)
  case H =>
    intro y0 hy0
    have hne : Nonempty (Wx y0) := ⟨⟨y0, Ext.refl y0⟩⟩
    have qB3 := fun (t : Wx y0) => ((B3.calm hy0 (by simp)).ext t.ext).cell
    have qB4 := fun (t : Wx y0) => ((B4.calm hy0 (by simp)).ext t.ext).cell
    simp only [eraseM]
    repeat (go_big_quiet_step (first | (go_at_call 13; with_reducible exact calm_of (HV1.out _)) | (go_at_call 13; with_reducible exact calm_of (HV2.out _))))
    exact wpQuiet_nil rfl
  case hok =>
    simp only [List.forall_mem_cons, List.not_mem_nil, false_implies, implies_true, and_true]
    refine ⟨tgt_fresh (by simp) rfl rfl mkS rfl rfl rfl rfl (by kernel_rfl) (by kernel_rfl) rfl, tgt_fresh (by simp) rfl rfl mkS rfl rfl rfl rfl (by kernel_rfl) (by kernel_rfl) rfl⟩
  case hdis =>
    intro k k' t t' hk hk' _ ha
    exfalso
    have := List.mem_of_getElem? hk
    simp only [List.mem_cons, List.not_mem_nil, or_false] at this
    rcases this with rfl | rfl <;> cases ha
  rintro w2 f hw ⟨k0, l0, d0, -, k1, l1, d1, u1, -⟩
  have xx := xx.trans hw.ext
  have ndis := u1 0 (by decide)
  clear u1
  simp only [pairs, putAll, Option.isSome_some, if_true, Act.put, List.setIfInBounds_toArray, List.set_cons_succ, List.set_cons_zero, Nat.zero_add]
  generalize f 0 = z7 at *
  generalize f 1 = z8 at *
  have K0 : w1.heap.size ≤ z7 := k0
  have K1 : w1.heap.size ≤ z8 := k1
  clear k0 k1 l0 l1 hw
  have B7 : Blk w2 z7 #[.int .i64 a0, .int .i64 a1, .int .i64 a2, .int .i64 a3, .int .i64 a4, .int .i64 a5, .int .i64 a6, .int .i64 a7] 43 := d0
  have B8 : Blk w2 z8 #[.int .i64 b0, .int .i64 b1, .int .i64 b2, .int .i64 b3, .int .i64 b4, .int .i64 b5, .int .i64 b6, .int .i64 b7] 43 := d1
  clear B3 B4 d0 d1 ndis HV1 HV2
  have xs2 := xx.size
  go_upto_region 4 with fail
  apply wp_region_vars [false, false, false, false, false, false, false, false, false, false, true, true, true, true] [] [⟨some 10, 9, 0, some 12, 32, #[.int .i64 0, .int .i64 0, .int .i64 0, .int .i64 0, .int .i64 0, .int .i64 0, .int .i64 0, .int .i64 0], #[.int .i64 a0, .int .i64 a1, .int .i64 a2, .int .i64 a3, .int .i64 a4, .int .i64 a5, .int .i64 a6, .int .i64 a7]⟩, ⟨some 11, 10, 0, some 13, 32, #[.int .i64 0, .int .i64 0, .int .i64 0, .int .i64 0, .int .i64 0, .int .i64 0, .int .i64 0, .int .i64 0], #[.int .i64 b0, .int .i64 b1, .int .i64 b2, .int .i64 b3, .int .i64 b4, .int .i64 b5, .int .i64 b6, .int .i64 b7]⟩] _ (by kernel_rfl) (by kernel_rfl) (by kernel_rfl)
  case H =>
    intro y0 hy0
    have hne : Nonempty (Wx y0) := ⟨⟨y0, Ext.refl y0⟩⟩
    have qB7 := fun (t : Wx y0) => ((B7.calm hy0 (by simp)).ext t.ext).cell
    have qB8 := fun (t : Wx y0) => ((B8.calm hy0 (by simp)).ext t.ext).cell
    simp only [eraseM]
    repeat (go_big_quiet_step (fail))
    exact wpQuiet_nil rfl
  case hok =>
    simp only [List.forall_mem_cons, List.not_mem_nil, false_implies, implies_true, and_true]
    refine ⟨tgt_fresh (by simp) rfl rfl mkC rfl rfl rfl rfl (by kernel_rfl) (by kernel_rfl) rfl, tgt_fresh (by simp) rfl rfl mkC rfl rfl rfl rfl (by kernel_rfl) (by kernel_rfl) rfl⟩
  case hdis =>
    intro k k' t t' hk hk' _ ha
    exfalso
    have := List.mem_of_getElem? hk
    simp only [List.mem_cons, List.not_mem_nil, or_false] at this
    rcases this with rfl | rfl <;> cases ha
  rintro w3 f hw ⟨k0, l0, d0, -, k1, l1, d1, u1, -⟩
  have xx := xx.trans hw.ext
  have ndis := u1 0 (by decide)
  clear u1
  simp only [pairs, putAll, Option.isSome_some, if_true, Act.put, List.setIfInBounds_toArray, List.set_cons_succ, List.set_cons_zero, Nat.zero_add]
  generalize f 0 = z9 at *
  generalize f 1 = z10 at *
  have K0 : w2.heap.size ≤ z9 := k0
  have K1 : w2.heap.size ≤ z10 := k1
  clear k0 k1 l0 l1 hw
  have B9 : Blk w3 z9 #[.int .i64 a0, .int .i64 a1, .int .i64 a2, .int .i64 a3, .int .i64 a4, .int .i64 a5, .int .i64 a6, .int .i64 a7] 32 := d0
  have B10 : Blk w3 z10 #[.int .i64 b0, .int .i64 b1, .int .i64 b2, .int .i64 b3, .int .i64 b4, .int .i64 b5, .int .i64 b6, .int .i64 b7] 32 := d1
  have hb9 : w.heap.size ≤ z9 := by omega
  have hb10 : w.heap.size ≤ z10 := by omega
  clear d0 d1 K0 K1 xs2 B7 B8
  have ndis2 : z10 ≠ z9 := fun h => ndis h.symm
  have m1 : pl.tmod 7 = (k : Int) := by rw [Int.tmod_eq_emod_of_nonneg hp.1]; exact hk
  have m2 : IntKind.i64.wrap (k : Int) = (k : Int) := by rw [IntKind.wrap_i64]; omega
  go_wp2_with (first
    | ((with_reducible refine wpList_load_blk (op := ⟨some 38, _, _, _, _, _⟩) ?_ 32 (.tmp 9) ?_ (z9) ?_ (z := _) (T := 32) B9 Try.underlying32 ?_ ?_ ?_); rfl; rfl; rfl; rfl; kernel_rfl)
    | fail)
  refine (HA.out _).mono ?_
  rintro e w4 ⟨rfl, x4⟩
  have xx := xx.trans x4
  have B9 := B9.ext x4
  have B10 := B10.ext x4
  clear x4
  have s1n : ¬ a < 0 := by omega
  go_wp2_with (first
    | ((with_reducible refine wpList_load_blk (op := ⟨some 44, _, _, _, _, _⟩) ?_ 32 (.tmp 9) ?_ (z9) ?_ (z := _) (T := 32) B9 Try.underlying32 ?_ ?_ ?_); rfl; rfl; rfl; rfl; kernel_rfl)
    | ((with_reducible refine wpList_load_blk (op := ⟨some 45, _, _, _, _, _⟩) ?_ 32 (.tmp 10) ?_ (z10) ?_ (z := _) (T := 32) B10 Try.underlying32 ?_ ?_ ?_); rfl; rfl; rfl; rfl; kernel_rfl)
    | fail)
  refine (HC.out _).mono ?_
  rintro e w6 ⟨rfl, x6⟩
  have xx := xx.trans x6
  have B9 := B9.ext x6
  have B10 := B10.ext x6
  clear x6 HC
  have N12 := (Blk.new w6 #[.int .i64 0, .int .i64 0, .int .i64 0, .int .i64 0, .int .i64 0, .int .i64 0, .int .i64 0, .int .i64 0] 32).setRow #[.int .i64 r0, .int .i64 r1, .int .i64 r2, .int .i64 r3, .int .i64 r4, .int .i64 r5, .int .i64 r6, .int .i64 r7]
  have y12 : Ext w6 ((w6.alloc (.cells #[.int .i64 0, .int .i64 0, .int .i64 0, .int .i64 0, .int .i64 0, .int .i64 0, .int .i64 0, .int .i64 0] 32)).setRow w6.heap.size #[.int .i64 r0, .int .i64 r1, .int .i64 r2, .int .i64 r3, .int .i64 r4, .int .i64 r5, .int .i64 r6, .int .i64 r7]) := ((Ext.refl _).alloc _ _).setRow (Nat.le_refl _) _
  go_upto_region 9 with (first
    | fail
    | ((with_reducible refine wpList_store_blk (op := ⟨none, .store 32 (.tmp 12) (.tmp 47), _, _, _, _⟩) ?_ 32 (.tmp 12) (.tmp 47) ?_ (w6.heap.size) ?_ (cs := #[.int .i64 r0, .int .i64 r1, .int .i64 r2, .int .i64 r3, .int .i64 r4, .int .i64 r5, .int .i64 r6, .int .i64 r7]) ?_ (z := #[.int .i64 0, .int .i64 0, .int .i64 0, .int .i64 0, .int .i64 0, .int .i64 0, .int .i64 0, .int .i64 0]) (T := 32) ?_ ?_ ?_ ?_ ?_); rfl; rfl; rfl; rfl; exact Blk.new w6 _ _; kernel_rfl; kernel_rfl; kernel_rfl)
    | fail)
  simp only [Act.put]
  have B9 := B9.ext y12
  have B10 := B10.ext y12
  have xx := xx.trans y12
  clear y12
  generalize (w6.alloc (.cells #[.int .i64 0, .int .i64 0, .int .i64 0, .int .i64 0, .int .i64 0, .int .i64 0, .int .i64 0, .int .i64 0] 32)).setRow w6.heap.size #[.int .i64 r0, .int .i64 r1, .int .i64 r2, .int .i64 r3, .int .i64 r4, .int .i64 r5, .int .i64 r6, .int .i64 r7] = w7 at *
  generalize w6.heap.size = z12 at *
  have B12 := N12
  clear N12
  go_wp2_with (first
    | ((with_reducible refine wpList_load_blk (op := ⟨some 48, _, _, _, _, _⟩) ?_ 32 (.tmp 9) ?_ (z9) ?_ (z := _) (T := 32) B9 Try.underlying32 ?_ ?_ ?_); rfl; rfl; rfl; rfl; kernel_rfl)
    | fail)
  refine (HA.out _).mono ?_
  rintro e w8 ⟨rfl, x8⟩
  have xx := xx.trans x8
  have B9 := B9.ext x8
  have B10 := B10.ext x8
  have B12 := B12.ext x8
  clear x8
  have s1m : ¬ a < 0 := by omega
  have c10 := B10.cell
  go_wp2_with fail
  refine (HB.out _).mono ?_
  rintro e w9 ⟨rfl, x9⟩
  have xx := xx.trans x9
  have B9 := B9.ext x9
  have B10 := B10.ext x9
  have B12 := B12.ext x9
  clear x9 c10
  have s2m : ¬ 0 ≤ b := by omega
  go_wp2_with fail
  clear HA HB s1 s2 s1n s1m s2m m1 m2 hk hp
  have hmx := maxI_fold
  have hmn := minI_fold
  refine wp_loop_rounds 5 ?_
  rw [rounds_succ]
  go_upto_region 14 with fail
  apply wp_region_reads2 _ (by kernel_rfl) (by kernel_rfl)
  case H =>
    intro y0 hy0
    have hne : Nonempty (Wx y0) := ⟨⟨y0, Ext.refl y0⟩⟩
    have q3 := fun (t : Wx y0) => (B9.ext (hy0.trans t.ext)).cell
    have q4 := fun (t : Wx y0) => (B10.ext (hy0.trans t.ext)).cell
    repeat (go_big_quiet_step (fail))
    exact wpQuiet_nil rfl
  intro v14_0 x9
  have xx := xx.trans x9
  have B9 := B9.ext x9
  have B10 := B10.ext x9
  have B12 := B12.ext x9
  clear x9
  go_upto_region 15 with fail
  apply wp_region_reads2 _ (by kernel_rfl) (by kernel_rfl)
  case H =>
    intro y0 hy0
    have hne : Nonempty (Wx y0) := ⟨⟨y0, Ext.refl y0⟩⟩
    have q3 := fun (t : Wx y0) => (B9.ext (hy0.trans t.ext)).cell
    have q4 := fun (t : Wx y0) => (B10.ext (hy0.trans t.ext)).cell
    repeat (go_big_quiet_step (fail))
    exact wpQuiet_nil rfl
  intro v15_0 x9
  have xx := xx.trans x9
  have B9 := B9.ext x9
  have B10 := B10.ext x9
  have B12 := B12.ext x9
  clear x9
  have c12 := B12.cell
  go_wp2_with fail
  clear c12
  rw [rounds_succ]
  go_upto_region 14 with fail
  apply wp_region_reads2 _ (by kernel_rfl) (by kernel_rfl)
  case H =>
    intro y0 hy0
    have hne : Nonempty (Wx y0) := ⟨⟨y0, Ext.refl y0⟩⟩
    have q3 := fun (t : Wx y0) => (B9.ext (hy0.trans t.ext)).cell
    have q4 := fun (t : Wx y0) => (B10.ext (hy0.trans t.ext)).cell
    repeat (go_big_quiet_step (fail))
    exact wpQuiet_nil rfl
  intro v14_1 x9
  have xx := xx.trans x9
  have B9 := B9.ext x9
  have B10 := B10.ext x9
  have B12 := B12.ext x9
  clear x9
  go_upto_region 15 with fail
  apply wp_region_reads2 _ (by kernel_rfl) (by kernel_rfl)
  case H =>
    intro y0 hy0
    have hne : Nonempty (Wx y0) := ⟨⟨y0, Ext.refl y0⟩⟩
    have q3 := fun (t : Wx y0) => (B9.ext (hy0.trans t.ext)).cell
    have q4 := fun (t : Wx y0) => (B10.ext (hy0.trans t.ext)).cell
    repeat (go_big_quiet_step (fail))
    exact wpQuiet_nil rfl
  intro v15_1 x9
  have xx := xx.trans x9
  have B9 := B9.ext x9
  have B10 := B10.ext x9
  have B12 := B12.ext x9
  clear x9
  have c12 := B12.cell
  go_wp2_with fail
  clear c12
  rw [rounds_succ]
  go_upto_region 14 with fail
  apply wp_region_reads2 _ (by kernel_rfl) (by kernel_rfl)
  case H =>
    intro y0 hy0
    have hne : Nonempty (Wx y0) := ⟨⟨y0, Ext.refl y0⟩⟩
    have q3 := fun (t : Wx y0) => (B9.ext (hy0.trans t.ext)).cell
    have q4 := fun (t : Wx y0) => (B10.ext (hy0.trans t.ext)).cell
    repeat (go_big_quiet_step (fail))
    exact wpQuiet_nil rfl
  intro v14_2 x9
  have xx := xx.trans x9
  have B9 := B9.ext x9
  have B10 := B10.ext x9
  have B12 := B12.ext x9
  clear x9
  go_upto_region 15 with fail
  apply wp_region_reads2 _ (by kernel_rfl) (by kernel_rfl)
  case H =>
    intro y0 hy0
    have hne : Nonempty (Wx y0) := ⟨⟨y0, Ext.refl y0⟩⟩
    have q3 := fun (t : Wx y0) => (B9.ext (hy0.trans t.ext)).cell
    have q4 := fun (t : Wx y0) => (B10.ext (hy0.trans t.ext)).cell
    repeat (go_big_quiet_step (fail))
    exact wpQuiet_nil rfl
  intro v15_2 x9
  have xx := xx.trans x9
  have B9 := B9.ext x9
  have B10 := B10.ext x9
  have B12 := B12.ext x9
  clear x9
  have c12 := B12.cell
  go_wp2_with fail
  clear c12
  rw [rounds_succ]
  go_upto_region 14 with fail
  apply wp_region_reads2 _ (by kernel_rfl) (by kernel_rfl)
  case H =>
    intro y0 hy0
    have hne : Nonempty (Wx y0) := ⟨⟨y0, Ext.refl y0⟩⟩
    have q3 := fun (t : Wx y0) => (B9.ext (hy0.trans t.ext)).cell
    have q4 := fun (t : Wx y0) => (B10.ext (hy0.trans t.ext)).cell
    repeat (go_big_quiet_step (fail))
    exact wpQuiet_nil rfl
  intro v14_3 x9
  have xx := xx.trans x9
  have B9 := B9.ext x9
  have B10 := B10.ext x9
  have B12 := B12.ext x9
  clear x9
  go_upto_region 15 with fail
  apply wp_region_reads2 _ (by kernel_rfl) (by kernel_rfl)
  case H =>
    intro y0 hy0
    have hne : Nonempty (Wx y0) := ⟨⟨y0, Ext.refl y0⟩⟩
    have q3 := fun (t : Wx y0) => (B9.ext (hy0.trans t.ext)).cell
    have q4 := fun (t : Wx y0) => (B10.ext (hy0.trans t.ext)).cell
    repeat (go_big_quiet_step (fail))
    exact wpQuiet_nil rfl
  intro v15_3 x9
  have xx := xx.trans x9
  have B9 := B9.ext x9
  have B10 := B10.ext x9
  have B12 := B12.ext x9
  clear x9
  have c12 := B12.cell
  go_wp2_with fail
  clear c12
  rw [rounds_succ]
  have h9 : maxI d (-d) ≤ 9 := by rw [maxI_eq]; omega
  have wd : IntKind.i64.wrap (-d) = -d := by rw [IntKind.wrap_i64]; omega
  go_wp2_with (first
    | ((with_reducible refine wpList_load_blk (op := ⟨some 119, _, _, _, _, _⟩) ?_ 32 (.tmp 12) ?_ (z12) ?_ (z := _) (T := 32) B12 Try.underlying32 ?_ ?_ ?_); rfl; rfl; rfl; rfl; kernel_rfl)
    | fail)
  refine (HD.out _).mono ?_
  rintro e w20 ⟨rfl, x20⟩
  have xx := xx.trans x20
  go_wp2
  go_ret
  exact ⟨rfl, xx⟩
set_option maxRecDepth 100000 in
set_option maxHeartbeats 4000000 in
theorem crosses_keepB (xa_x xa_y xa_z xa_w xa_r xa_g xa_b xa_a xb_x xb_y xb_z xb_w xb_r xb_g xb_b xb_a : Int) (xa_f xb_f : Bool) (a0 a1 a2 a3 a4 a5 a6 a7 b0 b1 b2 b3 b4 b5 b6 b7 a b pl : Int) (k : Nat) (hk7 : k < 7) (hp : 0 ≤ pl ∧ pl ≤ 255) (hk : pl % 7 = (k : Int)) (hV1 : ∀ u, Calls Try.prog 13 #[.agg #[.int .i16 xa_x, .int .i16 xa_y, .int .i16 xa_z, .int .i16 xa_w, .int .u8 xa_r, .int .u8 xa_g, .int .u8 xa_b, .int .u8 xa_a, .bool xa_f]] u fun e w' => e = .returned (.agg #[.int .i64 a0, .int .i64 a1, .int .i64 a2, .int .i64 a3, .int .i64 a4, .int .i64 a5, .int .i64 a6, .int .i64 a7]) ∧ Ext u w') (hV2 : ∀ u, Calls Try.prog 13 #[.agg #[.int .i16 xb_x, .int .i16 xb_y, .int .i16 xb_z, .int .i16 xb_w, .int .u8 xb_r, .int .u8 xb_g, .int .u8 xb_b, .int .u8 xb_a, .bool xb_f]] u fun e w' => e = .returned (.agg #[.int .i64 b0, .int .i64 b1, .int .i64 b2, .int .i64 b3, .int .i64 b4, .int .i64 b5, .int .i64 b6, .int .i64 b7]) ∧ Ext u w') (hA : ∀ u, Calls Try.prog 15 #[.agg #[.int .i64 a0, .int .i64 a1, .int .i64 a2, .int .i64 a3, .int .i64 a4, .int .i64 a5, .int .i64 a6, .int .i64 a7], .int .i64 (k : Int)] u fun e w' => e = .returned (.int .i64 a) ∧ Ext u w') (hB : ∀ u, Calls Try.prog 15 #[.agg #[.int .i64 b0, .int .i64 b1, .int .i64 b2, .int .i64 b3, .int .i64 b4, .int .i64 b5, .int .i64 b6, .int .i64 b7], .int .i64 (k : Int)] u fun e w' => e = .returned (.int .i64 b) ∧ Ext u w') (s1 : a < 0) (s2 : b < 0)
    
    (hC : ∀ u, Calls Try.prog 17 #[.agg #[.int .i64 b0, .int .i64 b1, .int .i64 b2, .int .i64 b3, .int .i64 b4, .int .i64 b5, .int .i64 b6, .int .i64 b7], .agg #[.int .i64 a0, .int .i64 a1, .int .i64 a2, .int .i64 a3, .int .i64 a4, .int .i64 a5, .int .i64 a6, .int .i64 a7], .int .i64 (k : Int)] u fun e w' => e = .returned (.agg #[.int .i64 b0, .int .i64 b1, .int .i64 b2, .int .i64 b3, .int .i64 b4, .int .i64 b5, .int .i64 b6, .int .i64 b7]) ∧ Ext u w') (w : World) :
    Calls Try.prog 5 #[.agg #[.int .i16 xa_x, .int .i16 xa_y, .int .i16 xa_z, .int .i16 xa_w, .int .u8 xa_r, .int .u8 xa_g, .int .u8 xa_b, .int .u8 xa_a, .bool xa_f], .agg #[.int .i16 xb_x, .int .i16 xb_y, .int .i16 xb_z, .int .i16 xb_w, .int .u8 xb_r, .int .u8 xb_g, .int .u8 xb_b, .int .u8 xb_a, .bool xb_f], .int .u8 pl] w fun e w' => e = .returned (.bool true) ∧ Ext w w' := by
  have HV1 := Lib.hid hV1
  have HV2 := Lib.hid hV2
  have HA := Lib.hid hA
  have HB := Lib.hid hB
  have HC := Lib.hid hC
  clear hV1 hV2 hA hB hC


  have xx : Ext w ((w.alloc (.cells #[.int .i16 xa_x, .int .i16 xa_y, .int .i16 xa_z, .int .i16 xa_w, .int .u8 xa_r, .int .u8 xa_g, .int .u8 xa_b, .int .u8 xa_a, .bool xa_f] 25)).alloc (.cells #[.int .i16 xb_x, .int .i16 xb_y, .int .i16 xb_z, .int .i16 xb_w, .int .u8 xb_r, .int .u8 xb_g, .int .u8 xb_b, .int .u8 xb_a, .bool xb_f] 25)) := ((Ext.refl w).alloc _ _).alloc _ _
  have B3 := (Blk.new w #[.int .i16 xa_x, .int .i16 xa_y, .int .i16 xa_z, .int .i16 xa_w, .int .u8 xa_r, .int .u8 xa_g, .int .u8 xa_b, .int .u8 xa_a, .bool xa_f] 25).alloc (.cells #[.int .i16 xb_x, .int .i16 xb_y, .int .i16 xb_z, .int .i16 xb_w, .int .u8 xb_r, .int .u8 xb_g, .int .u8 xb_b, .int .u8 xb_a, .bool xb_f] 25)
  have B4 := Blk.new (w.alloc (.cells #[.int .i16 xa_x, .int .i16 xa_y, .int .i16 xa_z, .int .i16 xa_w, .int .u8 xa_r, .int .u8 xa_g, .int .u8 xa_b, .int .u8 xa_a, .bool xa_f] 25)) #[.int .i16 xb_x, .int .i16 xb_y, .int .i16 xb_z, .int .i16 xb_w, .int .u8 xb_r, .int .u8 xb_g, .int .u8 xb_b, .int .u8 xb_a, .bool xb_f] 25
  go_enter Try.func5, Try.ntmps5
  go_upto_region 1 with fail
  simp only [World.size_alloc] at B4
  generalize ((w.alloc (.cells #[.int .i16 xa_x, .int .i16 xa_y, .int .i16 xa_z, .int .i16 xa_w, .int .u8 xa_r, .int .u8 xa_g, .int .u8 xa_b, .int .u8 xa_a, .bool xa_f] 25)).alloc (.cells #[.int .i16 xb_x, .int .i16 xb_y, .int .i16 xb_z, .int .i16 xb_w, .int .u8 xb_r, .int .u8 xb_g, .int .u8 xb_b, .int .u8 xb_a, .bool xb_f] 25)) = w0 at *
  go_wp2_with fail
  refine (awake12_any _).mono ?_
  rintro e w1 ⟨rfl, x1⟩
  have xx := xx.trans x1
  have B3 := B3.ext x1
  have B4 := B4.ext x1
  clear x1
  go_upto_region 3 with fail
  apply wp_region_vars [false, false, false, false, true, true, true, true] [] [⟨some 4, 7, 0, some 6, 43, #[.int .i64 0, .int .i64 0, .int .i64 0, .int .i64 0, .int .i64 0, .int .i64 0, .int .i64 0, .int .i64 0], #[.int .i64 a0, .int .i64 a1, .int .i64 a2, .int .i64 a3, .int .i64 a4, .int .i64 a5, .int .i64 a6, .int .i64 a7]⟩, ⟨some 5, 8, 0, some 7, 43, #[.int .i64 0, .int .i64 0, .int .i64 0, .int .i64 0, .int .i64 0, .int .i64 0, .int .i64 0, .int .i64 0], #[.int .i64 b0, .int .i64 b1, .int .i64 b2, .int .i64 b3, .int .i64 b4, .int .i64 b5, .int .i64 b6, .int .i64 b7]⟩] _ (by kernel_rfl) (by kernel_rfl) (by kernel_rfl)
  case H =>
    intro y0 hy0
    have hne : Nonempty (Wx y0) := ⟨⟨y0, Ext.refl y0⟩⟩
    have qB3 := fun (t : Wx y0) => ((B3.calm hy0 (by simp)).ext t.ext).cell
    have qB4 := fun (t : Wx y0) => ((B4.calm hy0 (by simp)).ext t.ext).cell
    simp only [eraseM]
    repeat (go_big_quiet_step (first | (go_at_call 13; with_reducible exact calm_of (HV1.out _)) | (go_at_call 13; with_reducible exact calm_of (HV2.out _))))
    exact wpQuiet_nil rfl
  case hok =>
    simp only [List.forall_mem_cons, List.not_mem_nil, false_implies, implies_true, and_true]
    refine ⟨tgt_fresh (by simp) rfl rfl mkS rfl rfl rfl rfl (by kernel_rfl) (by kernel_rfl) rfl, tgt_fresh (by simp) rfl rfl mkS rfl rfl rfl rfl (by kernel_rfl) (by kernel_rfl) rfl⟩
  case hdis =>
    intro k k' t t' hk hk' _ ha
    exfalso
    have := List.mem_of_getElem? hk
    simp only [List.mem_cons, List.not_mem_nil, or_false] at this
    rcases this with rfl | rfl <;> cases ha
  rintro w2 f hw ⟨k0, l0, d0, -, k1, l1, d1, u1, -⟩
  have xx := xx.trans hw.ext
  have ndis := u1 0 (by decide)
  clear u1
  simp only [pairs, putAll, Option.isSome_some, if_true, Act.put, List.setIfInBounds_toArray, List.set_cons_succ, List.set_cons_zero, Nat.zero_add]
  generalize f 0 = z7 at *
  generalize f 1 = z8 at *
  have K0 : w1.heap.size ≤ z7 := k0
  have K1 : w1.heap.size ≤ z8 := k1
  clear k0 k1 l0 l1 hw
  have B7 : Blk w2 z7 #[.int .i64 a0, .int .i64 a1, .int .i64 a2, .int .i64 a3, .int .i64 a4, .int .i64 a5, .int .i64 a6, .int .i64 a7] 43 := d0
  have B8 : Blk w2 z8 #[.int .i64 b0, .int .i64 b1, .int .i64 b2, .int .i64 b3, .int .i64 b4, .int .i64 b5, .int .i64 b6, .int .i64 b7] 43 := d1
  clear B3 B4 d0 d1 ndis HV1 HV2
  have xs2 := xx.size
  go_upto_region 4 with fail
  apply wp_region_vars [false, false, false, false, false, false, false, false, false, false, true, true, true, true] [] [⟨some 10, 9, 0, some 12, 32, #[.int .i64 0, .int .i64 0, .int .i64 0, .int .i64 0, .int .i64 0, .int .i64 0, .int .i64 0, .int .i64 0], #[.int .i64 a0, .int .i64 a1, .int .i64 a2, .int .i64 a3, .int .i64 a4, .int .i64 a5, .int .i64 a6, .int .i64 a7]⟩, ⟨some 11, 10, 0, some 13, 32, #[.int .i64 0, .int .i64 0, .int .i64 0, .int .i64 0, .int .i64 0, .int .i64 0, .int .i64 0, .int .i64 0], #[.int .i64 b0, .int .i64 b1, .int .i64 b2, .int .i64 b3, .int .i64 b4, .int .i64 b5, .int .i64 b6, .int .i64 b7]⟩] _ (by kernel_rfl) (by kernel_rfl) (by kernel_rfl)
  case H =>
    intro y0 hy0
    have hne : Nonempty (Wx y0) := ⟨⟨y0, Ext.refl y0⟩⟩
    have qB7 := fun (t : Wx y0) => ((B7.calm hy0 (by simp)).ext t.ext).cell
    have qB8 := fun (t : Wx y0) => ((B8.calm hy0 (by simp)).ext t.ext).cell
    simp only [eraseM]
    repeat (go_big_quiet_step (fail))
    exact wpQuiet_nil rfl
  case hok =>
    simp only [List.forall_mem_cons, List.not_mem_nil, false_implies, implies_true, and_true]
    refine ⟨tgt_fresh (by simp) rfl rfl mkC rfl rfl rfl rfl (by kernel_rfl) (by kernel_rfl) rfl, tgt_fresh (by simp) rfl rfl mkC rfl rfl rfl rfl (by kernel_rfl) (by kernel_rfl) rfl⟩
  case hdis =>
    intro k k' t t' hk hk' _ ha
    exfalso
    have := List.mem_of_getElem? hk
    simp only [List.mem_cons, List.not_mem_nil, or_false] at this
    rcases this with rfl | rfl <;> cases ha
  rintro w3 f hw ⟨k0, l0, d0, -, k1, l1, d1, u1, -⟩
  have xx := xx.trans hw.ext
  have ndis := u1 0 (by decide)
  clear u1
  simp only [pairs, putAll, Option.isSome_some, if_true, Act.put, List.setIfInBounds_toArray, List.set_cons_succ, List.set_cons_zero, Nat.zero_add]
  generalize f 0 = z9 at *
  generalize f 1 = z10 at *
  have K0 : w2.heap.size ≤ z9 := k0
  have K1 : w2.heap.size ≤ z10 := k1
  clear k0 k1 l0 l1 hw
  have B9 : Blk w3 z9 #[.int .i64 a0, .int .i64 a1, .int .i64 a2, .int .i64 a3, .int .i64 a4, .int .i64 a5, .int .i64 a6, .int .i64 a7] 32 := d0
  have B10 : Blk w3 z10 #[.int .i64 b0, .int .i64 b1, .int .i64 b2, .int .i64 b3, .int .i64 b4, .int .i64 b5, .int .i64 b6, .int .i64 b7] 32 := d1
  have hb9 : w.heap.size ≤ z9 := by omega
  have hb10 : w.heap.size ≤ z10 := by omega
  clear d0 d1 K0 K1 xs2 B7 B8
  have ndis2 : z10 ≠ z9 := fun h => ndis h.symm
  have m1 : pl.tmod 7 = (k : Int) := by rw [Int.tmod_eq_emod_of_nonneg hp.1]; exact hk
  have m2 : IntKind.i64.wrap (k : Int) = (k : Int) := by rw [IntKind.wrap_i64]; omega
  go_wp2_with (first
    | ((with_reducible refine wpList_load_blk (op := ⟨some 38, _, _, _, _, _⟩) ?_ 32 (.tmp 9) ?_ (z9) ?_ (z := _) (T := 32) B9 Try.underlying32 ?_ ?_ ?_); rfl; rfl; rfl; rfl; kernel_rfl)
    | fail)
  refine (HA.out _).mono ?_
  rintro e w4 ⟨rfl, x4⟩
  have xx := xx.trans x4
  have B9 := B9.ext x4
  have B10 := B10.ext x4
  clear x4
  have s1n : a < 0 := by omega
  have xs := (xx.setRow hb9 #[.int .i64 b0, .int .i64 b1, .int .i64 b2, .int .i64 b3, .int .i64 b4, .int .i64 b5, .int .i64 b6, .int .i64 b7]).setRow hb10 #[.int .i64 a0, .int .i64 a1, .int .i64 a2, .int .i64 a3, .int .i64 a4, .int .i64 a5, .int .i64 a6, .int .i64 a7]
  have E9 := (B9.setRow #[.int .i64 b0, .int .i64 b1, .int .i64 b2, .int .i64 b3, .int .i64 b4, .int .i64 b5, .int .i64 b6, .int .i64 b7]).farRow ndis #[.int .i64 a0, .int .i64 a1, .int .i64 a2, .int .i64 a3, .int .i64 a4, .int .i64 a5, .int .i64 a6, .int .i64 a7]
  have E10 := (B10.farRow ndis2 #[.int .i64 b0, .int .i64 b1, .int .i64 b2, .int .i64 b3, .int .i64 b4, .int .i64 b5, .int .i64 b6, .int .i64 b7]).setRow #[.int .i64 a0, .int .i64 a1, .int .i64 a2, .int .i64 a3, .int .i64 a4, .int .i64 a5, .int .i64 a6, .int .i64 a7]
  go_upto_region 8 with (first
    | ((with_reducible refine wpList_load_blk (op := ⟨some 42, _, _, _, _, _⟩) ?_ 32 (.tmp 10) ?_ (z10) ?_ (z := _) (T := 32) B10 Try.underlying32 ?_ ?_ ?_); rfl; rfl; rfl; rfl; kernel_rfl)
    | ((with_reducible refine wpList_load_blk (op := ⟨some 43, _, _, _, _, _⟩) ?_ 32 (.tmp 9) ?_ (z9) ?_ (z := _) (T := 32) B9 Try.underlying32 ?_ ?_ ?_); rfl; rfl; rfl; rfl; kernel_rfl)
    | ((with_reducible refine wpList_store_blk (op := ⟨none, .store 32 (.tmp 9) (.tmp 42), _, _, _, _⟩) ?_ 32 (.tmp 9) (.tmp 42) ?_ (z9) ?_ (cs := #[.int .i64 b0, .int .i64 b1, .int .i64 b2, .int .i64 b3, .int .i64 b4, .int .i64 b5, .int .i64 b6, .int .i64 b7]) ?_ (z := #[.int .i64 a0, .int .i64 a1, .int .i64 a2, .int .i64 a3, .int .i64 a4, .int .i64 a5, .int .i64 a6, .int .i64 a7]) (T := 32) ?_ ?_ ?_ ?_ ?_); rfl; rfl; rfl; rfl; exact B9; kernel_rfl; kernel_rfl; kernel_rfl)
    | ((with_reducible refine wpList_store_blk (op := ⟨none, .store 32 (.tmp 10) (.tmp 43), _, _, _, _⟩) ?_ 32 (.tmp 10) (.tmp 43) ?_ (z10) ?_ (cs := #[.int .i64 a0, .int .i64 a1, .int .i64 a2, .int .i64 a3, .int .i64 a4, .int .i64 a5, .int .i64 a6, .int .i64 a7]) ?_ (z := #[.int .i64 b0, .int .i64 b1, .int .i64 b2, .int .i64 b3, .int .i64 b4, .int .i64 b5, .int .i64 b6, .int .i64 b7]) (T := 32) ?_ ?_ ?_ ?_ ?_); rfl; rfl; rfl; rfl; exact B10.farRow ndis2 #[.int .i64 b0, .int .i64 b1, .int .i64 b2, .int .i64 b3, .int .i64 b4, .int .i64 b5, .int .i64 b6, .int .i64 b7]; kernel_rfl; kernel_rfl; kernel_rfl)
    | fail)
  simp only [Act.put]
  have B9 := E9
  have B10 := E10
  have xx := xs
  clear E9 E10 xs
  generalize (w4.setRow z9 #[.int .i64 b0, .int .i64 b1, .int .i64 b2, .int .i64 b3, .int .i64 b4, .int .i64 b5, .int .i64 b6, .int .i64 b7]).setRow z10 #[.int .i64 a0, .int .i64 a1, .int .i64 a2, .int .i64 a3, .int .i64 a4, .int .i64 a5, .int .i64 a6, .int .i64 a7] = w5 at *
  go_wp2_with (first
    | ((with_reducible refine wpList_load_blk (op := ⟨some 44, _, _, _, _, _⟩) ?_ 32 (.tmp 9) ?_ (z9) ?_ (z := _) (T := 32) B9 Try.underlying32 ?_ ?_ ?_); rfl; rfl; rfl; rfl; kernel_rfl)
    | ((with_reducible refine wpList_load_blk (op := ⟨some 45, _, _, _, _, _⟩) ?_ 32 (.tmp 10) ?_ (z10) ?_ (z := _) (T := 32) B10 Try.underlying32 ?_ ?_ ?_); rfl; rfl; rfl; rfl; kernel_rfl)
    | fail)
  refine (HC.out _).mono ?_
  rintro e w6 ⟨rfl, x6⟩
  have xx := xx.trans x6
  have B9 := B9.ext x6
  have B10 := B10.ext x6
  clear x6 HC
  have N12 := (Blk.new w6 #[.int .i64 0, .int .i64 0, .int .i64 0, .int .i64 0, .int .i64 0, .int .i64 0, .int .i64 0, .int .i64 0] 32).setRow #[.int .i64 b0, .int .i64 b1, .int .i64 b2, .int .i64 b3, .int .i64 b4, .int .i64 b5, .int .i64 b6, .int .i64 b7]
  have y12 : Ext w6 ((w6.alloc (.cells #[.int .i64 0, .int .i64 0, .int .i64 0, .int .i64 0, .int .i64 0, .int .i64 0, .int .i64 0, .int .i64 0] 32)).setRow w6.heap.size #[.int .i64 b0, .int .i64 b1, .int .i64 b2, .int .i64 b3, .int .i64 b4, .int .i64 b5, .int .i64 b6, .int .i64 b7]) := ((Ext.refl _).alloc _ _).setRow (Nat.le_refl _) _
  go_upto_region 9 with (first
    | fail
    | ((with_reducible refine wpList_store_blk (op := ⟨none, .store 32 (.tmp 12) (.tmp 47), _, _, _, _⟩) ?_ 32 (.tmp 12) (.tmp 47) ?_ (w6.heap.size) ?_ (cs := #[.int .i64 b0, .int .i64 b1, .int .i64 b2, .int .i64 b3, .int .i64 b4, .int .i64 b5, .int .i64 b6, .int .i64 b7]) ?_ (z := #[.int .i64 0, .int .i64 0, .int .i64 0, .int .i64 0, .int .i64 0, .int .i64 0, .int .i64 0, .int .i64 0]) (T := 32) ?_ ?_ ?_ ?_ ?_); rfl; rfl; rfl; rfl; exact Blk.new w6 _ _; kernel_rfl; kernel_rfl; kernel_rfl)
    | fail)
  simp only [Act.put]
  have B9 := B9.ext y12
  have B10 := B10.ext y12
  have xx := xx.trans y12
  clear y12
  generalize (w6.alloc (.cells #[.int .i64 0, .int .i64 0, .int .i64 0, .int .i64 0, .int .i64 0, .int .i64 0, .int .i64 0, .int .i64 0] 32)).setRow w6.heap.size #[.int .i64 b0, .int .i64 b1, .int .i64 b2, .int .i64 b3, .int .i64 b4, .int .i64 b5, .int .i64 b6, .int .i64 b7] = w7 at *
  generalize w6.heap.size = z12 at *
  have B12 := N12
  clear N12
  go_wp2_with (first
    | ((with_reducible refine wpList_load_blk (op := ⟨some 48, _, _, _, _, _⟩) ?_ 32 (.tmp 9) ?_ (z9) ?_ (z := _) (T := 32) B9 Try.underlying32 ?_ ?_ ?_); rfl; rfl; rfl; rfl; kernel_rfl)
    | fail)
  refine (HB.out _).mono ?_
  rintro e w8 ⟨rfl, x8⟩
  have xx := xx.trans x8
  have B9 := B9.ext x8
  have B10 := B10.ext x8
  have B12 := B12.ext x8
  clear x8
  have hE := eqCV
  go_wp2_with (first
    | ((with_reducible refine wpList_load_blk (op := ⟨some 58, _, _, _, _, _⟩) ?_ 32 (.tmp 12) ?_ (z12) ?_ (z := _) (T := 32) B12 Try.underlying32 ?_ ?_ ?_); rfl; rfl; rfl; rfl; kernel_rfl)
    | ((with_reducible refine wpList_load_blk (op := ⟨some 59, _, _, _, _, _⟩) ?_ 32 (.tmp 9) ?_ (z9) ?_ (z := _) (T := 32) B9 Try.underlying32 ?_ ?_ ?_); rfl; rfl; rfl; rfl; kernel_rfl)
    | fail)
  go_ret
  exact ⟨rfl, xx⟩
set_option maxRecDepth 100000 in
set_option maxHeartbeats 4000000 in
theorem crosses_cutB (xa_x xa_y xa_z xa_w xa_r xa_g xa_b xa_a xb_x xb_y xb_z xb_w xb_r xb_g xb_b xb_a : Int) (xa_f xb_f : Bool) (a0 a1 a2 a3 a4 a5 a6 a7 b0 b1 b2 b3 b4 b5 b6 b7 a b pl : Int) (k : Nat) (hk7 : k < 7) (hp : 0 ≤ pl ∧ pl ≤ 255) (hk : pl % 7 = (k : Int)) (hV1 : ∀ u, Calls Try.prog 13 #[.agg #[.int .i16 xa_x, .int .i16 xa_y, .int .i16 xa_z, .int .i16 xa_w, .int .u8 xa_r, .int .u8 xa_g, .int .u8 xa_b, .int .u8 xa_a, .bool xa_f]] u fun e w' => e = .returned (.agg #[.int .i64 a0, .int .i64 a1, .int .i64 a2, .int .i64 a3, .int .i64 a4, .int .i64 a5, .int .i64 a6, .int .i64 a7]) ∧ Ext u w') (hV2 : ∀ u, Calls Try.prog 13 #[.agg #[.int .i16 xb_x, .int .i16 xb_y, .int .i16 xb_z, .int .i16 xb_w, .int .u8 xb_r, .int .u8 xb_g, .int .u8 xb_b, .int .u8 xb_a, .bool xb_f]] u fun e w' => e = .returned (.agg #[.int .i64 b0, .int .i64 b1, .int .i64 b2, .int .i64 b3, .int .i64 b4, .int .i64 b5, .int .i64 b6, .int .i64 b7]) ∧ Ext u w') (hA : ∀ u, Calls Try.prog 15 #[.agg #[.int .i64 a0, .int .i64 a1, .int .i64 a2, .int .i64 a3, .int .i64 a4, .int .i64 a5, .int .i64 a6, .int .i64 a7], .int .i64 (k : Int)] u fun e w' => e = .returned (.int .i64 a) ∧ Ext u w') (hB : ∀ u, Calls Try.prog 15 #[.agg #[.int .i64 b0, .int .i64 b1, .int .i64 b2, .int .i64 b3, .int .i64 b4, .int .i64 b5, .int .i64 b6, .int .i64 b7], .int .i64 (k : Int)] u fun e w' => e = .returned (.int .i64 b) ∧ Ext u w') (s1 : a < 0) (s2 : 0 ≤ b)
    (r0 r1 r2 r3 r4 r5 r6 r7 d : Int) (hD : ∀ u, Calls Try.prog 15 #[.agg #[.int .i64 r0, .int .i64 r1, .int .i64 r2, .int .i64 r3, .int .i64 r4, .int .i64 r5, .int .i64 r6, .int .i64 r7], .int .i64 (k : Int)] u fun e w' => e = .returned (.int .i64 d) ∧ Ext u w') (hd : -9 ≤ d ∧ d ≤ 9) (g0 : min b0 a0 ≤ r0 ∧ r0 ≤ max b0 a0) (g1 : min b1 a1 ≤ r1 ∧ r1 ≤ max b1 a1) (g2 : min b2 a2 ≤ r2 ∧ r2 ≤ max b2 a2) (g3 : min b3 a3 ≤ r3 ∧ r3 ≤ max b3 a3) (g4 : min b4 a4 ≤ r4 ∧ r4 ≤ max b4 a4) (g5 : min b5 a5 ≤ r5 ∧ r5 ≤ max b5 a5) (g6 : min b6 a6 ≤ r6 ∧ r6 ≤ max b6 a6) (g7 : min b7 a7 ≤ r7 ∧ r7 ≤ max b7 a7)
    (hC : ∀ u, Calls Try.prog 17 #[.agg #[.int .i64 b0, .int .i64 b1, .int .i64 b2, .int .i64 b3, .int .i64 b4, .int .i64 b5, .int .i64 b6, .int .i64 b7], .agg #[.int .i64 a0, .int .i64 a1, .int .i64 a2, .int .i64 a3, .int .i64 a4, .int .i64 a5, .int .i64 a6, .int .i64 a7], .int .i64 (k : Int)] u fun e w' => e = .returned (.agg #[.int .i64 r0, .int .i64 r1, .int .i64 r2, .int .i64 r3, .int .i64 r4, .int .i64 r5, .int .i64 r6, .int .i64 r7]) ∧ Ext u w') (w : World) :
    Calls Try.prog 5 #[.agg #[.int .i16 xa_x, .int .i16 xa_y, .int .i16 xa_z, .int .i16 xa_w, .int .u8 xa_r, .int .u8 xa_g, .int .u8 xa_b, .int .u8 xa_a, .bool xa_f], .agg #[.int .i16 xb_x, .int .i16 xb_y, .int .i16 xb_z, .int .i16 xb_w, .int .u8 xb_r, .int .u8 xb_g, .int .u8 xb_b, .int .u8 xb_a, .bool xb_f], .int .u8 pl] w fun e w' => e = .returned (.bool true) ∧ Ext w w' := by
  have HV1 := Lib.hid hV1
  have HV2 := Lib.hid hV2
  have HA := Lib.hid hA
  have HB := Lib.hid hB
  have HC := Lib.hid hC
  clear hV1 hV2 hA hB hC
  have HD := Lib.hid hD
  clear hD
  have lo0 : ¬ r0 < minI b0 a0 := by rw [minI_eq]; omega
  have up0 : ¬ maxI b0 a0 < r0 := by rw [maxI_eq]; omega
  have lo1 : ¬ r1 < minI b1 a1 := by rw [minI_eq]; omega
  have up1 : ¬ maxI b1 a1 < r1 := by rw [maxI_eq]; omega
  have lo2 : ¬ r2 < minI b2 a2 := by rw [minI_eq]; omega
  have up2 : ¬ maxI b2 a2 < r2 := by rw [maxI_eq]; omega
  have lo3 : ¬ r3 < minI b3 a3 := by rw [minI_eq]; omega
  have up3 : ¬ maxI b3 a3 < r3 := by rw [maxI_eq]; omega
  have lo4 : ¬ r4 < minI b4 a4 := by rw [minI_eq]; omega
  have up4 : ¬ maxI b4 a4 < r4 := by rw [maxI_eq]; omega
  have lo5 : ¬ r5 < minI b5 a5 := by rw [minI_eq]; omega
  have up5 : ¬ maxI b5 a5 < r5 := by rw [maxI_eq]; omega
  have lo6 : ¬ r6 < minI b6 a6 := by rw [minI_eq]; omega
  have up6 : ¬ maxI b6 a6 < r6 := by rw [maxI_eq]; omega
  have lo7 : ¬ r7 < minI b7 a7 := by rw [minI_eq]; omega
  have up7 : ¬ maxI b7 a7 < r7 := by rw [maxI_eq]; omega
  clear g0 g1 g2 g3 g4 g5 g6 g7
  have xx : Ext w ((w.alloc (.cells #[.int .i16 xa_x, .int .i16 xa_y, .int .i16 xa_z, .int .i16 xa_w, .int .u8 xa_r, .int .u8 xa_g, .int .u8 xa_b, .int .u8 xa_a, .bool xa_f] 25)).alloc (.cells #[.int .i16 xb_x, .int .i16 xb_y, .int .i16 xb_z, .int .i16 xb_w, .int .u8 xb_r, .int .u8 xb_g, .int .u8 xb_b, .int .u8 xb_a, .bool xb_f] 25)) := ((Ext.refl w).alloc _ _).alloc _ _
  have B3 := (Blk.new w #[.int .i16 xa_x, .int .i16 xa_y, .int .i16 xa_z, .int .i16 xa_w, .int .u8 xa_r, .int .u8 xa_g, .int .u8 xa_b, .int .u8 xa_a, .bool xa_f] 25).alloc (.cells #[.int .i16 xb_x, .int .i16 xb_y, .int .i16 xb_z, .int .i16 xb_w, .int .u8 xb_r, .int .u8 xb_g, .int .u8 xb_b, .int .u8 xb_a, .bool xb_f] 25)
  have B4 := Blk.new (w.alloc (.cells #[.int .i16 xa_x, .int .i16 xa_y, .int .i16 xa_z, .int .i16 xa_w, .int .u8 xa_r, .int .u8 xa_g, .int .u8 xa_b, .int .u8 xa_a, .bool xa_f] 25)) #[.int .i16 xb_x, .int .i16 xb_y, .int .i16 xb_z, .int .i16 xb_w, .int .u8 xb_r, .int .u8 xb_g, .int .u8 xb_b, .int .u8 xb_a, .bool xb_f] 25
  go_enter Try.func5, Try.ntmps5
  go_upto_region 1 with fail
  simp only [World.size_alloc] at B4
  generalize ((w.alloc (.cells #[.int .i16 xa_x, .int .i16 xa_y, .int .i16 xa_z, .int .i16 xa_w, .int .u8 xa_r, .int .u8 xa_g, .int .u8 xa_b, .int .u8 xa_a, .bool xa_f] 25)).alloc (.cells #[.int .i16 xb_x, .int .i16 xb_y, .int .i16 xb_z, .int .i16 xb_w, .int .u8 xb_r, .int .u8 xb_g, .int .u8 xb_b, .int .u8 xb_a, .bool xb_f] 25)) = w0 at *
  go_wp2_with fail
  refine (awake12_any _).mono ?_
  rintro e w1 ⟨rfl, x1⟩
  have xx := xx.trans x1
  have B3 := B3.ext x1
  have B4 := B4.ext x1
  clear x1
  go_upto_region 3 with fail
  apply wp_region_vars [false, false, false, false, true, true, true, true] [] [⟨some 4, 7, 0, some 6, 43, #[.int .i64 0, .int .i64 0, .int .i64 0, .int .i64 0, .int .i64 0, .int .i64 0, .int .i64 0, .int .i64 0], #[.int .i64 a0, .int .i64 a1, .int .i64 a2, .int .i64 a3, .int .i64 a4, .int .i64 a5, .int .i64 a6, .int .i64 a7]⟩, ⟨some 5, 8, 0, some 7, 43, #[.int .i64 0, .int .i64 0, .int .i64 0, .int .i64 0, .int .i64 0, .int .i64 0, .int .i64 0, .int .i64 0], #[.int .i64 b0, .int .i64 b1, .int .i64 b2, .int .i64 b3, .int .i64 b4, .int .i64 b5, .int .i64 b6, .int .i64 b7]⟩] _ (by kernel_rfl) (by kernel_rfl) (by kernel_rfl)
  case H =>
    intro y0 hy0
    have hne : Nonempty (Wx y0) := ⟨⟨y0, Ext.refl y0⟩⟩
    have qB3 := fun (t : Wx y0) => ((B3.calm hy0 (by simp)).ext t.ext).cell
    have qB4 := fun (t : Wx y0) => ((B4.calm hy0 (by simp)).ext t.ext).cell
    simp only [eraseM]
    repeat (go_big_quiet_step (first | (go_at_call 13; with_reducible exact calm_of (HV1.out _)) | (go_at_call 13; with_reducible exact calm_of (HV2.out _))))
    exact wpQuiet_nil rfl
  case hok =>
    simp only [List.forall_mem_cons, List.not_mem_nil, false_implies, implies_true, and_true]
    refine ⟨tgt_fresh (by simp) rfl rfl mkS rfl rfl rfl rfl (by kernel_rfl) (by kernel_rfl) rfl, tgt_fresh (by simp) rfl rfl mkS rfl rfl rfl rfl (by kernel_rfl) (by kernel_rfl) rfl⟩
  case hdis =>
    intro k k' t t' hk hk' _ ha
    exfalso
    have := List.mem_of_getElem? hk
    simp only [List.mem_cons, List.not_mem_nil, or_false] at this
    rcases this with rfl | rfl <;> cases ha
  rintro w2 f hw ⟨k0, l0, d0, -, k1, l1, d1, u1, -⟩
  have xx := xx.trans hw.ext
  have ndis := u1 0 (by decide)
  clear u1
  simp only [pairs, putAll, Option.isSome_some, if_true, Act.put, List.setIfInBounds_toArray, List.set_cons_succ, List.set_cons_zero, Nat.zero_add]
  generalize f 0 = z7 at *
  generalize f 1 = z8 at *
  have K0 : w1.heap.size ≤ z7 := k0
  have K1 : w1.heap.size ≤ z8 := k1
  clear k0 k1 l0 l1 hw
  have B7 : Blk w2 z7 #[.int .i64 a0, .int .i64 a1, .int .i64 a2, .int .i64 a3, .int .i64 a4, .int .i64 a5, .int .i64 a6, .int .i64 a7] 43 := d0
  have B8 : Blk w2 z8 #[.int .i64 b0, .int .i64 b1, .int .i64 b2, .int .i64 b3, .int .i64 b4, .int .i64 b5, .int .i64 b6, .int .i64 b7] 43 := d1
  clear B3 B4 d0 d1 ndis HV1 HV2
  have xs2 := xx.size
  go_upto_region 4 with fail
  apply wp_region_vars [false, false, false, false, false, false, false, false, false, false, true, true, true, true] [] [⟨some 10, 9, 0, some 12, 32, #[.int .i64 0, .int .i64 0, .int .i64 0, .int .i64 0, .int .i64 0, .int .i64 0, .int .i64 0, .int .i64 0], #[.int .i64 a0, .int .i64 a1, .int .i64 a2, .int .i64 a3, .int .i64 a4, .int .i64 a5, .int .i64 a6, .int .i64 a7]⟩, ⟨some 11, 10, 0, some 13, 32, #[.int .i64 0, .int .i64 0, .int .i64 0, .int .i64 0, .int .i64 0, .int .i64 0, .int .i64 0, .int .i64 0], #[.int .i64 b0, .int .i64 b1, .int .i64 b2, .int .i64 b3, .int .i64 b4, .int .i64 b5, .int .i64 b6, .int .i64 b7]⟩] _ (by kernel_rfl) (by kernel_rfl) (by kernel_rfl)
  case H =>
    intro y0 hy0
    have hne : Nonempty (Wx y0) := ⟨⟨y0, Ext.refl y0⟩⟩
    have qB7 := fun (t : Wx y0) => ((B7.calm hy0 (by simp)).ext t.ext).cell
    have qB8 := fun (t : Wx y0) => ((B8.calm hy0 (by simp)).ext t.ext).cell
    simp only [eraseM]
    repeat (go_big_quiet_step (fail))
    exact wpQuiet_nil rfl
  case hok =>
    simp only [List.forall_mem_cons, List.not_mem_nil, false_implies, implies_true, and_true]
    refine ⟨tgt_fresh (by simp) rfl rfl mkC rfl rfl rfl rfl (by kernel_rfl) (by kernel_rfl) rfl, tgt_fresh (by simp) rfl rfl mkC rfl rfl rfl rfl (by kernel_rfl) (by kernel_rfl) rfl⟩
  case hdis =>
    intro k k' t t' hk hk' _ ha
    exfalso
    have := List.mem_of_getElem? hk
    simp only [List.mem_cons, List.not_mem_nil, or_false] at this
    rcases this with rfl | rfl <;> cases ha
  rintro w3 f hw ⟨k0, l0, d0, -, k1, l1, d1, u1, -⟩
  have xx := xx.trans hw.ext
  have ndis := u1 0 (by decide)
  clear u1
  simp only [pairs, putAll, Option.isSome_some, if_true, Act.put, List.setIfInBounds_toArray, List.set_cons_succ, List.set_cons_zero, Nat.zero_add]
  generalize f 0 = z9 at *
  generalize f 1 = z10 at *
  have K0 : w2.heap.size ≤ z9 := k0
  have K1 : w2.heap.size ≤ z10 := k1
  clear k0 k1 l0 l1 hw
  have B9 : Blk w3 z9 #[.int .i64 a0, .int .i64 a1, .int .i64 a2, .int .i64 a3, .int .i64 a4, .int .i64 a5, .int .i64 a6, .int .i64 a7] 32 := d0
  have B10 : Blk w3 z10 #[.int .i64 b0, .int .i64 b1, .int .i64 b2, .int .i64 b3, .int .i64 b4, .int .i64 b5, .int .i64 b6, .int .i64 b7] 32 := d1
  have hb9 : w.heap.size ≤ z9 := by omega
  have hb10 : w.heap.size ≤ z10 := by omega
  clear d0 d1 K0 K1 xs2 B7 B8
  have ndis2 : z10 ≠ z9 := fun h => ndis h.symm
  have m1 : pl.tmod 7 = (k : Int) := by rw [Int.tmod_eq_emod_of_nonneg hp.1]; exact hk
  have m2 : IntKind.i64.wrap (k : Int) = (k : Int) := by rw [IntKind.wrap_i64]; omega
  go_wp2_with (first
    | ((with_reducible refine wpList_load_blk (op := ⟨some 38, _, _, _, _, _⟩) ?_ 32 (.tmp 9) ?_ (z9) ?_ (z := _) (T := 32) B9 Try.underlying32 ?_ ?_ ?_); rfl; rfl; rfl; rfl; kernel_rfl)
    | fail)
  refine (HA.out _).mono ?_
  rintro e w4 ⟨rfl, x4⟩
  have xx := xx.trans x4
  have B9 := B9.ext x4
  have B10 := B10.ext x4
  clear x4
  have s1n : a < 0 := by omega
  have xs := (xx.setRow hb9 #[.int .i64 b0, .int .i64 b1, .int .i64 b2, .int .i64 b3, .int .i64 b4, .int .i64 b5, .int .i64 b6, .int .i64 b7]).setRow hb10 #[.int .i64 a0, .int .i64 a1, .int .i64 a2, .int .i64 a3, .int .i64 a4, .int .i64 a5, .int .i64 a6, .int .i64 a7]
  have E9 := (B9.setRow #[.int .i64 b0, .int .i64 b1, .int .i64 b2, .int .i64 b3, .int .i64 b4, .int .i64 b5, .int .i64 b6, .int .i64 b7]).farRow ndis #[.int .i64 a0, .int .i64 a1, .int .i64 a2, .int .i64 a3, .int .i64 a4, .int .i64 a5, .int .i64 a6, .int .i64 a7]
  have E10 := (B10.farRow ndis2 #[.int .i64 b0, .int .i64 b1, .int .i64 b2, .int .i64 b3, .int .i64 b4, .int .i64 b5, .int .i64 b6, .int .i64 b7]).setRow #[.int .i64 a0, .int .i64 a1, .int .i64 a2, .int .i64 a3, .int .i64 a4, .int .i64 a5, .int .i64 a6, .int .i64 a7]
  go_upto_region 8 with (first
    | ((with_reducible refine wpList_load_blk (op := ⟨some 42, _, _, _, _, _⟩) ?_ 32 (.tmp 10) ?_ (z10) ?_ (z := _) (T := 32) B10 Try.underlying32 ?_ ?_ ?_); rfl; rfl; rfl; rfl; kernel_rfl)
    | ((with_reducible refine wpList_load_blk (op := ⟨some 43, _, _, _, _, _⟩) ?_ 32 (.tmp 9) ?_ (z9) ?_ (z := _) (T := 32) B9 Try.underlying32 ?_ ?_ ?_); rfl; rfl; rfl; rfl; kernel_rfl)
    | ((with_reducible refine wpList_store_blk (op := ⟨none, .store 32 (.tmp 9) (.tmp 42), _, _, _, _⟩) ?_ 32 (.tmp 9) (.tmp 42) ?_ (z9) ?_ (cs := #[.int .i64 b0, .int .i64 b1, .int .i64 b2, .int .i64 b3, .int .i64 b4, .int .i64 b5, .int .i64 b6, .int .i64 b7]) ?_ (z := #[.int .i64 a0, .int .i64 a1, .int .i64 a2, .int .i64 a3, .int .i64 a4, .int .i64 a5, .int .i64 a6, .int .i64 a7]) (T := 32) ?_ ?_ ?_ ?_ ?_); rfl; rfl; rfl; rfl; exact B9; kernel_rfl; kernel_rfl; kernel_rfl)
    | ((with_reducible refine wpList_store_blk (op := ⟨none, .store 32 (.tmp 10) (.tmp 43), _, _, _, _⟩) ?_ 32 (.tmp 10) (.tmp 43) ?_ (z10) ?_ (cs := #[.int .i64 a0, .int .i64 a1, .int .i64 a2, .int .i64 a3, .int .i64 a4, .int .i64 a5, .int .i64 a6, .int .i64 a7]) ?_ (z := #[.int .i64 b0, .int .i64 b1, .int .i64 b2, .int .i64 b3, .int .i64 b4, .int .i64 b5, .int .i64 b6, .int .i64 b7]) (T := 32) ?_ ?_ ?_ ?_ ?_); rfl; rfl; rfl; rfl; exact B10.farRow ndis2 #[.int .i64 b0, .int .i64 b1, .int .i64 b2, .int .i64 b3, .int .i64 b4, .int .i64 b5, .int .i64 b6, .int .i64 b7]; kernel_rfl; kernel_rfl; kernel_rfl)
    | fail)
  simp only [Act.put]
  have B9 := E9
  have B10 := E10
  have xx := xs
  clear E9 E10 xs
  generalize (w4.setRow z9 #[.int .i64 b0, .int .i64 b1, .int .i64 b2, .int .i64 b3, .int .i64 b4, .int .i64 b5, .int .i64 b6, .int .i64 b7]).setRow z10 #[.int .i64 a0, .int .i64 a1, .int .i64 a2, .int .i64 a3, .int .i64 a4, .int .i64 a5, .int .i64 a6, .int .i64 a7] = w5 at *
  go_wp2_with (first
    | ((with_reducible refine wpList_load_blk (op := ⟨some 44, _, _, _, _, _⟩) ?_ 32 (.tmp 9) ?_ (z9) ?_ (z := _) (T := 32) B9 Try.underlying32 ?_ ?_ ?_); rfl; rfl; rfl; rfl; kernel_rfl)
    | ((with_reducible refine wpList_load_blk (op := ⟨some 45, _, _, _, _, _⟩) ?_ 32 (.tmp 10) ?_ (z10) ?_ (z := _) (T := 32) B10 Try.underlying32 ?_ ?_ ?_); rfl; rfl; rfl; rfl; kernel_rfl)
    | fail)
  refine (HC.out _).mono ?_
  rintro e w6 ⟨rfl, x6⟩
  have xx := xx.trans x6
  have B9 := B9.ext x6
  have B10 := B10.ext x6
  clear x6 HC
  have N12 := (Blk.new w6 #[.int .i64 0, .int .i64 0, .int .i64 0, .int .i64 0, .int .i64 0, .int .i64 0, .int .i64 0, .int .i64 0] 32).setRow #[.int .i64 r0, .int .i64 r1, .int .i64 r2, .int .i64 r3, .int .i64 r4, .int .i64 r5, .int .i64 r6, .int .i64 r7]
  have y12 : Ext w6 ((w6.alloc (.cells #[.int .i64 0, .int .i64 0, .int .i64 0, .int .i64 0, .int .i64 0, .int .i64 0, .int .i64 0, .int .i64 0] 32)).setRow w6.heap.size #[.int .i64 r0, .int .i64 r1, .int .i64 r2, .int .i64 r3, .int .i64 r4, .int .i64 r5, .int .i64 r6, .int .i64 r7]) := ((Ext.refl _).alloc _ _).setRow (Nat.le_refl _) _
  go_upto_region 9 with (first
    | fail
    | ((with_reducible refine wpList_store_blk (op := ⟨none, .store 32 (.tmp 12) (.tmp 47), _, _, _, _⟩) ?_ 32 (.tmp 12) (.tmp 47) ?_ (w6.heap.size) ?_ (cs := #[.int .i64 r0, .int .i64 r1, .int .i64 r2, .int .i64 r3, .int .i64 r4, .int .i64 r5, .int .i64 r6, .int .i64 r7]) ?_ (z := #[.int .i64 0, .int .i64 0, .int .i64 0, .int .i64 0, .int .i64 0, .int .i64 0, .int .i64 0, .int .i64 0]) (T := 32) ?_ ?_ ?_ ?_ ?_); rfl; rfl; rfl; rfl; exact Blk.new w6 _ _; kernel_rfl; kernel_rfl; kernel_rfl)
    | fail)
  simp only [Act.put]
  have B9 := B9.ext y12
  have B10 := B10.ext y12
  have xx := xx.trans y12
  clear y12
  generalize (w6.alloc (.cells #[.int .i64 0, .int .i64 0, .int .i64 0, .int .i64 0, .int .i64 0, .int .i64 0, .int .i64 0, .int .i64 0] 32)).setRow w6.heap.size #[.int .i64 r0, .int .i64 r1, .int .i64 r2, .int .i64 r3, .int .i64 r4, .int .i64 r5, .int .i64 r6, .int .i64 r7] = w7 at *
  generalize w6.heap.size = z12 at *
  have B12 := N12
  clear N12
  go_wp2_with (first
    | ((with_reducible refine wpList_load_blk (op := ⟨some 48, _, _, _, _, _⟩) ?_ 32 (.tmp 9) ?_ (z9) ?_ (z := _) (T := 32) B9 Try.underlying32 ?_ ?_ ?_); rfl; rfl; rfl; rfl; kernel_rfl)
    | fail)
  refine (HB.out _).mono ?_
  rintro e w8 ⟨rfl, x8⟩
  have xx := xx.trans x8
  have B9 := B9.ext x8
  have B10 := B10.ext x8
  have B12 := B12.ext x8
  clear x8
  have s1m : ¬ b < 0 := by omega
  have c10 := B10.cell
  go_wp2_with fail
  refine (HA.out _).mono ?_
  rintro e w9 ⟨rfl, x9⟩
  have xx := xx.trans x9
  have B9 := B9.ext x9
  have B10 := B10.ext x9
  have B12 := B12.ext x9
  clear x9 c10
  have s2m : ¬ 0 ≤ a := by omega
  go_wp2_with fail
  clear HA HB s1 s2 s1n s1m s2m m1 m2 hk hp
  have hmx := maxI_fold
  have hmn := minI_fold
  refine wp_loop_rounds 5 ?_
  rw [rounds_succ]
  go_upto_region 14 with fail
  apply wp_region_reads2 _ (by kernel_rfl) (by kernel_rfl)
  case H =>
    intro y0 hy0
    have hne : Nonempty (Wx y0) := ⟨⟨y0, Ext.refl y0⟩⟩
    have q3 := fun (t : Wx y0) => (B9.ext (hy0.trans t.ext)).cell
    have q4 := fun (t : Wx y0) => (B10.ext (hy0.trans t.ext)).cell
    repeat (go_big_quiet_step (fail))
    exact wpQuiet_nil rfl
  intro v14_0 x9
  have xx := xx.trans x9
  have B9 := B9.ext x9
  have B10 := B10.ext x9
  have B12 := B12.ext x9
  clear x9
  go_upto_region 15 with fail
  apply wp_region_reads2 _ (by kernel_rfl) (by kernel_rfl)
  case H =>
    intro y0 hy0
    have hne : Nonempty (Wx y0) := ⟨⟨y0, Ext.refl y0⟩⟩
    have q3 := fun (t : Wx y0) => (B9.ext (hy0.trans t.ext)).cell
    have q4 := fun (t : Wx y0) => (B10.ext (hy0.trans t.ext)).cell
    repeat (go_big_quiet_step (fail))
    exact wpQuiet_nil rfl
  intro v15_0 x9
  have xx := xx.trans x9
  have B9 := B9.ext x9
  have B10 := B10.ext x9
  have B12 := B12.ext x9
  clear x9
  have c12 := B12.cell
  go_wp2_with fail
  clear c12
  rw [rounds_succ]
  go_upto_region 14 with fail
  apply wp_region_reads2 _ (by kernel_rfl) (by kernel_rfl)
  case H =>
    intro y0 hy0
    have hne : Nonempty (Wx y0) := ⟨⟨y0, Ext.refl y0⟩⟩
    have q3 := fun (t : Wx y0) => (B9.ext (hy0.trans t.ext)).cell
    have q4 := fun (t : Wx y0) => (B10.ext (hy0.trans t.ext)).cell
    repeat (go_big_quiet_step (fail))
    exact wpQuiet_nil rfl
  intro v14_1 x9
  have xx := xx.trans x9
  have B9 := B9.ext x9
  have B10 := B10.ext x9
  have B12 := B12.ext x9
  clear x9
  go_upto_region 15 with fail
  apply wp_region_reads2 _ (by kernel_rfl) (by kernel_rfl)
  case H =>
    intro y0 hy0
    have hne : Nonempty (Wx y0) := ⟨⟨y0, Ext.refl y0⟩⟩
    have q3 := fun (t : Wx y0) => (B9.ext (hy0.trans t.ext)).cell
    have q4 := fun (t : Wx y0) => (B10.ext (hy0.trans t.ext)).cell
    repeat (go_big_quiet_step (fail))
    exact wpQuiet_nil rfl
  intro v15_1 x9
  have xx := xx.trans x9
  have B9 := B9.ext x9
  have B10 := B10.ext x9
  have B12 := B12.ext x9
  clear x9
  have c12 := B12.cell
  go_wp2_with fail
  clear c12
  rw [rounds_succ]
  go_upto_region 14 with fail
  apply wp_region_reads2 _ (by kernel_rfl) (by kernel_rfl)
  case H =>
    intro y0 hy0
    have hne : Nonempty (Wx y0) := ⟨⟨y0, Ext.refl y0⟩⟩
    have q3 := fun (t : Wx y0) => (B9.ext (hy0.trans t.ext)).cell
    have q4 := fun (t : Wx y0) => (B10.ext (hy0.trans t.ext)).cell
    repeat (go_big_quiet_step (fail))
    exact wpQuiet_nil rfl
  intro v14_2 x9
  have xx := xx.trans x9
  have B9 := B9.ext x9
  have B10 := B10.ext x9
  have B12 := B12.ext x9
  clear x9
  go_upto_region 15 with fail
  apply wp_region_reads2 _ (by kernel_rfl) (by kernel_rfl)
  case H =>
    intro y0 hy0
    have hne : Nonempty (Wx y0) := ⟨⟨y0, Ext.refl y0⟩⟩
    have q3 := fun (t : Wx y0) => (B9.ext (hy0.trans t.ext)).cell
    have q4 := fun (t : Wx y0) => (B10.ext (hy0.trans t.ext)).cell
    repeat (go_big_quiet_step (fail))
    exact wpQuiet_nil rfl
  intro v15_2 x9
  have xx := xx.trans x9
  have B9 := B9.ext x9
  have B10 := B10.ext x9
  have B12 := B12.ext x9
  clear x9
  have c12 := B12.cell
  go_wp2_with fail
  clear c12
  rw [rounds_succ]
  go_upto_region 14 with fail
  apply wp_region_reads2 _ (by kernel_rfl) (by kernel_rfl)
  case H =>
    intro y0 hy0
    have hne : Nonempty (Wx y0) := ⟨⟨y0, Ext.refl y0⟩⟩
    have q3 := fun (t : Wx y0) => (B9.ext (hy0.trans t.ext)).cell
    have q4 := fun (t : Wx y0) => (B10.ext (hy0.trans t.ext)).cell
    repeat (go_big_quiet_step (fail))
    exact wpQuiet_nil rfl
  intro v14_3 x9
  have xx := xx.trans x9
  have B9 := B9.ext x9
  have B10 := B10.ext x9
  have B12 := B12.ext x9
  clear x9
  go_upto_region 15 with fail
  apply wp_region_reads2 _ (by kernel_rfl) (by kernel_rfl)
  case H =>
    intro y0 hy0
    have hne : Nonempty (Wx y0) := ⟨⟨y0, Ext.refl y0⟩⟩
    have q3 := fun (t : Wx y0) => (B9.ext (hy0.trans t.ext)).cell
    have q4 := fun (t : Wx y0) => (B10.ext (hy0.trans t.ext)).cell
    repeat (go_big_quiet_step (fail))
    exact wpQuiet_nil rfl
  intro v15_3 x9
  have xx := xx.trans x9
  have B9 := B9.ext x9
  have B10 := B10.ext x9
  have B12 := B12.ext x9
  clear x9
  have c12 := B12.cell
  go_wp2_with fail
  clear c12
  rw [rounds_succ]
  have h9 : maxI d (-d) ≤ 9 := by rw [maxI_eq]; omega
  have wd : IntKind.i64.wrap (-d) = -d := by rw [IntKind.wrap_i64]; omega
  go_wp2_with (first
    | ((with_reducible refine wpList_load_blk (op := ⟨some 119, _, _, _, _, _⟩) ?_ 32 (.tmp 12) ?_ (z12) ?_ (z := _) (T := 32) B12 Try.underlying32 ?_ ?_ ?_); rfl; rfl; rfl; rfl; kernel_rfl)
    | fail)
  refine (HD.out _).mono ?_
  rintro e w20 ⟨rfl, x20⟩
  have xx := xx.trans x20
  go_wp2
  go_ret
  exact ⟨rfl, xx⟩
end Go.Proofs.Ytjohcngmoemmbaa
