/-
  DERIVED. ClipKeeps (made by mkcliplaws.py).
-/
import Derived.Test.YtjohcngmoemmbaaClipThree
namespace Go.Proofs.Ytjohcngmoemmbaa
open Go.RowKit
set_option linter.unusedVariables false
def sel3 (a b c : Int) (i : Nat) : Int := if i = 0 then a else if i = 1 then b else c
set_option maxRecDepth 100000 in
set_option maxHeartbeats 4000000 in
theorem keeps_main (xa_x xa_y xa_z xa_w xa_r xa_g xa_b xa_a xb_x xb_y xb_z xb_w xb_r xb_g xb_b xb_a xc_x xc_y xc_z xc_w xc_r xc_g xc_b xc_a : Int) (xa_f xb_f xc_f : Bool) (a0 a1 a2 a3 a4 a5 a6 a7 b0 b1 b2 b3 b4 b5 b6 b7 c0 c1 c2 c3 c4 c5 c6 c7 : Int) (L : List V8) (hL : L.length ≤ 1000) (fA fB fC : Nat → Int) (hV : ∀ u, Calls Try.prog 9 #[.agg #[.int .i16 xa_x, .int .i16 xa_y, .int .i16 xa_z, .int .i16 xa_w, .int .u8 xa_r, .int .u8 xa_g, .int .u8 xa_b, .int .u8 xa_a, .bool xa_f, .int .i16 xb_x, .int .i16 xb_y, .int .i16 xb_z, .int .i16 xb_w, .int .u8 xb_r, .int .u8 xb_g, .int .u8 xb_b, .int .u8 xb_a, .bool xb_f, .int .i16 xc_x, .int .i16 xc_y, .int .i16 xc_z, .int .i16 xc_w, .int .u8 xc_r, .int .u8 xc_g, .int .u8 xc_b, .int .u8 xc_a, .bool xc_f]] u fun e w' => e = .returned (.agg #[.int .i64 a0, .int .i64 a1, .int .i64 a2, .int .i64 a3, .int .i64 a4, .int .i64 a5, .int .i64 a6, .int .i64 a7, .int .i64 b0, .int .i64 b1, .int .i64 b2, .int .i64 b3, .int .i64 b4, .int .i64 b5, .int .i64 b6, .int .i64 b7, .int .i64 c0, .int .i64 c1, .int .i64 c2, .int .i64 c3, .int .i64 c4, .int .i64 c5, .int .i64 c6, .int .i64 c7]) ∧ Ext u w') (hC : ∀ u, Calls Try.prog 12 #[.agg #[.int .i64 a0, .int .i64 a1, .int .i64 a2, .int .i64 a3, .int .i64 a4, .int .i64 a5, .int .i64 a6, .int .i64 a7], .agg #[.int .i64 b0, .int .i64 b1, .int .i64 b2, .int .i64 b3, .int .i64 b4, .int .i64 b5, .int .i64 b6, .int .i64 b7], .agg #[.int .i64 c0, .int .i64 c1, .int .i64 c2, .int .i64 c3, .int .i64 c4, .int .i64 c5, .int .i64 c6, .int .i64 c7]] u fun e w' => ∃ r, e = .returned r ∧ OwnG LC w' u.heap.size r L ∧ Ext u w') (hfA : ∀ (k : Nat) u, k < 7 → Calls Try.prog 15 #[.agg #[.int .i64 a0, .int .i64 a1, .int .i64 a2, .int .i64 a3, .int .i64 a4, .int .i64 a5, .int .i64 a6, .int .i64 a7], .int .i64 (k : Int)] u fun e w' => e = .returned (.int .i64 (fA k)) ∧ Ext u w') (hfB : ∀ (k : Nat) u, k < 7 → Calls Try.prog 15 #[.agg #[.int .i64 b0, .int .i64 b1, .int .i64 b2, .int .i64 b3, .int .i64 b4, .int .i64 b5, .int .i64 b6, .int .i64 b7], .int .i64 (k : Int)] u fun e w' => e = .returned (.int .i64 (fB k)) ∧ Ext u w') (hfC : ∀ (k : Nat) u, k < 7 → Calls Try.prog 15 #[.agg #[.int .i64 c0, .int .i64 c1, .int .i64 c2, .int .i64 c3, .int .i64 c4, .int .i64 c5, .int .i64 c6, .int .i64 c7], .int .i64 (k : Int)] u fun e w' => e = .returned (.int .i64 (fC k)) ∧ Ext u w')
    (hfirst : fA 0 < 0 → fB 0 < 0 → fC 0 < 0 → L.length = 0) (hkeep : (∀ k, k < 7 → 0 ≤ fA k ∧ 0 ≤ fB k ∧ 0 ≤ fC k) → L = [⟨a0, a1, a2, a3, a4, a5, a6, a7⟩, ⟨b0, b1, b2, b3, b4, b5, b6, b7⟩, ⟨c0, c1, c2, c3, c4, c5, c6, c7⟩]) (w : World) :
    Calls Try.prog 6 #[.agg #[.int .i16 xa_x, .int .i16 xa_y, .int .i16 xa_z, .int .i16 xa_w, .int .u8 xa_r, .int .u8 xa_g, .int .u8 xa_b, .int .u8 xa_a, .bool xa_f, .int .i16 xb_x, .int .i16 xb_y, .int .i16 xb_z, .int .i16 xb_w, .int .u8 xb_r, .int .u8 xb_g, .int .u8 xb_b, .int .u8 xb_a, .bool xb_f, .int .i16 xc_x, .int .i16 xc_y, .int .i16 xc_z, .int .i16 xc_w, .int .u8 xc_r, .int .u8 xc_g, .int .u8 xc_b, .int .u8 xc_a, .bool xc_f]] w fun e w' => e = .returned (.bool true) ∧ Ext w w' := by
  have HC := Lib.hid hC
  have HfA := Lib.hid hfA
  have HfB := Lib.hid hfB
  have HfC := Lib.hid hfC
  have HF := Lib.hid hfirst
  have HK := Lib.hid hkeep
  have hX := fun u => idx24 (.int .i64 a0) (.int .i64 a1) (.int .i64 a2) (.int .i64 a3) (.int .i64 a4) (.int .i64 a5) (.int .i64 a6) (.int .i64 a7) (.int .i64 b0) (.int .i64 b1) (.int .i64 b2) (.int .i64 b3) (.int .i64 b4) (.int .i64 b5) (.int .i64 b6) (.int .i64 b7) (.int .i64 c0) (.int .i64 c1) (.int .i64 c2) (.int .i64 c3) (.int .i64 c4) (.int .i64 c5) (.int .i64 c6) (.int .i64 c7) u
  clear hC hfA hfB hfC hfirst hkeep
  have HV := Lib.hid hV
  clear hV
  have x0 : Ext w (w.alloc (.cells #[.int .i16 xa_x, .int .i16 xa_y, .int .i16 xa_z, .int .i16 xa_w, .int .u8 xa_r, .int .u8 xa_g, .int .u8 xa_b, .int .u8 xa_a, .bool xa_f, .int .i16 xb_x, .int .i16 xb_y, .int .i16 xb_z, .int .i16 xb_w, .int .u8 xb_r, .int .u8 xb_g, .int .u8 xb_b, .int .u8 xb_a, .bool xb_f, .int .i16 xc_x, .int .i16 xc_y, .int .i16 xc_z, .int .i16 xc_w, .int .u8 xc_r, .int .u8 xc_g, .int .u8 xc_b, .int .u8 xc_a, .bool xc_f] 27)) := ((Ext.refl w).alloc _ _)
  have B1 := (Blk.new w #[.int .i16 xa_x, .int .i16 xa_y, .int .i16 xa_z, .int .i16 xa_w, .int .u8 xa_r, .int .u8 xa_g, .int .u8 xa_b, .int .u8 xa_a, .bool xa_f, .int .i16 xb_x, .int .i16 xb_y, .int .i16 xb_z, .int .i16 xb_w, .int .u8 xb_r, .int .u8 xb_g, .int .u8 xb_b, .int .u8 xb_a, .bool xb_f, .int .i16 xc_x, .int .i16 xc_y, .int .i16 xc_z, .int .i16 xc_w, .int .u8 xc_r, .int .u8 xc_g, .int .u8 xc_b, .int .u8 xc_a, .bool xc_f] 27)
  go_enter Try.func6, Try.ntmps6
  go_upto_region 1 with fail

  generalize (w.alloc (.cells #[.int .i16 xa_x, .int .i16 xa_y, .int .i16 xa_z, .int .i16 xa_w, .int .u8 xa_r, .int .u8 xa_g, .int .u8 xa_b, .int .u8 xa_a, .bool xa_f, .int .i16 xb_x, .int .i16 xb_y, .int .i16 xb_z, .int .i16 xb_w, .int .u8 xb_r, .int .u8 xb_g, .int .u8 xb_b, .int .u8 xb_a, .bool xb_f, .int .i16 xc_x, .int .i16 xc_y, .int .i16 xc_z, .int .i16 xc_w, .int .u8 xc_r, .int .u8 xc_g, .int .u8 xc_b, .int .u8 xc_a, .bool xc_f] 27)) = w0 at *
  go_wp2_with fail
  refine (awake12_any _).mono ?_
  rintro e w1 ⟨rfl, x1⟩
  have x01 := x0.trans x1
  have B1 := B1.ext x1
  clear x0 x1
  go_wp2_with (first
    | ((with_reducible refine wpList_load_blk (op := ⟨some 12, _, _, _, _, _⟩) ?_ 27 (.tmp 1) ?_ (w.heap.size) ?_ (z := _) (T := 27) B1 Try.underlying27 ?_ ?_ ?_); rfl; rfl; rfl; rfl; kernel_rfl)
    | fail)
  refine (HV.out _).mono ?_
  rintro e w2 ⟨rfl, x2⟩
  have x02 := x01.trans x2
  have y3 : Ext w2 ((w2.alloc (.cells #[.int .i64 0, .int .i64 0, .int .i64 0, .int .i64 0, .int .i64 0, .int .i64 0, .int .i64 0, .int .i64 0, .int .i64 0, .int .i64 0, .int .i64 0, .int .i64 0, .int .i64 0, .int .i64 0, .int .i64 0, .int .i64 0, .int .i64 0, .int .i64 0, .int .i64 0, .int .i64 0, .int .i64 0, .int .i64 0, .int .i64 0, .int .i64 0] 33)).setRow w2.heap.size #[.int .i64 a0, .int .i64 a1, .int .i64 a2, .int .i64 a3, .int .i64 a4, .int .i64 a5, .int .i64 a6, .int .i64 a7, .int .i64 b0, .int .i64 b1, .int .i64 b2, .int .i64 b3, .int .i64 b4, .int .i64 b5, .int .i64 b6, .int .i64 b7, .int .i64 c0, .int .i64 c1, .int .i64 c2, .int .i64 c3, .int .i64 c4, .int .i64 c5, .int .i64 c6, .int .i64 c7]) := ((Ext.refl _).alloc _ _).setRow (Nat.le_refl _) _
  have B3 := (Blk.new w2 #[.int .i64 0, .int .i64 0, .int .i64 0, .int .i64 0, .int .i64 0, .int .i64 0, .int .i64 0, .int .i64 0, .int .i64 0, .int .i64 0, .int .i64 0, .int .i64 0, .int .i64 0, .int .i64 0, .int .i64 0, .int .i64 0, .int .i64 0, .int .i64 0, .int .i64 0, .int .i64 0, .int .i64 0, .int .i64 0, .int .i64 0, .int .i64 0] 33).setRow #[.int .i64 a0, .int .i64 a1, .int .i64 a2, .int .i64 a3, .int .i64 a4, .int .i64 a5, .int .i64 a6, .int .i64 a7, .int .i64 b0, .int .i64 b1, .int .i64 b2, .int .i64 b3, .int .i64 b4, .int .i64 b5, .int .i64 b6, .int .i64 b7, .int .i64 c0, .int .i64 c1, .int .i64 c2, .int .i64 c3, .int .i64 c4, .int .i64 c5, .int .i64 c6, .int .i64 c7]
  go_upto_region 4 with (first
    | ((with_reducible refine wpList_store_blk (op := ⟨none, .store 33 (.tmp 3) (.tmp 13), _, _, _, _⟩) ?_ 33 (.tmp 3) (.tmp 13) ?_ (w2.heap.size) ?_ (cs := #[.int .i64 a0, .int .i64 a1, .int .i64 a2, .int .i64 a3, .int .i64 a4, .int .i64 a5, .int .i64 a6, .int .i64 a7, .int .i64 b0, .int .i64 b1, .int .i64 b2, .int .i64 b3, .int .i64 b4, .int .i64 b5, .int .i64 b6, .int .i64 b7, .int .i64 c0, .int .i64 c1, .int .i64 c2, .int .i64 c3, .int .i64 c4, .int .i64 c5, .int .i64 c6, .int .i64 c7]) ?_ (z := #[.int .i64 0, .int .i64 0, .int .i64 0, .int .i64 0, .int .i64 0, .int .i64 0, .int .i64 0, .int .i64 0, .int .i64 0, .int .i64 0, .int .i64 0, .int .i64 0, .int .i64 0, .int .i64 0, .int .i64 0, .int .i64 0, .int .i64 0, .int .i64 0, .int .i64 0, .int .i64 0, .int .i64 0, .int .i64 0, .int .i64 0, .int .i64 0]) (T := 33) ?_ ?_ ?_ ?_ ?_); rfl; rfl; rfl; rfl; exact Blk.new w2 _ _; kernel_rfl; kernel_rfl; kernel_rfl)
    | fail)
  simp only [Act.put]
  have x13 := x02.trans y3
  have hb3 : w.heap.size ≤ w2.heap.size := x02.size
  clear B1 x01 x2 x02 y3 HV
  generalize (w2.alloc (.cells #[.int .i64 0, .int .i64 0, .int .i64 0, .int .i64 0, .int .i64 0, .int .i64 0, .int .i64 0, .int .i64 0, .int .i64 0, .int .i64 0, .int .i64 0, .int .i64 0, .int .i64 0, .int .i64 0, .int .i64 0, .int .i64 0, .int .i64 0, .int .i64 0, .int .i64 0, .int .i64 0, .int .i64 0, .int .i64 0, .int .i64 0, .int .i64 0] 33)).setRow w2.heap.size #[.int .i64 a0, .int .i64 a1, .int .i64 a2, .int .i64 a3, .int .i64 a4, .int .i64 a5, .int .i64 a6, .int .i64 a7, .int .i64 b0, .int .i64 b1, .int .i64 b2, .int .i64 b3, .int .i64 b4, .int .i64 b5, .int .i64 b6, .int .i64 b7, .int .i64 c0, .int .i64 c1, .int .i64 c2, .int .i64 c3, .int .i64 c4, .int .i64 c5, .int .i64 c6, .int .i64 c7] = w3 at *
  generalize w2.heap.size = gb at *
  have R0 := B3.mid 0 [.int .i64 a0, .int .i64 a1, .int .i64 a2, .int .i64 a3, .int .i64 a4, .int .i64 a5, .int .i64 a6, .int .i64 a7] rfl
  have R1 := B3.mid 8 [.int .i64 b0, .int .i64 b1, .int .i64 b2, .int .i64 b3, .int .i64 b4, .int .i64 b5, .int .i64 b6, .int .i64 b7] rfl
  have R2 := B3.mid 16 [.int .i64 c0, .int .i64 c1, .int .i64 c2, .int .i64 c3, .int .i64 c4, .int .i64 c5, .int .i64 c6, .int .i64 c7] rfl
  have HX := Lib.hid hX
  clear hX
  go_wp2_with (first
    | (refine wpList_load_mid (op := ⟨some 15, _, _, _, _, _⟩) rfl 32 (.tmp 14) rfl gb 0 rfl [.int .i64 a0, .int .i64 a1, .int .i64 a2, .int .i64 a3, .int .i64 a4, .int .i64 a5, .int .i64 a6, .int .i64 a7] _ R0 Try.underlying32 rfl (by kernel_rfl) ?_)
    | (refine wpList_load_mid (op := ⟨some 17, _, _, _, _, _⟩) rfl 32 (.tmp 16) rfl gb 8 rfl [.int .i64 b0, .int .i64 b1, .int .i64 b2, .int .i64 b3, .int .i64 b4, .int .i64 b5, .int .i64 b6, .int .i64 b7] _ R1 Try.underlying32 rfl (by kernel_rfl) ?_)
    | (refine wpList_load_mid (op := ⟨some 19, _, _, _, _, _⟩) rfl 32 (.tmp 18) rfl gb 16 rfl [.int .i64 c0, .int .i64 c1, .int .i64 c2, .int .i64 c3, .int .i64 c4, .int .i64 c5, .int .i64 c6, .int .i64 c7] _ R2 Try.underlying32 rfl (by kernel_rfl) ?_)
    | fail)
  refine (HC.out _).mono ?_
  rintro e w4 ⟨r, rfl, o, x4⟩
  obtain ⟨ao, cp, rfl, -, -⟩ := o.slice
  have x14 := x13.trans x4
  have B3 := B3.ext x4
  have HO := Lib.hid o
  clear x13 x4 R0 R1 R2 HC o
  go_wp2_with fail
  go_loopg [5, 21] 7 (fun n0 v5 kv wx => ∃ (k : Nat) (ba : Bool), k + n0 = 7 ∧ kv = .int .i64 k ∧ v5 = .bool ba ∧ (ba = true → ∀ j, j < k → 0 ≤ fA j ∧ 0 ≤ fB j ∧ 0 ≤ fC j) ∧ Ext w4 wx)
  case atStart => exact ⟨0, true, by omega, by simp, rfl, fun _ j hj => by omega, Ext.refl _⟩
  case round =>
    generalize wr = wo at *
    obtain ⟨k, ba, hk, rfl, rfl, hall, E⟩ := hrel
    have HA := Lib.hid hall
    clear hall
    by_cases hk7 : k < 7
    · have hkI : (k : Int) < 7 := by omega
      have B3o := B3.ext E
      go_wp2_with (first
        | ((with_reducible refine wpList_load_blk (op := ⟨some 24, _, _, _, _, _⟩) ?_ 33 (.tmp 3) ?_ (gb) ?_ (z := _) (T := 33) B3o Try.underlying33 ?_ ?_ ?_); rfl; rfl; rfl; rfl; kernel_rfl)
        | fail)
      go_loopg [7, 25] 3 (fun n1 v7 iv wx => ∃ (i : Nat) (o : Int), i + n1 = 3 ∧ iv = .int .i64 i ∧ v7 = .int .i64 o ∧ (0 ≤ o ∧ o ≤ i) ∧ (o = 0 → ∀ j, j < i → 0 ≤ sel3 (fA k) (fB k) (fC k) j) ∧ (o = i → ∀ j, j < i → sel3 (fA k) (fB k) (fC k) j < 0) ∧ Ext wo wx)
      case atStart => exact ⟨0, 0, by omega, by simp, rfl, by omega, fun _ j hj => by omega, fun _ j hj => by omega, Ext.refl _⟩
      case round =>
        generalize wr = wy at *
        obtain ⟨i, o, hik, rfl, rfl, hob, ho1, ho2, Ey⟩ := hrel
        by_cases hi : i < 3
        · have hiI : (i : Int) < 3 := by omega
          have hX := HX.out
          rcases (show i = 0 ∨ i = 1 ∨ i = 2 by omega) with hc | hc | hc
          · have hI0 : (i : Int) = 0 := by omega
            have hix : ∀ u, (Instr.index 33 (.agg #[.int .i64 a0, .int .i64 a1, .int .i64 a2, .int .i64 a3, .int .i64 a4, .int .i64 a5, .int .i64 a6, .int .i64 a7, .int .i64 b0, .int .i64 b1, .int .i64 b2, .int .i64 b3, .int .i64 b4, .int .i64 b5, .int .i64 b6, .int .i64 b7, .int .i64 c0, .int .i64 c1, .int .i64 c2, .int .i64 c3, .int .i64 c4, .int .i64 c5, .int .i64 c6, .int .i64 c7]) (.int .i64 (i : Int))).run Try.prog u = .ok (.agg #[.int .i64 a0, .int .i64 a1, .int .i64 a2, .int .i64 a3, .int .i64 a4, .int .i64 a5, .int .i64 a6, .int .i64 a7]) u := fun u => by
              rw [hI0]
              exact (hX u).1
            have B9 := (Blk.new wy #[.int .i64 0, .int .i64 0, .int .i64 0, .int .i64 0, .int .i64 0, .int .i64 0, .int .i64 0, .int .i64 0] 32).setRow #[.int .i64 a0, .int .i64 a1, .int .i64 a2, .int .i64 a3, .int .i64 a4, .int .i64 a5, .int .i64 a6, .int .i64 a7]
            have y9 : Ext wy ((wy.alloc (.cells #[.int .i64 0, .int .i64 0, .int .i64 0, .int .i64 0, .int .i64 0, .int .i64 0, .int .i64 0, .int .i64 0] 32)).setRow wy.heap.size #[.int .i64 a0, .int .i64 a1, .int .i64 a2, .int .i64 a3, .int .i64 a4, .int .i64 a5, .int .i64 a6, .int .i64 a7]) := ((Ext.refl _).alloc _ _).setRow (Nat.le_refl _) _
            go_upto_region 13 with (first
              | ((with_reducible refine wpList_store_blk (op := ⟨none, .store 32 (.tmp 9) (.tmp 27), _, _, _, _⟩) ?_ 32 (.tmp 9) (.tmp 27) ?_ (wy.heap.size) ?_ (cs := #[.int .i64 a0, .int .i64 a1, .int .i64 a2, .int .i64 a3, .int .i64 a4, .int .i64 a5, .int .i64 a6, .int .i64 a7]) ?_ (z := #[.int .i64 0, .int .i64 0, .int .i64 0, .int .i64 0, .int .i64 0, .int .i64 0, .int .i64 0, .int .i64 0]) (T := 32) ?_ ?_ ?_ ?_ ?_); rfl; rfl; rfl; rfl; exact Blk.new wy _ _; kernel_rfl; kernel_rfl; kernel_rfl)
              | fail)
            simp only [Act.put]
            generalize (wy.alloc (.cells #[.int .i64 0, .int .i64 0, .int .i64 0, .int .i64 0, .int .i64 0, .int .i64 0, .int .i64 0, .int .i64 0] 32)).setRow wy.heap.size #[.int .i64 a0, .int .i64 a1, .int .i64 a2, .int .i64 a3, .int .i64 a4, .int .i64 a5, .int .i64 a6, .int .i64 a7] = w9 at *
            generalize hbe : wy.heap.size = b9 at *
            go_wp2_with (first
              | ((with_reducible refine wpList_load_blk (op := ⟨some 28, _, _, _, _, _⟩) ?_ 32 (.tmp 9) ?_ (b9) ?_ (z := _) (T := 32) B9 Try.underlying32 ?_ ?_ ?_); rfl; rfl; rfl; rfl; kernel_rfl)
              | fail)
            refine (HfA.out k _ hk7).mono ?_
            rintro e w10 ⟨rfl, x10⟩
            have z10 := (Ey.trans y9).trans x10
            clear B9 x10 y9 hix
            have hsel : sel3 (fA k) (fB k) (fC k) i = fA k := by
              have : i = 0 := by omega
              subst this
              rfl
            generalize fA k = s at *
            by_cases hs : s < 0
            · have hw : IntKind.i64.wrap (o + 1) = o + 1 := by rw [IntKind.wrap_i64]; omega
              go_wp2
              go_roundg (gk - 1)
              case measure => omega
              case rel => exact ⟨i + 1, o + 1, by omega, by simp; omega, rfl, by omega, fun h => by omega, fun h j hj => (by
                rcases Nat.lt_or_ge j i with g | g
                · exact ho2 (by omega) j g
                · rw [show j = i by omega, hsel]; exact hs), z10⟩
            · go_wp2
              go_roundg (gk - 1)
              case measure => omega
              case rel => exact ⟨i + 1, o, by omega, by simp; omega, rfl, by omega, fun h j hj => (by
                rcases Nat.lt_or_ge j i with g | g
                · exact ho1 h j g
                · rw [show j = i by omega, hsel]; omega), fun h => by omega, z10⟩
          · have hI0 : (i : Int) = 1 := by omega
            have hix : ∀ u, (Instr.index 33 (.agg #[.int .i64 a0, .int .i64 a1, .int .i64 a2, .int .i64 a3, .int .i64 a4, .int .i64 a5, .int .i64 a6, .int .i64 a7, .int .i64 b0, .int .i64 b1, .int .i64 b2, .int .i64 b3, .int .i64 b4, .int .i64 b5, .int .i64 b6, .int .i64 b7, .int .i64 c0, .int .i64 c1, .int .i64 c2, .int .i64 c3, .int .i64 c4, .int .i64 c5, .int .i64 c6, .int .i64 c7]) (.int .i64 (i : Int))).run Try.prog u = .ok (.agg #[.int .i64 b0, .int .i64 b1, .int .i64 b2, .int .i64 b3, .int .i64 b4, .int .i64 b5, .int .i64 b6, .int .i64 b7]) u := fun u => by
              rw [hI0]
              exact (hX u).2.1
            have B9 := (Blk.new wy #[.int .i64 0, .int .i64 0, .int .i64 0, .int .i64 0, .int .i64 0, .int .i64 0, .int .i64 0, .int .i64 0] 32).setRow #[.int .i64 b0, .int .i64 b1, .int .i64 b2, .int .i64 b3, .int .i64 b4, .int .i64 b5, .int .i64 b6, .int .i64 b7]
            have y9 : Ext wy ((wy.alloc (.cells #[.int .i64 0, .int .i64 0, .int .i64 0, .int .i64 0, .int .i64 0, .int .i64 0, .int .i64 0, .int .i64 0] 32)).setRow wy.heap.size #[.int .i64 b0, .int .i64 b1, .int .i64 b2, .int .i64 b3, .int .i64 b4, .int .i64 b5, .int .i64 b6, .int .i64 b7]) := ((Ext.refl _).alloc _ _).setRow (Nat.le_refl _) _
            go_upto_region 13 with (first
              | ((with_reducible refine wpList_store_blk (op := ⟨none, .store 32 (.tmp 9) (.tmp 27), _, _, _, _⟩) ?_ 32 (.tmp 9) (.tmp 27) ?_ (wy.heap.size) ?_ (cs := #[.int .i64 b0, .int .i64 b1, .int .i64 b2, .int .i64 b3, .int .i64 b4, .int .i64 b5, .int .i64 b6, .int .i64 b7]) ?_ (z := #[.int .i64 0, .int .i64 0, .int .i64 0, .int .i64 0, .int .i64 0, .int .i64 0, .int .i64 0, .int .i64 0]) (T := 32) ?_ ?_ ?_ ?_ ?_); rfl; rfl; rfl; rfl; exact Blk.new wy _ _; kernel_rfl; kernel_rfl; kernel_rfl)
              | fail)
            simp only [Act.put]
            generalize (wy.alloc (.cells #[.int .i64 0, .int .i64 0, .int .i64 0, .int .i64 0, .int .i64 0, .int .i64 0, .int .i64 0, .int .i64 0] 32)).setRow wy.heap.size #[.int .i64 b0, .int .i64 b1, .int .i64 b2, .int .i64 b3, .int .i64 b4, .int .i64 b5, .int .i64 b6, .int .i64 b7] = w9 at *
            generalize hbe : wy.heap.size = b9 at *
            go_wp2_with (first
              | ((with_reducible refine wpList_load_blk (op := ⟨some 28, _, _, _, _, _⟩) ?_ 32 (.tmp 9) ?_ (b9) ?_ (z := _) (T := 32) B9 Try.underlying32 ?_ ?_ ?_); rfl; rfl; rfl; rfl; kernel_rfl)
              | fail)
            refine (HfB.out k _ hk7).mono ?_
            rintro e w10 ⟨rfl, x10⟩
            have z10 := (Ey.trans y9).trans x10
            clear B9 x10 y9 hix
            have hsel : sel3 (fA k) (fB k) (fC k) i = fB k := by
              have : i = 1 := by omega
              subst this
              rfl
            generalize fB k = s at *
            by_cases hs : s < 0
            · have hw : IntKind.i64.wrap (o + 1) = o + 1 := by rw [IntKind.wrap_i64]; omega
              go_wp2
              go_roundg (gk - 1)
              case measure => omega
              case rel => exact ⟨i + 1, o + 1, by omega, by simp; omega, rfl, by omega, fun h => by omega, fun h j hj => (by
                rcases Nat.lt_or_ge j i with g | g
                · exact ho2 (by omega) j g
                · rw [show j = i by omega, hsel]; exact hs), z10⟩
            · go_wp2
              go_roundg (gk - 1)
              case measure => omega
              case rel => exact ⟨i + 1, o, by omega, by simp; omega, rfl, by omega, fun h j hj => (by
                rcases Nat.lt_or_ge j i with g | g
                · exact ho1 h j g
                · rw [show j = i by omega, hsel]; omega), fun h => by omega, z10⟩
          · have hI0 : (i : Int) = 2 := by omega
            have hix : ∀ u, (Instr.index 33 (.agg #[.int .i64 a0, .int .i64 a1, .int .i64 a2, .int .i64 a3, .int .i64 a4, .int .i64 a5, .int .i64 a6, .int .i64 a7, .int .i64 b0, .int .i64 b1, .int .i64 b2, .int .i64 b3, .int .i64 b4, .int .i64 b5, .int .i64 b6, .int .i64 b7, .int .i64 c0, .int .i64 c1, .int .i64 c2, .int .i64 c3, .int .i64 c4, .int .i64 c5, .int .i64 c6, .int .i64 c7]) (.int .i64 (i : Int))).run Try.prog u = .ok (.agg #[.int .i64 c0, .int .i64 c1, .int .i64 c2, .int .i64 c3, .int .i64 c4, .int .i64 c5, .int .i64 c6, .int .i64 c7]) u := fun u => by
              rw [hI0]
              exact (hX u).2.2
            have B9 := (Blk.new wy #[.int .i64 0, .int .i64 0, .int .i64 0, .int .i64 0, .int .i64 0, .int .i64 0, .int .i64 0, .int .i64 0] 32).setRow #[.int .i64 c0, .int .i64 c1, .int .i64 c2, .int .i64 c3, .int .i64 c4, .int .i64 c5, .int .i64 c6, .int .i64 c7]
            have y9 : Ext wy ((wy.alloc (.cells #[.int .i64 0, .int .i64 0, .int .i64 0, .int .i64 0, .int .i64 0, .int .i64 0, .int .i64 0, .int .i64 0] 32)).setRow wy.heap.size #[.int .i64 c0, .int .i64 c1, .int .i64 c2, .int .i64 c3, .int .i64 c4, .int .i64 c5, .int .i64 c6, .int .i64 c7]) := ((Ext.refl _).alloc _ _).setRow (Nat.le_refl _) _
            go_upto_region 13 with (first
              | ((with_reducible refine wpList_store_blk (op := ⟨none, .store 32 (.tmp 9) (.tmp 27), _, _, _, _⟩) ?_ 32 (.tmp 9) (.tmp 27) ?_ (wy.heap.size) ?_ (cs := #[.int .i64 c0, .int .i64 c1, .int .i64 c2, .int .i64 c3, .int .i64 c4, .int .i64 c5, .int .i64 c6, .int .i64 c7]) ?_ (z := #[.int .i64 0, .int .i64 0, .int .i64 0, .int .i64 0, .int .i64 0, .int .i64 0, .int .i64 0, .int .i64 0]) (T := 32) ?_ ?_ ?_ ?_ ?_); rfl; rfl; rfl; rfl; exact Blk.new wy _ _; kernel_rfl; kernel_rfl; kernel_rfl)
              | fail)
            simp only [Act.put]
            generalize (wy.alloc (.cells #[.int .i64 0, .int .i64 0, .int .i64 0, .int .i64 0, .int .i64 0, .int .i64 0, .int .i64 0, .int .i64 0] 32)).setRow wy.heap.size #[.int .i64 c0, .int .i64 c1, .int .i64 c2, .int .i64 c3, .int .i64 c4, .int .i64 c5, .int .i64 c6, .int .i64 c7] = w9 at *
            generalize hbe : wy.heap.size = b9 at *
            go_wp2_with (first
              | ((with_reducible refine wpList_load_blk (op := ⟨some 28, _, _, _, _, _⟩) ?_ 32 (.tmp 9) ?_ (b9) ?_ (z := _) (T := 32) B9 Try.underlying32 ?_ ?_ ?_); rfl; rfl; rfl; rfl; kernel_rfl)
              | fail)
            refine (HfC.out k _ hk7).mono ?_
            rintro e w10 ⟨rfl, x10⟩
            have z10 := (Ey.trans y9).trans x10
            clear B9 x10 y9 hix
            have hsel : sel3 (fA k) (fB k) (fC k) i = fC k := by
              have : i = 2 := by omega
              subst this
              rfl
            generalize fC k = s at *
            by_cases hs : s < 0
            · have hw : IntKind.i64.wrap (o + 1) = o + 1 := by rw [IntKind.wrap_i64]; omega
              go_wp2
              go_roundg (gk - 1)
              case measure => omega
              case rel => exact ⟨i + 1, o + 1, by omega, by simp; omega, rfl, by omega, fun h => by omega, fun h j hj => (by
                rcases Nat.lt_or_ge j i with g | g
                · exact ho2 (by omega) j g
                · rw [show j = i by omega, hsel]; exact hs), z10⟩
            · go_wp2
              go_roundg (gk - 1)
              case measure => omega
              case rel => exact ⟨i + 1, o, by omega, by simp; omega, rfl, by omega, fun h j hj => (by
                rcases Nat.lt_or_ge j i with g | g
                · exact ho1 h j g
                · rw [show j = i by omega, hsel]; omega), fun h => by omega, z10⟩
        · have hi3 : i = 3 := by omega
          subst hi3
          have o0 : o = 0 → 0 ≤ fA k ∧ 0 ≤ fB k ∧ 0 ≤ fC k := fun h => ⟨ho1 h 0 (by omega), ho1 h 1 (by omega), ho1 h 2 (by omega)⟩
          have o3 : o = 3 → fA k < 0 ∧ fB k < 0 ∧ fC k < 0 := fun h => ⟨ho2 h 0 (by omega), ho2 h 1 (by omega), ho2 h 2 (by omega)⟩
          have H0 := Lib.hid o0
          have H3 := Lib.hid o3
          clear ho1 ho2 o0 o3 hob hik B3o
          by_cases q0 : o = 0
          · cases ba
            · go_wp2
              go_roundg (7 - (k + 1))
              case measure => omega
              case rel => exact ⟨k + 1, false, by omega, by simp, (by first | rfl | simp [q0]), (fun h => by cases h), E.trans Ey⟩
            · go_wp2
              go_roundg (7 - (k + 1))
              case measure => omega
              case rel => exact ⟨k + 1, true, by omega, by simp, (by first | rfl | simp [q0]), fun _ j hj => (by
                rcases Nat.lt_or_ge j k with g | g
                · exact HA.out (by simp) j g
                · rw [show j = k by omega]; exact H0.out q0), E.trans Ey⟩
          · by_cases q3 : o = 3
            · by_cases hk0 : k = 0
              · have hlz : L.length = 0 := by
                  have := H3.out q3
                  rw [hk0] at this
                  exact HF.out this.1 this.2.1 this.2.2
                have hln : ¬ (0 : Int) < (L.length : Int) := by omega
                have hln2 : ¬ 0 < L.length := by omega
                have hkz : (k : Int) = 0 := by omega
                clear hlz
                cases ba
                · go_wp2
                  go_roundg (7 - (k + 1))
                  case measure => omega
                  case rel => exact ⟨k + 1, false, by omega, by simp; omega, (by first | rfl | simp [q0]), (fun h => by cases h), E.trans Ey⟩
                · go_wp2
                  go_roundg (7 - (k + 1))
                  case measure => omega
                  case rel => exact ⟨k + 1, false, by omega, by simp; omega, (by first | rfl | simp [q0]), (fun h => by cases h), E.trans Ey⟩
              · have hkz : ¬ (k : Int) = 0 := by omega
                cases ba
                · go_wp2
                  go_roundg (7 - (k + 1))
                  case measure => omega
                  case rel => exact ⟨k + 1, false, by omega, by simp, (by first | rfl | simp [q0]), (fun h => by cases h), E.trans Ey⟩
                · go_wp2
                  go_roundg (7 - (k + 1))
                  case measure => omega
                  case rel => exact ⟨k + 1, false, by omega, by simp, (by first | rfl | simp [q0]), (fun h => by cases h), E.trans Ey⟩
            · cases ba
              · go_wp2
                go_roundg (7 - (k + 1))
                case measure => omega
                case rel => exact ⟨k + 1, false, by omega, by simp, (by first | rfl | simp [q0]), (fun h => by cases h), E.trans Ey⟩
              · go_wp2
                go_roundg (7 - (k + 1))
                case measure => omega
                case rel => exact ⟨k + 1, false, by omega, by simp, (by first | rfl | simp [q0]), (fun h => by cases h), E.trans Ey⟩
    · obtain rfl : k = 7 := by omega
      have x17 := x14.trans E
      cases ba
      · go_wp2
        go_ret
        exact ⟨rfl, x17⟩
      · have hL3 := HK.out (fun j hj => HA.out rfl j hj)
        have o := HO.out.ext E
        have B3 := B3.ext E
        subst hL3
        obtain ⟨g, x, e, -, hx, cx⟩ := o.nth 0 (by simp)
        cases e
        simp only [List.getElem?_cons_zero, Option.some.injEq] at hx
        subst hx
        obtain ⟨g2, y, e, -, hy, cy⟩ := o.nth 1 (by simp)
        cases e
        simp only [List.getElem?_cons_succ, List.getElem?_cons_zero, Option.some.injEq] at hy
        subst hy
        obtain ⟨g3, z, e, -, hz, cz⟩ := o.nth 2 (by simp)
        cases e
        simp only [List.getElem?_cons_succ, List.getElem?_cons_zero, Option.some.injEq] at hz
        subst hz
        have k0 : wo.cell? ⟨g, 0, none⟩ = some (.int .i64 a0) := cx 0 _ rfl
        have k1 : wo.cell? ⟨g, 1, none⟩ = some (.int .i64 a1) := cx 1 _ rfl
        have k2 : wo.cell? ⟨g, 2, none⟩ = some (.int .i64 a2) := cx 2 _ rfl
        have k3 : wo.cell? ⟨g, 3, none⟩ = some (.int .i64 a3) := cx 3 _ rfl
        have k4 : wo.cell? ⟨g, 4, none⟩ = some (.int .i64 a4) := cx 4 _ rfl
        have k5 : wo.cell? ⟨g, 5, none⟩ = some (.int .i64 a5) := cx 5 _ rfl
        have k6 : wo.cell? ⟨g, 6, none⟩ = some (.int .i64 a6) := cx 6 _ rfl
        have k7 : wo.cell? ⟨g, 7, none⟩ = some (.int .i64 a7) := cx 7 _ rfl
        have k8 : wo.cell? ⟨g, 8, none⟩ = some (.int .i64 b0) := cy 0 _ rfl
        have k9 : wo.cell? ⟨g, 9, none⟩ = some (.int .i64 b1) := cy 1 _ rfl
        have k10 : wo.cell? ⟨g, 10, none⟩ = some (.int .i64 b2) := cy 2 _ rfl
        have k11 : wo.cell? ⟨g, 11, none⟩ = some (.int .i64 b3) := cy 3 _ rfl
        have k12 : wo.cell? ⟨g, 12, none⟩ = some (.int .i64 b4) := cy 4 _ rfl
        have k13 : wo.cell? ⟨g, 13, none⟩ = some (.int .i64 b5) := cy 5 _ rfl
        have k14 : wo.cell? ⟨g, 14, none⟩ = some (.int .i64 b6) := cy 6 _ rfl
        have k15 : wo.cell? ⟨g, 15, none⟩ = some (.int .i64 b7) := cy 7 _ rfl
        have k16 : wo.cell? ⟨g, 16, none⟩ = some (.int .i64 c0) := cz 0 _ rfl
        have k17 : wo.cell? ⟨g, 17, none⟩ = some (.int .i64 c1) := cz 1 _ rfl
        have k18 : wo.cell? ⟨g, 18, none⟩ = some (.int .i64 c2) := cz 2 _ rfl
        have k19 : wo.cell? ⟨g, 19, none⟩ = some (.int .i64 c3) := cz 3 _ rfl
        have k20 : wo.cell? ⟨g, 20, none⟩ = some (.int .i64 c4) := cz 4 _ rfl
        have k21 : wo.cell? ⟨g, 21, none⟩ = some (.int .i64 c5) := cz 5 _ rfl
        have k22 : wo.cell? ⟨g, 22, none⟩ = some (.int .i64 c6) := cz 6 _ rfl
        have k23 : wo.cell? ⟨g, 23, none⟩ = some (.int .i64 c7) := cz 7 _ rfl
        clear cx cy cz o HK HA HF HO HfA HfB HfC HX
        have hE := eqCV
        simp only [List.length_cons, List.length_nil, Nat.zero_add]
        go_upto_region 22 with fail
        apply wp_region_reads2 _ (by kernel_rfl) (by kernel_rfl)
        case H =>
          intro y0 hy0
          have hne : Nonempty (Wx y0) := ⟨⟨y0, Ext.refl y0⟩⟩
          have qB := fun (t : Wx y0) => (B3.ext (hy0.trans t.ext)).cell
          have q0 := fun (t : Wx y0) => (hy0.trans t.ext).old k0
          have q1 := fun (t : Wx y0) => (hy0.trans t.ext).old k1
          have q2 := fun (t : Wx y0) => (hy0.trans t.ext).old k2
          have q3 := fun (t : Wx y0) => (hy0.trans t.ext).old k3
          have q4 := fun (t : Wx y0) => (hy0.trans t.ext).old k4
          have q5 := fun (t : Wx y0) => (hy0.trans t.ext).old k5
          have q6 := fun (t : Wx y0) => (hy0.trans t.ext).old k6
          have q7 := fun (t : Wx y0) => (hy0.trans t.ext).old k7
          have q8 := fun (t : Wx y0) => (hy0.trans t.ext).old k8
          have q9 := fun (t : Wx y0) => (hy0.trans t.ext).old k9
          have q10 := fun (t : Wx y0) => (hy0.trans t.ext).old k10
          have q11 := fun (t : Wx y0) => (hy0.trans t.ext).old k11
          have q12 := fun (t : Wx y0) => (hy0.trans t.ext).old k12
          have q13 := fun (t : Wx y0) => (hy0.trans t.ext).old k13
          have q14 := fun (t : Wx y0) => (hy0.trans t.ext).old k14
          have q15 := fun (t : Wx y0) => (hy0.trans t.ext).old k15
          have q16 := fun (t : Wx y0) => (hy0.trans t.ext).old k16
          have q17 := fun (t : Wx y0) => (hy0.trans t.ext).old k17
          have q18 := fun (t : Wx y0) => (hy0.trans t.ext).old k18
          have q19 := fun (t : Wx y0) => (hy0.trans t.ext).old k19
          have q20 := fun (t : Wx y0) => (hy0.trans t.ext).old k20
          have q21 := fun (t : Wx y0) => (hy0.trans t.ext).old k21
          have q22 := fun (t : Wx y0) => (hy0.trans t.ext).old k22
          have q23 := fun (t : Wx y0) => (hy0.trans t.ext).old k23
          repeat (go_big_quiet_step (fail))
          exact wpQuiet_nil rfl
        intro w5 x5
        have x18 := x17.trans x5
        go_wp2
        go_ret
        exact ⟨rfl, x18⟩
theorem clipKeeps_row (va vb vc : VSm) (ha : va.ok) (hb : vb.ok) (hc : vc.ok) (w : World) :
    Calls Try.prog 6 #[.agg (va.l ++ (vb.l ++ vc.l)).toArray] w fun e w' => e = .returned (.bool true) ∧ Ext w w' := by
  have fa := vx_fine ha
  have fb := vx_fine hb
  have fc := vx_fine hc
  have hall := three_all (P := fun x => x.inP ∧ x.inC 0 65536) (vx_in ha) (vx_in hb) (vx_in hc)
  refine keeps_main va.x va.y va.z va.w va.r va.g va.b va.a vb.x vb.y vb.z vb.w vb.r vb.g vb.b vb.a vc.x vc.y vc.z vc.w vc.r vc.g vc.b vc.a va.far vb.far vc.far (vxF va).p0 (vxF va).p1 (vxF va).p2 (vxF va).p3 (vxF va).c0 (vxF va).c1 (vxF va).c2 (vxF va).c3 (vxF vb).p0 (vxF vb).p1 (vxF vb).p2 (vxF vb).p3 (vxF vb).c0 (vxF vb).c1 (vxF vb).c2 (vxF vb).c3 (vxF vc).p0 (vxF vc).p1 (vxF vc).p2 (vxF vc).p3 (vxF vc).c0 (vxF vc).c1 (vxF vc).c2 (vxF vc).c3 (gend (gplanes [vxF va, vxF vb, vxF vc] 7)) (by have := gend_le (gplanes [vxF va, vxF vb, vxF vc] 7); omega) (insF (vxF va)) (insF (vxF vb)) (insF (vxF vc))
    (fun u => vertices12_any va vb vc ha hb hc u) (fun u => clip_any (vxF va) (vxF vb) (vxF vc) fa.in64 fb.in64 fc.in64 u) (fun k u _ => inside_fine _ fa k u) (fun k u _ => inside_fine _ fb k u) (fun k u _ => inside_fine _ fc k u) ?_ ?_ w
  · intro h0 h1 h2
    rw [gend_eq hall, planesF_first (three_all (P := fun x => insF x 0 < 0) h0 h1 h2) 7 (by omega)]
    rfl
  · intro hk
    rw [gend_eq hall, planesF_id 7 fun k hk7 => three_all (P := fun x => 0 ≤ insF x k) (hk k hk7).1 (hk k hk7).2.1 (hk k hk7).2.2]
    have hcap : ∀ v : V8, 0 ≤ insF v 0 → capV v = v := fun v hv => by
      have hv : 0 ≤ v.p3 - 256 := hv
      have : max v.p3 256 = v.p3 := by omega
      simp [capV, this]
    obtain ⟨k0, k1, k2⟩ := hk 0 (by omega)
    unfold endF
    rw [if_neg (by simp), List.map_cons, List.map_cons, List.map_cons, List.map_nil, hcap _ k0, hcap _ k1, hcap _ k2]
end Go.Proofs.Ytjohcngmoemmbaa
