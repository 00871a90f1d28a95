/-
  DERIVED. ClipInside: the walk (made by mkcliplaws.py).
-/
import Derived.Test.YtjohcngmoemmbaaClipThree
namespace Go.Proofs.Ytjohcngmoemmbaa
open Go.RowKit
set_option linter.unusedVariables false
set_option maxRecDepth 100000 in
set_option maxHeartbeats 4000000 in
theorem linside_0 (xa_x xa_y xa_z xa_w xa_r xa_g xa_b xa_a : Int) (xa_f : Bool) (s0 s1 s2 s3 s4 s5 s6 s7 r0 r1 r2 r3 m0 m1 m2 m3 n0 n1 n2 n3 pl : Int) (f0 f1 : Nat → Int) (hV : ∀ u, Calls Try.prog 13 #[.agg #[.int .i16 xa_x, .int .i16 xa_y, .int .i16 xa_z, .int .i16 xa_w, .int .u8 xa_r, .int .u8 xa_g, .int .u8 xa_b, .int .u8 xa_a, .bool xa_f]] u fun e w' => e = .returned (.agg #[.int .i64 s0, .int .i64 s1, .int .i64 s2, .int .i64 s3, .int .i64 s4, .int .i64 s5, .int .i64 s6, .int .i64 s7]) ∧ Ext u w')
    (hW0 : ∀ u, Calls Try.prog 14 #[.agg #[.int .i64 s0, .int .i64 s1, .int .i64 s2, .int .i64 s3], .int .i64 4194304] u fun e w' => e = .returned (.agg #[.int .i64 m0, .int .i64 m1, .int .i64 m2, .int .i64 m3]) ∧ Ext u w') (hA0 : ∀ (k : Nat) u, k < 7 → Calls Try.prog 15 #[.agg #[.int .i64 s0, .int .i64 s1, .int .i64 s2, .int .i64 s3, .int .i64 0, .int .i64 0, .int .i64 0, .int .i64 0], .int .i64 (k : Int)] u fun e w' => e = .returned (.int .i64 (f0 k)) ∧ Ext u w') (hB0 : ∀ (k : Nat) u, k < 7 → Calls Try.prog 16 #[.agg #[.int .i64 m0, .int .i64 m1, .int .i64 m2, .int .i64 m3, .int .i64 0, .int .i64 0, .int .i64 0, .int .i64 0], .int .i64 (k : Int)] u fun e w' => e = .returned (.int .i64 (f0 k)) ∧ Ext u w') (hZ0 : (pl < 0 ∨ 6 < pl) → ∀ u, Calls Try.prog 15 #[.agg #[.int .i64 s0, .int .i64 s1, .int .i64 s2, .int .i64 s3, .int .i64 0, .int .i64 0, .int .i64 0, .int .i64 0], .int .i64 pl] u fun e w' => e = .returned (.int .i64 0) ∧ Ext u w')
    (hW1 : ∀ u, Calls Try.prog 14 #[.agg #[.int .i64 r0, .int .i64 r1, .int .i64 r2, .int .i64 r3], .int .i64 4194304] u fun e w' => e = .returned (.agg #[.int .i64 n0, .int .i64 n1, .int .i64 n2, .int .i64 n3]) ∧ Ext u w') (hA1 : ∀ (k : Nat) u, k < 7 → Calls Try.prog 15 #[.agg #[.int .i64 r0, .int .i64 r1, .int .i64 r2, .int .i64 r3, .int .i64 0, .int .i64 0, .int .i64 0, .int .i64 0], .int .i64 (k : Int)] u fun e w' => e = .returned (.int .i64 (f1 k)) ∧ Ext u w') (hB1 : ∀ (k : Nat) u, k < 7 → Calls Try.prog 16 #[.agg #[.int .i64 n0, .int .i64 n1, .int .i64 n2, .int .i64 n3, .int .i64 0, .int .i64 0, .int .i64 0, .int .i64 0], .int .i64 (k : Int)] u fun e w' => e = .returned (.int .i64 (f1 k)) ∧ Ext u w') (hZ1 : (pl < 0 ∨ 6 < pl) → ∀ u, Calls Try.prog 15 #[.agg #[.int .i64 r0, .int .i64 r1, .int .i64 r2, .int .i64 r3, .int .i64 0, .int .i64 0, .int .i64 0, .int .i64 0], .int .i64 pl] u fun e w' => e = .returned (.int .i64 0) ∧ Ext u w') (h1 : pl < 0) (w : World) : Calls Try.prog 4 #[.agg #[.int .i16 xa_x, .int .i16 xa_y, .int .i16 xa_z, .int .i16 xa_w, .int .u8 xa_r, .int .u8 xa_g, .int .u8 xa_b, .int .u8 xa_a, .bool xa_f], .agg #[.int .i64 r0, .int .i64 r1, .int .i64 r2, .int .i64 r3], .int .i64 pl] w fun e w' => e = .returned (.bool true) ∧ Ext w w' := by
  have HV := Lib.hid hV
  have HW0 := Lib.hid hW0
  have HW1 := Lib.hid hW1
  have HA0 := Lib.hid hA0
  have HA1 := Lib.hid hA1
  have HB0 := Lib.hid hB0
  have HB1 := Lib.hid hB1
  have HZ0 := Lib.hid (hZ0 (.inl h1))
  have HZ1 := Lib.hid (hZ1 (.inl h1))
  clear hV hW0 hW1 hA0 hA1 hB0 hB1 hZ0 hZ1
  have xx : Ext w ((w.alloc (.cells #[.int .i16 xa_x, .int .i16 xa_y, .int .i16 xa_z, .int .i16 xa_w, .int .u8 xa_r, .int .u8 xa_g, .int .u8 xa_b, .int .u8 xa_a, .bool xa_f] 25)).alloc (.cells #[.int .i64 r0, .int .i64 r1, .int .i64 r2, .int .i64 r3] 30)) := ((Ext.refl w).alloc _ _).alloc _ _
  have B3 := (Blk.new w #[.int .i16 xa_x, .int .i16 xa_y, .int .i16 xa_z, .int .i16 xa_w, .int .u8 xa_r, .int .u8 xa_g, .int .u8 xa_b, .int .u8 xa_a, .bool xa_f] 25).alloc (.cells #[.int .i64 r0, .int .i64 r1, .int .i64 r2, .int .i64 r3] 30)
  have B4 := Blk.new (w.alloc (.cells #[.int .i16 xa_x, .int .i16 xa_y, .int .i16 xa_z, .int .i16 xa_w, .int .u8 xa_r, .int .u8 xa_g, .int .u8 xa_b, .int .u8 xa_a, .bool xa_f] 25)) #[.int .i64 r0, .int .i64 r1, .int .i64 r2, .int .i64 r3] 30
  go_enter Try.func4, Try.ntmps4
  go_upto_region 1 with fail
  simp only [World.size_alloc] at B4
  generalize ((w.alloc (.cells #[.int .i16 xa_x, .int .i16 xa_y, .int .i16 xa_z, .int .i16 xa_w, .int .u8 xa_r, .int .u8 xa_g, .int .u8 xa_b, .int .u8 xa_a, .bool xa_f] 25)).alloc (.cells #[.int .i64 r0, .int .i64 r1, .int .i64 r2, .int .i64 r3] 30)) = w0 at *
  go_wp2_with fail
  refine (awake12_any _).mono ?_
  rintro e w1 ⟨rfl, x1⟩
  have xx := xx.trans x1
  have B3 := B3.ext x1
  have B4 := B4.ext x1
  clear x1
  go_wp2_with (first
    | ((with_reducible refine wpList_load_blk (op := ⟨some 15, _, _, _, _, _⟩) ?_ 25 (.tmp 3) ?_ (w.heap.size) ?_ (z := _) (T := 25) B3 Try.underlying25 ?_ ?_ ?_); rfl; rfl; rfl; rfl; kernel_rfl)
    | fail)
  refine (HV.out _).mono ?_
  rintro e w2 ⟨rfl, x2⟩
  have xx := xx.trans x2
  have B4 := B4.ext x2
  clear B3 x2 HV
  have N7 := (Blk.new w2 #[.int .i64 0, .int .i64 0, .int .i64 0, .int .i64 0, .int .i64 0, .int .i64 0, .int .i64 0, .int .i64 0] 43).setRow #[.int .i64 s0, .int .i64 s1, .int .i64 s2, .int .i64 s3, .int .i64 s4, .int .i64 s5, .int .i64 s6, .int .i64 s7]
  have y7 : Ext w2 ((w2.alloc (.cells #[.int .i64 0, .int .i64 0, .int .i64 0, .int .i64 0, .int .i64 0, .int .i64 0, .int .i64 0, .int .i64 0] 43)).setRow w2.heap.size #[.int .i64 s0, .int .i64 s1, .int .i64 s2, .int .i64 s3, .int .i64 s4, .int .i64 s5, .int .i64 s6, .int .i64 s7]) := ((Ext.refl _).alloc _ _).setRow (Nat.le_refl _) _
  go_upto_region 4 with (first
    | fail
    | ((with_reducible refine wpList_store_blk (op := ⟨none, .store 43 (.tmp 7) (.tmp 16), _, _, _, _⟩) ?_ 43 (.tmp 7) (.tmp 16) ?_ (w2.heap.size) ?_ (cs := #[.int .i64 s0, .int .i64 s1, .int .i64 s2, .int .i64 s3, .int .i64 s4, .int .i64 s5, .int .i64 s6, .int .i64 s7]) ?_ (z := #[.int .i64 0, .int .i64 0, .int .i64 0, .int .i64 0, .int .i64 0, .int .i64 0, .int .i64 0, .int .i64 0]) (T := 43) ?_ ?_ ?_ ?_ ?_); rfl; rfl; rfl; rfl; exact Blk.new w2 _ _; kernel_rfl; kernel_rfl; kernel_rfl)
    | fail)
  simp only [Act.put]
  have B4 := B4.ext y7
  have xx := xx.trans y7
  clear y7
  generalize (w2.alloc (.cells #[.int .i64 0, .int .i64 0, .int .i64 0, .int .i64 0, .int .i64 0, .int .i64 0, .int .i64 0, .int .i64 0] 43)).setRow w2.heap.size #[.int .i64 s0, .int .i64 s1, .int .i64 s2, .int .i64 s3, .int .i64 s4, .int .i64 s5, .int .i64 s6, .int .i64 s7] = w3 at *
  generalize w2.heap.size = g7 at *
  have R7 := N7.mid 0 [.int .i64 s0, .int .i64 s1, .int .i64 s2, .int .i64 s3] rfl
  have BS : Blk (w3.alloc (.cells #[.int .i64 s0, .int .i64 s1, .int .i64 s2, .int .i64 s3, .int .i64 r0, .int .i64 r1, .int .i64 r2, .int .i64 r3] 30)) w3.heap.size #[.int .i64 s0, .int .i64 s1, .int .i64 s2, .int .i64 s3, .int .i64 r0, .int .i64 r1, .int .i64 r2, .int .i64 r3] 30 := Blk.new _ _ _
  have xs : Ext w3 (w3.alloc (.cells #[.int .i64 s0, .int .i64 s1, .int .i64 s2, .int .i64 s3, .int .i64 r0, .int .i64 r1, .int .i64 r2, .int .i64 r3] 30)) := (Ext.refl _).alloc _ _
  have HBS := Lib.hid BS
  have HXS := Lib.hid xs
  clear BS xs
  go_wp2_with (first
    | (refine wpList_load_mid (op := ⟨some 18, _, _, _, _, _⟩) rfl 30 (.tmp 17) rfl g7 0 rfl [.int .i64 s0, .int .i64 s1, .int .i64 s2, .int .i64 s3] _ R7 Try.underlying30 rfl (by kernel_rfl) ?_)
    | ((with_reducible refine wpList_load_blk (op := ⟨some 19, _, _, _, _, _⟩) ?_ 30 (.tmp 4) ?_ (w.heap.size + 1) ?_ (z := _) (T := 30) B4 Try.underlying30 ?_ ?_ ?_); rfl; rfl; rfl; rfl; kernel_rfl)
    | fail)
  have BS := HBS.out
  have xx := xx.trans HXS.out
  clear HBS HXS R7 N7 B4
  generalize w3.alloc (.cells #[.int .i64 s0, .int .i64 s1, .int .i64 s2, .int .i64 s3, .int .i64 r0, .int .i64 r1, .int .i64 r2, .int .i64 r3] 30) = wa0 at *
  generalize w3.heap.size = gs at *
  refine wp_loop_rounds 3 ?_
  have RR0 := BS.mid 0 [.int .i64 s0, .int .i64 s1, .int .i64 s2, .int .i64 s3] rfl
  rw [rounds_succ]
  have N9 := (Blk.new wa0 #[.int .i64 0, .int .i64 0, .int .i64 0, .int .i64 0] 30).setRow #[.int .i64 s0, .int .i64 s1, .int .i64 s2, .int .i64 s3]
  have y9 : Ext wa0 ((wa0.alloc (.cells #[.int .i64 0, .int .i64 0, .int .i64 0, .int .i64 0] 30)).setRow wa0.heap.size #[.int .i64 s0, .int .i64 s1, .int .i64 s2, .int .i64 s3]) := ((Ext.refl _).alloc _ _).setRow (Nat.le_refl _) _
  go_upto_region 7 with (first
    | (refine wpList_load_mid (op := ⟨some 25, _, _, _, _, _⟩) rfl 30 (.tmp 24) rfl gs 0 rfl [.int .i64 s0, .int .i64 s1, .int .i64 s2, .int .i64 s3] _ RR0 Try.underlying30 rfl (by kernel_rfl) ?_)
    | ((with_reducible refine wpList_store_blk (op := ⟨none, .store 30 (.tmp 9) (.tmp 25), _, _, _, _⟩) ?_ 30 (.tmp 9) (.tmp 25) ?_ (wa0.heap.size) ?_ (cs := #[.int .i64 s0, .int .i64 s1, .int .i64 s2, .int .i64 s3]) ?_ (z := #[.int .i64 0, .int .i64 0, .int .i64 0, .int .i64 0]) (T := 30) ?_ ?_ ?_ ?_ ?_); rfl; rfl; rfl; rfl; exact Blk.new wa0 _ _; kernel_rfl; kernel_rfl; kernel_rfl)
    | fail)
  simp only [Act.put]
  have BS := BS.ext y9
  have xx := xx.trans y9
  clear y9
  generalize (wa0.alloc (.cells #[.int .i64 0, .int .i64 0, .int .i64 0, .int .i64 0] 30)).setRow wa0.heap.size #[.int .i64 s0, .int .i64 s1, .int .i64 s2, .int .i64 s3] = wb0 at *
  generalize wa0.heap.size = g9_0 at *
  have B9 := N9
  clear N9
  go_wp2_with (first
    | ((with_reducible refine wpList_load_blk (op := ⟨some 26, _, _, _, _, _⟩) ?_ 30 (.tmp 9) ?_ (g9_0) ?_ (z := _) (T := 30) B9 Try.underlying30 ?_ ?_ ?_); rfl; rfl; rfl; rfl; kernel_rfl)
    | fail)
  refine (HW0.out _).mono ?_
  rintro e wc0 ⟨rfl, xc⟩
  have xx := xx.trans xc
  have BS := BS.ext xc
  have B9 := B9.ext xc
  clear xc
  have N10 := (Blk.new wc0 #[.int .i64 0, .int .i64 0, .int .i64 0, .int .i64 0] 30).setRow #[.int .i64 m0, .int .i64 m1, .int .i64 m2, .int .i64 m3]
  have y10 : Ext wc0 ((wc0.alloc (.cells #[.int .i64 0, .int .i64 0, .int .i64 0, .int .i64 0] 30)).setRow wc0.heap.size #[.int .i64 m0, .int .i64 m1, .int .i64 m2, .int .i64 m3]) := ((Ext.refl _).alloc _ _).setRow (Nat.le_refl _) _
  go_upto_region 8 with (first
    | fail
    | ((with_reducible refine wpList_store_blk (op := ⟨none, .store 30 (.tmp 10) (.tmp 27), _, _, _, _⟩) ?_ 30 (.tmp 10) (.tmp 27) ?_ (wc0.heap.size) ?_ (cs := #[.int .i64 m0, .int .i64 m1, .int .i64 m2, .int .i64 m3]) ?_ (z := #[.int .i64 0, .int .i64 0, .int .i64 0, .int .i64 0]) (T := 30) ?_ ?_ ?_ ?_ ?_); rfl; rfl; rfl; rfl; exact Blk.new wc0 _ _; kernel_rfl; kernel_rfl; kernel_rfl)
    | fail)
  simp only [Act.put]
  have BS := BS.ext y10
  have B9 := B9.ext y10
  have xx := xx.trans y10
  clear y10
  generalize (wc0.alloc (.cells #[.int .i64 0, .int .i64 0, .int .i64 0, .int .i64 0] 30)).setRow wc0.heap.size #[.int .i64 m0, .int .i64 m1, .int .i64 m2, .int .i64 m3] = wd0 at *
  generalize wc0.heap.size = g10_0 at *
  have B10 := N10
  clear N10
  have N11 := (Blk.new wd0 #[.int .i64 0, .int .i64 0, .int .i64 0, .int .i64 0, .int .i64 0, .int .i64 0, .int .i64 0, .int .i64 0] 32).setRow #[.int .i64 s0, .int .i64 s1, .int .i64 s2, .int .i64 s3, .int .i64 0, .int .i64 0, .int .i64 0, .int .i64 0]
  have y11 : Ext wd0 ((wd0.alloc (.cells #[.int .i64 0, .int .i64 0, .int .i64 0, .int .i64 0, .int .i64 0, .int .i64 0, .int .i64 0, .int .i64 0] 32)).setRow wd0.heap.size #[.int .i64 s0, .int .i64 s1, .int .i64 s2, .int .i64 s3, .int .i64 0, .int .i64 0, .int .i64 0, .int .i64 0]) := ((Ext.refl _).alloc _ _).setRow (Nat.le_refl _) _
  go_upto_region 9 with (first
    | ((with_reducible refine wpList_load_blk (op := ⟨some 28, _, _, _, _, _⟩) ?_ 30 (.tmp 9) ?_ (g9_0) ?_ (z := _) (T := 30) B9 Try.underlying30 ?_ ?_ ?_); rfl; rfl; rfl; rfl; kernel_rfl)
    | ((with_reducible refine wpList_store_blk (op := ⟨none, .store 32 (.tmp 11) (.tmp 29), _, _, _, _⟩) ?_ 32 (.tmp 11) (.tmp 29) ?_ (wd0.heap.size) ?_ (cs := #[.int .i64 s0, .int .i64 s1, .int .i64 s2, .int .i64 s3, .int .i64 0, .int .i64 0, .int .i64 0, .int .i64 0]) ?_ (z := #[.int .i64 0, .int .i64 0, .int .i64 0, .int .i64 0, .int .i64 0, .int .i64 0, .int .i64 0, .int .i64 0]) (T := 32) ?_ ?_ ?_ ?_ ?_); rfl; rfl; rfl; rfl; exact Blk.new wd0 _ _; kernel_rfl; kernel_rfl; kernel_rfl)
    | fail)
  simp only [Act.put]
  have BS := BS.ext y11
  have B9 := B9.ext y11
  have B10 := B10.ext y11
  have xx := xx.trans y11
  clear y11
  generalize (wd0.alloc (.cells #[.int .i64 0, .int .i64 0, .int .i64 0, .int .i64 0, .int .i64 0, .int .i64 0, .int .i64 0, .int .i64 0] 32)).setRow wd0.heap.size #[.int .i64 s0, .int .i64 s1, .int .i64 s2, .int .i64 s3, .int .i64 0, .int .i64 0, .int .i64 0, .int .i64 0] = we0 at *
  generalize wd0.heap.size = g11_0 at *
  have B11 := N11
  clear N11 B9
  go_wp2_with fail
  go_loopg [30] 7 (fun n0 kv wx => ∃ (k : Nat), k + n0 = 7 ∧ kv = .int .i64 k ∧ Ext we0 wx)
  case atStart => exact ⟨0, by omega, by simp, Ext.refl _⟩
  case round =>
    generalize wr = wy0 at *
    obtain ⟨k, hk, rfl, E⟩ := hrel
    have B10 := B10.ext E
    have B11 := B11.ext E
    by_cases hk7 : k < 7
    · have hkI : (k : Int) < 7 := by omega
      have hA := fun u => HA0.out k u hk7
      have hB := fun u => HB0.out k u hk7
      generalize f0 k = s at *
      have HA := Lib.hid hA
      have HB := Lib.hid hB
      clear hA hB
      go_upto_region 12 with fail
      apply wp_region_reads2 _ (by kernel_rfl) (by kernel_rfl)
      case H =>
        intro y0 hy0
        have hne : Nonempty (Wx y0) := ⟨⟨y0, Ext.refl y0⟩⟩
        have q3 := fun (t : Wx y0) => (B10.ext (hy0.trans t.ext)).cell
        have q4 := fun (t : Wx y0) => (B11.ext (hy0.trans t.ext)).cell
        repeat (go_big_quiet_step (first | (go_at_call 15; with_reducible exact calm_of (HA.out _)) | (go_at_call 16; with_reducible exact calm_of (HB.out _))))
        exact wpQuiet_nil rfl
      intro w7 x7
      have E7 := E.trans x7
      go_wp2
      go_roundg (gk - 1)
      case measure => omega
      case rel => exact ⟨k + 1, by omega, by simp, E7⟩
    · have hkI : ¬ (k : Int) < 7 := by omega
      have xx := xx.trans E
      have BS := BS.ext E
      have c11 := B11.cell
      have HBS := Lib.hid BS
      clear E BS
      go_wp2_with fail
      refine (HZ0.out _).mono ?_
      rintro e wa1 ⟨rfl, x8⟩
      have xx := xx.trans x8
      have BS := HBS.out.ext x8
      clear HBS x8 c11 B10 B11
      go_wp2_with fail
      have RR1 := BS.mid 4 [.int .i64 r0, .int .i64 r1, .int .i64 r2, .int .i64 r3] rfl
      rw [rounds_succ]
      have N9 := (Blk.new wa1 #[.int .i64 0, .int .i64 0, .int .i64 0, .int .i64 0] 30).setRow #[.int .i64 r0, .int .i64 r1, .int .i64 r2, .int .i64 r3]
      have y9 : Ext wa1 ((wa1.alloc (.cells #[.int .i64 0, .int .i64 0, .int .i64 0, .int .i64 0] 30)).setRow wa1.heap.size #[.int .i64 r0, .int .i64 r1, .int .i64 r2, .int .i64 r3]) := ((Ext.refl _).alloc _ _).setRow (Nat.le_refl _) _
      go_upto_region 7 with (first
        | (refine wpList_load_mid (op := ⟨some 25, _, _, _, _, _⟩) rfl 30 (.tmp 24) rfl gs 4 rfl [.int .i64 r0, .int .i64 r1, .int .i64 r2, .int .i64 r3] _ RR1 Try.underlying30 rfl (by kernel_rfl) ?_)
        | ((with_reducible refine wpList_store_blk (op := ⟨none, .store 30 (.tmp 9) (.tmp 25), _, _, _, _⟩) ?_ 30 (.tmp 9) (.tmp 25) ?_ (wa1.heap.size) ?_ (cs := #[.int .i64 r0, .int .i64 r1, .int .i64 r2, .int .i64 r3]) ?_ (z := #[.int .i64 0, .int .i64 0, .int .i64 0, .int .i64 0]) (T := 30) ?_ ?_ ?_ ?_ ?_); rfl; rfl; rfl; rfl; exact Blk.new wa1 _ _; kernel_rfl; kernel_rfl; kernel_rfl)
        | fail)
      simp only [Act.put]
      have BS := BS.ext y9
      have xx := xx.trans y9
      clear y9
      generalize (wa1.alloc (.cells #[.int .i64 0, .int .i64 0, .int .i64 0, .int .i64 0] 30)).setRow wa1.heap.size #[.int .i64 r0, .int .i64 r1, .int .i64 r2, .int .i64 r3] = wb1 at *
      generalize wa1.heap.size = g9_1 at *
      have B9 := N9
      clear N9
      go_wp2_with (first
        | ((with_reducible refine wpList_load_blk (op := ⟨some 26, _, _, _, _, _⟩) ?_ 30 (.tmp 9) ?_ (g9_1) ?_ (z := _) (T := 30) B9 Try.underlying30 ?_ ?_ ?_); rfl; rfl; rfl; rfl; kernel_rfl)
        | fail)
      refine (HW1.out _).mono ?_
      rintro e wc1 ⟨rfl, xc⟩
      have xx := xx.trans xc
      have BS := BS.ext xc
      have B9 := B9.ext xc
      clear xc
      have N10 := (Blk.new wc1 #[.int .i64 0, .int .i64 0, .int .i64 0, .int .i64 0] 30).setRow #[.int .i64 n0, .int .i64 n1, .int .i64 n2, .int .i64 n3]
      have y10 : Ext wc1 ((wc1.alloc (.cells #[.int .i64 0, .int .i64 0, .int .i64 0, .int .i64 0] 30)).setRow wc1.heap.size #[.int .i64 n0, .int .i64 n1, .int .i64 n2, .int .i64 n3]) := ((Ext.refl _).alloc _ _).setRow (Nat.le_refl _) _
      go_upto_region 8 with (first
        | fail
        | ((with_reducible refine wpList_store_blk (op := ⟨none, .store 30 (.tmp 10) (.tmp 27), _, _, _, _⟩) ?_ 30 (.tmp 10) (.tmp 27) ?_ (wc1.heap.size) ?_ (cs := #[.int .i64 n0, .int .i64 n1, .int .i64 n2, .int .i64 n3]) ?_ (z := #[.int .i64 0, .int .i64 0, .int .i64 0, .int .i64 0]) (T := 30) ?_ ?_ ?_ ?_ ?_); rfl; rfl; rfl; rfl; exact Blk.new wc1 _ _; kernel_rfl; kernel_rfl; kernel_rfl)
        | fail)
      simp only [Act.put]
      have BS := BS.ext y10
      have B9 := B9.ext y10
      have xx := xx.trans y10
      clear y10
      generalize (wc1.alloc (.cells #[.int .i64 0, .int .i64 0, .int .i64 0, .int .i64 0] 30)).setRow wc1.heap.size #[.int .i64 n0, .int .i64 n1, .int .i64 n2, .int .i64 n3] = wd1 at *
      generalize wc1.heap.size = g10_1 at *
      have B10 := N10
      clear N10
      have N11 := (Blk.new wd1 #[.int .i64 0, .int .i64 0, .int .i64 0, .int .i64 0, .int .i64 0, .int .i64 0, .int .i64 0, .int .i64 0] 32).setRow #[.int .i64 r0, .int .i64 r1, .int .i64 r2, .int .i64 r3, .int .i64 0, .int .i64 0, .int .i64 0, .int .i64 0]
      have y11 : Ext wd1 ((wd1.alloc (.cells #[.int .i64 0, .int .i64 0, .int .i64 0, .int .i64 0, .int .i64 0, .int .i64 0, .int .i64 0, .int .i64 0] 32)).setRow wd1.heap.size #[.int .i64 r0, .int .i64 r1, .int .i64 r2, .int .i64 r3, .int .i64 0, .int .i64 0, .int .i64 0, .int .i64 0]) := ((Ext.refl _).alloc _ _).setRow (Nat.le_refl _) _
      go_upto_region 9 with (first
        | ((with_reducible refine wpList_load_blk (op := ⟨some 28, _, _, _, _, _⟩) ?_ 30 (.tmp 9) ?_ (g9_1) ?_ (z := _) (T := 30) B9 Try.underlying30 ?_ ?_ ?_); rfl; rfl; rfl; rfl; kernel_rfl)
        | ((with_reducible refine wpList_store_blk (op := ⟨none, .store 32 (.tmp 11) (.tmp 29), _, _, _, _⟩) ?_ 32 (.tmp 11) (.tmp 29) ?_ (wd1.heap.size) ?_ (cs := #[.int .i64 r0, .int .i64 r1, .int .i64 r2, .int .i64 r3, .int .i64 0, .int .i64 0, .int .i64 0, .int .i64 0]) ?_ (z := #[.int .i64 0, .int .i64 0, .int .i64 0, .int .i64 0, .int .i64 0, .int .i64 0, .int .i64 0, .int .i64 0]) (T := 32) ?_ ?_ ?_ ?_ ?_); rfl; rfl; rfl; rfl; exact Blk.new wd1 _ _; kernel_rfl; kernel_rfl; kernel_rfl)
        | fail)
      simp only [Act.put]
      have BS := BS.ext y11
      have B9 := B9.ext y11
      have B10 := B10.ext y11
      have xx := xx.trans y11
      clear y11
      generalize (wd1.alloc (.cells #[.int .i64 0, .int .i64 0, .int .i64 0, .int .i64 0, .int .i64 0, .int .i64 0, .int .i64 0, .int .i64 0] 32)).setRow wd1.heap.size #[.int .i64 r0, .int .i64 r1, .int .i64 r2, .int .i64 r3, .int .i64 0, .int .i64 0, .int .i64 0, .int .i64 0] = we1 at *
      generalize wd1.heap.size = g11_1 at *
      have B11 := N11
      clear N11 B9
      go_wp2_with fail
      go_loopg [30] 7 (fun n0 kv wx => ∃ (k : Nat), k + n0 = 7 ∧ kv = .int .i64 k ∧ Ext we1 wx)
      case atStart => exact ⟨0, by omega, by simp, Ext.refl _⟩
      case round =>
        generalize wr = wy1 at *
        obtain ⟨k, hk, rfl, E⟩ := hrel
        have B10 := B10.ext E
        have B11 := B11.ext E
        by_cases hk7 : k < 7
        · have hkI : (k : Int) < 7 := by omega
          have hA := fun u => HA1.out k u hk7
          have hB := fun u => HB1.out k u hk7
          generalize f1 k = s at *
          have HA := Lib.hid hA
          have HB := Lib.hid hB
          clear hA hB
          go_upto_region 12 with fail
          apply wp_region_reads2 _ (by kernel_rfl) (by kernel_rfl)
          case H =>
            intro y0 hy0
            have hne : Nonempty (Wx y0) := ⟨⟨y0, Ext.refl y0⟩⟩
            have q3 := fun (t : Wx y0) => (B10.ext (hy0.trans t.ext)).cell
            have q4 := fun (t : Wx y0) => (B11.ext (hy0.trans t.ext)).cell
            repeat (go_big_quiet_step (first | (go_at_call 15; with_reducible exact calm_of (HA.out _)) | (go_at_call 16; with_reducible exact calm_of (HB.out _))))
            exact wpQuiet_nil rfl
          intro w7 x7
          have E7 := E.trans x7
          go_wp2
          go_roundg (gk - 1)
          case measure => omega
          case rel => exact ⟨k + 1, by omega, by simp, E7⟩
        · have hkI : ¬ (k : Int) < 7 := by omega
          have xx := xx.trans E
          have BS := BS.ext E
          have c11 := B11.cell
          have HBS := Lib.hid BS
          clear E BS
          go_wp2_with fail
          refine (HZ1.out _).mono ?_
          rintro e wa2 ⟨rfl, x8⟩
          have xx := xx.trans x8
          have BS := HBS.out.ext x8
          clear HBS x8 c11 B10 B11
          go_wp2_with fail
          rw [rounds_succ]
          go_wp2
          go_ret
          exact ⟨rfl, xx⟩
set_option maxRecDepth 100000 in
set_option maxHeartbeats 4000000 in
theorem linside_1 (xa_x xa_y xa_z xa_w xa_r xa_g xa_b xa_a : Int) (xa_f : Bool) (s0 s1 s2 s3 s4 s5 s6 s7 r0 r1 r2 r3 m0 m1 m2 m3 n0 n1 n2 n3 pl : Int) (f0 f1 : Nat → Int) (hV : ∀ u, Calls Try.prog 13 #[.agg #[.int .i16 xa_x, .int .i16 xa_y, .int .i16 xa_z, .int .i16 xa_w, .int .u8 xa_r, .int .u8 xa_g, .int .u8 xa_b, .int .u8 xa_a, .bool xa_f]] u fun e w' => e = .returned (.agg #[.int .i64 s0, .int .i64 s1, .int .i64 s2, .int .i64 s3, .int .i64 s4, .int .i64 s5, .int .i64 s6, .int .i64 s7]) ∧ Ext u w')
    (hW0 : ∀ u, Calls Try.prog 14 #[.agg #[.int .i64 s0, .int .i64 s1, .int .i64 s2, .int .i64 s3], .int .i64 4194304] u fun e w' => e = .returned (.agg #[.int .i64 m0, .int .i64 m1, .int .i64 m2, .int .i64 m3]) ∧ Ext u w') (hA0 : ∀ (k : Nat) u, k < 7 → Calls Try.prog 15 #[.agg #[.int .i64 s0, .int .i64 s1, .int .i64 s2, .int .i64 s3, .int .i64 0, .int .i64 0, .int .i64 0, .int .i64 0], .int .i64 (k : Int)] u fun e w' => e = .returned (.int .i64 (f0 k)) ∧ Ext u w') (hB0 : ∀ (k : Nat) u, k < 7 → Calls Try.prog 16 #[.agg #[.int .i64 m0, .int .i64 m1, .int .i64 m2, .int .i64 m3, .int .i64 0, .int .i64 0, .int .i64 0, .int .i64 0], .int .i64 (k : Int)] u fun e w' => e = .returned (.int .i64 (f0 k)) ∧ Ext u w') (hZ0 : (pl < 0 ∨ 6 < pl) → ∀ u, Calls Try.prog 15 #[.agg #[.int .i64 s0, .int .i64 s1, .int .i64 s2, .int .i64 s3, .int .i64 0, .int .i64 0, .int .i64 0, .int .i64 0], .int .i64 pl] u fun e w' => e = .returned (.int .i64 0) ∧ Ext u w')
    (hW1 : ∀ u, Calls Try.prog 14 #[.agg #[.int .i64 r0, .int .i64 r1, .int .i64 r2, .int .i64 r3], .int .i64 4194304] u fun e w' => e = .returned (.agg #[.int .i64 n0, .int .i64 n1, .int .i64 n2, .int .i64 n3]) ∧ Ext u w') (hA1 : ∀ (k : Nat) u, k < 7 → Calls Try.prog 15 #[.agg #[.int .i64 r0, .int .i64 r1, .int .i64 r2, .int .i64 r3, .int .i64 0, .int .i64 0, .int .i64 0, .int .i64 0], .int .i64 (k : Int)] u fun e w' => e = .returned (.int .i64 (f1 k)) ∧ Ext u w') (hB1 : ∀ (k : Nat) u, k < 7 → Calls Try.prog 16 #[.agg #[.int .i64 n0, .int .i64 n1, .int .i64 n2, .int .i64 n3, .int .i64 0, .int .i64 0, .int .i64 0, .int .i64 0], .int .i64 (k : Int)] u fun e w' => e = .returned (.int .i64 (f1 k)) ∧ Ext u w') (hZ1 : (pl < 0 ∨ 6 < pl) → ∀ u, Calls Try.prog 15 #[.agg #[.int .i64 r0, .int .i64 r1, .int .i64 r2, .int .i64 r3, .int .i64 0, .int .i64 0, .int .i64 0, .int .i64 0], .int .i64 pl] u fun e w' => e = .returned (.int .i64 0) ∧ Ext u w') (h1 : ¬ pl < 0) (h2 : 6 < pl) (w : World) : Calls Try.prog 4 #[.agg #[.int .i16 xa_x, .int .i16 xa_y, .int .i16 xa_z, .int .i16 xa_w, .int .u8 xa_r, .int .u8 xa_g, .int .u8 xa_b, .int .u8 xa_a, .bool xa_f], .agg #[.int .i64 r0, .int .i64 r1, .int .i64 r2, .int .i64 r3], .int .i64 pl] w fun e w' => e = .returned (.bool true) ∧ Ext w w' := by
  have HV := Lib.hid hV
  have HW0 := Lib.hid hW0
  have HW1 := Lib.hid hW1
  have HA0 := Lib.hid hA0
  have HA1 := Lib.hid hA1
  have HB0 := Lib.hid hB0
  have HB1 := Lib.hid hB1
  have HZ0 := Lib.hid (hZ0 (.inr h2))
  have HZ1 := Lib.hid (hZ1 (.inr h2))
  clear hV hW0 hW1 hA0 hA1 hB0 hB1 hZ0 hZ1
  have xx : Ext w ((w.alloc (.cells #[.int .i16 xa_x, .int .i16 xa_y, .int .i16 xa_z, .int .i16 xa_w, .int .u8 xa_r, .int .u8 xa_g, .int .u8 xa_b, .int .u8 xa_a, .bool xa_f] 25)).alloc (.cells #[.int .i64 r0, .int .i64 r1, .int .i64 r2, .int .i64 r3] 30)) := ((Ext.refl w).alloc _ _).alloc _ _
  have B3 := (Blk.new w #[.int .i16 xa_x, .int .i16 xa_y, .int .i16 xa_z, .int .i16 xa_w, .int .u8 xa_r, .int .u8 xa_g, .int .u8 xa_b, .int .u8 xa_a, .bool xa_f] 25).alloc (.cells #[.int .i64 r0, .int .i64 r1, .int .i64 r2, .int .i64 r3] 30)
  have B4 := Blk.new (w.alloc (.cells #[.int .i16 xa_x, .int .i16 xa_y, .int .i16 xa_z, .int .i16 xa_w, .int .u8 xa_r, .int .u8 xa_g, .int .u8 xa_b, .int .u8 xa_a, .bool xa_f] 25)) #[.int .i64 r0, .int .i64 r1, .int .i64 r2, .int .i64 r3] 30
  go_enter Try.func4, Try.ntmps4
  go_upto_region 1 with fail
  simp only [World.size_alloc] at B4
  generalize ((w.alloc (.cells #[.int .i16 xa_x, .int .i16 xa_y, .int .i16 xa_z, .int .i16 xa_w, .int .u8 xa_r, .int .u8 xa_g, .int .u8 xa_b, .int .u8 xa_a, .bool xa_f] 25)).alloc (.cells #[.int .i64 r0, .int .i64 r1, .int .i64 r2, .int .i64 r3] 30)) = w0 at *
  go_wp2_with fail
  refine (awake12_any _).mono ?_
  rintro e w1 ⟨rfl, x1⟩
  have xx := xx.trans x1
  have B3 := B3.ext x1
  have B4 := B4.ext x1
  clear x1
  go_wp2_with (first
    | ((with_reducible refine wpList_load_blk (op := ⟨some 15, _, _, _, _, _⟩) ?_ 25 (.tmp 3) ?_ (w.heap.size) ?_ (z := _) (T := 25) B3 Try.underlying25 ?_ ?_ ?_); rfl; rfl; rfl; rfl; kernel_rfl)
    | fail)
  refine (HV.out _).mono ?_
  rintro e w2 ⟨rfl, x2⟩
  have xx := xx.trans x2
  have B4 := B4.ext x2
  clear B3 x2 HV
  have N7 := (Blk.new w2 #[.int .i64 0, .int .i64 0, .int .i64 0, .int .i64 0, .int .i64 0, .int .i64 0, .int .i64 0, .int .i64 0] 43).setRow #[.int .i64 s0, .int .i64 s1, .int .i64 s2, .int .i64 s3, .int .i64 s4, .int .i64 s5, .int .i64 s6, .int .i64 s7]
  have y7 : Ext w2 ((w2.alloc (.cells #[.int .i64 0, .int .i64 0, .int .i64 0, .int .i64 0, .int .i64 0, .int .i64 0, .int .i64 0, .int .i64 0] 43)).setRow w2.heap.size #[.int .i64 s0, .int .i64 s1, .int .i64 s2, .int .i64 s3, .int .i64 s4, .int .i64 s5, .int .i64 s6, .int .i64 s7]) := ((Ext.refl _).alloc _ _).setRow (Nat.le_refl _) _
  go_upto_region 4 with (first
    | fail
    | ((with_reducible refine wpList_store_blk (op := ⟨none, .store 43 (.tmp 7) (.tmp 16), _, _, _, _⟩) ?_ 43 (.tmp 7) (.tmp 16) ?_ (w2.heap.size) ?_ (cs := #[.int .i64 s0, .int .i64 s1, .int .i64 s2, .int .i64 s3, .int .i64 s4, .int .i64 s5, .int .i64 s6, .int .i64 s7]) ?_ (z := #[.int .i64 0, .int .i64 0, .int .i64 0, .int .i64 0, .int .i64 0, .int .i64 0, .int .i64 0, .int .i64 0]) (T := 43) ?_ ?_ ?_ ?_ ?_); rfl; rfl; rfl; rfl; exact Blk.new w2 _ _; kernel_rfl; kernel_rfl; kernel_rfl)
    | fail)
  simp only [Act.put]
  have B4 := B4.ext y7
  have xx := xx.trans y7
  clear y7
  generalize (w2.alloc (.cells #[.int .i64 0, .int .i64 0, .int .i64 0, .int .i64 0, .int .i64 0, .int .i64 0, .int .i64 0, .int .i64 0] 43)).setRow w2.heap.size #[.int .i64 s0, .int .i64 s1, .int .i64 s2, .int .i64 s3, .int .i64 s4, .int .i64 s5, .int .i64 s6, .int .i64 s7] = w3 at *
  generalize w2.heap.size = g7 at *
  have R7 := N7.mid 0 [.int .i64 s0, .int .i64 s1, .int .i64 s2, .int .i64 s3] rfl
  have BS : Blk (w3.alloc (.cells #[.int .i64 s0, .int .i64 s1, .int .i64 s2, .int .i64 s3, .int .i64 r0, .int .i64 r1, .int .i64 r2, .int .i64 r3] 30)) w3.heap.size #[.int .i64 s0, .int .i64 s1, .int .i64 s2, .int .i64 s3, .int .i64 r0, .int .i64 r1, .int .i64 r2, .int .i64 r3] 30 := Blk.new _ _ _
  have xs : Ext w3 (w3.alloc (.cells #[.int .i64 s0, .int .i64 s1, .int .i64 s2, .int .i64 s3, .int .i64 r0, .int .i64 r1, .int .i64 r2, .int .i64 r3] 30)) := (Ext.refl _).alloc _ _
  have HBS := Lib.hid BS
  have HXS := Lib.hid xs
  clear BS xs
  go_wp2_with (first
    | (refine wpList_load_mid (op := ⟨some 18, _, _, _, _, _⟩) rfl 30 (.tmp 17) rfl g7 0 rfl [.int .i64 s0, .int .i64 s1, .int .i64 s2, .int .i64 s3] _ R7 Try.underlying30 rfl (by kernel_rfl) ?_)
    | ((with_reducible refine wpList_load_blk (op := ⟨some 19, _, _, _, _, _⟩) ?_ 30 (.tmp 4) ?_ (w.heap.size + 1) ?_ (z := _) (T := 30) B4 Try.underlying30 ?_ ?_ ?_); rfl; rfl; rfl; rfl; kernel_rfl)
    | fail)
  have BS := HBS.out
  have xx := xx.trans HXS.out
  clear HBS HXS R7 N7 B4
  generalize w3.alloc (.cells #[.int .i64 s0, .int .i64 s1, .int .i64 s2, .int .i64 s3, .int .i64 r0, .int .i64 r1, .int .i64 r2, .int .i64 r3] 30) = wa0 at *
  generalize w3.heap.size = gs at *
  refine wp_loop_rounds 3 ?_
  have RR0 := BS.mid 0 [.int .i64 s0, .int .i64 s1, .int .i64 s2, .int .i64 s3] rfl
  rw [rounds_succ]
  have N9 := (Blk.new wa0 #[.int .i64 0, .int .i64 0, .int .i64 0, .int .i64 0] 30).setRow #[.int .i64 s0, .int .i64 s1, .int .i64 s2, .int .i64 s3]
  have y9 : Ext wa0 ((wa0.alloc (.cells #[.int .i64 0, .int .i64 0, .int .i64 0, .int .i64 0] 30)).setRow wa0.heap.size #[.int .i64 s0, .int .i64 s1, .int .i64 s2, .int .i64 s3]) := ((Ext.refl _).alloc _ _).setRow (Nat.le_refl _) _
  go_upto_region 7 with (first
    | (refine wpList_load_mid (op := ⟨some 25, _, _, _, _, _⟩) rfl 30 (.tmp 24) rfl gs 0 rfl [.int .i64 s0, .int .i64 s1, .int .i64 s2, .int .i64 s3] _ RR0 Try.underlying30 rfl (by kernel_rfl) ?_)
    | ((with_reducible refine wpList_store_blk (op := ⟨none, .store 30 (.tmp 9) (.tmp 25), _, _, _, _⟩) ?_ 30 (.tmp 9) (.tmp 25) ?_ (wa0.heap.size) ?_ (cs := #[.int .i64 s0, .int .i64 s1, .int .i64 s2, .int .i64 s3]) ?_ (z := #[.int .i64 0, .int .i64 0, .int .i64 0, .int .i64 0]) (T := 30) ?_ ?_ ?_ ?_ ?_); rfl; rfl; rfl; rfl; exact Blk.new wa0 _ _; kernel_rfl; kernel_rfl; kernel_rfl)
    | fail)
  simp only [Act.put]
  have BS := BS.ext y9
  have xx := xx.trans y9
  clear y9
  generalize (wa0.alloc (.cells #[.int .i64 0, .int .i64 0, .int .i64 0, .int .i64 0] 30)).setRow wa0.heap.size #[.int .i64 s0, .int .i64 s1, .int .i64 s2, .int .i64 s3] = wb0 at *
  generalize wa0.heap.size = g9_0 at *
  have B9 := N9
  clear N9
  go_wp2_with (first
    | ((with_reducible refine wpList_load_blk (op := ⟨some 26, _, _, _, _, _⟩) ?_ 30 (.tmp 9) ?_ (g9_0) ?_ (z := _) (T := 30) B9 Try.underlying30 ?_ ?_ ?_); rfl; rfl; rfl; rfl; kernel_rfl)
    | fail)
  refine (HW0.out _).mono ?_
  rintro e wc0 ⟨rfl, xc⟩
  have xx := xx.trans xc
  have BS := BS.ext xc
  have B9 := B9.ext xc
  clear xc
  have N10 := (Blk.new wc0 #[.int .i64 0, .int .i64 0, .int .i64 0, .int .i64 0] 30).setRow #[.int .i64 m0, .int .i64 m1, .int .i64 m2, .int .i64 m3]
  have y10 : Ext wc0 ((wc0.alloc (.cells #[.int .i64 0, .int .i64 0, .int .i64 0, .int .i64 0] 30)).setRow wc0.heap.size #[.int .i64 m0, .int .i64 m1, .int .i64 m2, .int .i64 m3]) := ((Ext.refl _).alloc _ _).setRow (Nat.le_refl _) _
  go_upto_region 8 with (first
    | fail
    | ((with_reducible refine wpList_store_blk (op := ⟨none, .store 30 (.tmp 10) (.tmp 27), _, _, _, _⟩) ?_ 30 (.tmp 10) (.tmp 27) ?_ (wc0.heap.size) ?_ (cs := #[.int .i64 m0, .int .i64 m1, .int .i64 m2, .int .i64 m3]) ?_ (z := #[.int .i64 0, .int .i64 0, .int .i64 0, .int .i64 0]) (T := 30) ?_ ?_ ?_ ?_ ?_); rfl; rfl; rfl; rfl; exact Blk.new wc0 _ _; kernel_rfl; kernel_rfl; kernel_rfl)
    | fail)
  simp only [Act.put]
  have BS := BS.ext y10
  have B9 := B9.ext y10
  have xx := xx.trans y10
  clear y10
  generalize (wc0.alloc (.cells #[.int .i64 0, .int .i64 0, .int .i64 0, .int .i64 0] 30)).setRow wc0.heap.size #[.int .i64 m0, .int .i64 m1, .int .i64 m2, .int .i64 m3] = wd0 at *
  generalize wc0.heap.size = g10_0 at *
  have B10 := N10
  clear N10
  have N11 := (Blk.new wd0 #[.int .i64 0, .int .i64 0, .int .i64 0, .int .i64 0, .int .i64 0, .int .i64 0, .int .i64 0, .int .i64 0] 32).setRow #[.int .i64 s0, .int .i64 s1, .int .i64 s2, .int .i64 s3, .int .i64 0, .int .i64 0, .int .i64 0, .int .i64 0]
  have y11 : Ext wd0 ((wd0.alloc (.cells #[.int .i64 0, .int .i64 0, .int .i64 0, .int .i64 0, .int .i64 0, .int .i64 0, .int .i64 0, .int .i64 0] 32)).setRow wd0.heap.size #[.int .i64 s0, .int .i64 s1, .int .i64 s2, .int .i64 s3, .int .i64 0, .int .i64 0, .int .i64 0, .int .i64 0]) := ((Ext.refl _).alloc _ _).setRow (Nat.le_refl _) _
  go_upto_region 9 with (first
    | ((with_reducible refine wpList_load_blk (op := ⟨some 28, _, _, _, _, _⟩) ?_ 30 (.tmp 9) ?_ (g9_0) ?_ (z := _) (T := 30) B9 Try.underlying30 ?_ ?_ ?_); rfl; rfl; rfl; rfl; kernel_rfl)
    | ((with_reducible refine wpList_store_blk (op := ⟨none, .store 32 (.tmp 11) (.tmp 29), _, _, _, _⟩) ?_ 32 (.tmp 11) (.tmp 29) ?_ (wd0.heap.size) ?_ (cs := #[.int .i64 s0, .int .i64 s1, .int .i64 s2, .int .i64 s3, .int .i64 0, .int .i64 0, .int .i64 0, .int .i64 0]) ?_ (z := #[.int .i64 0, .int .i64 0, .int .i64 0, .int .i64 0, .int .i64 0, .int .i64 0, .int .i64 0, .int .i64 0]) (T := 32) ?_ ?_ ?_ ?_ ?_); rfl; rfl; rfl; rfl; exact Blk.new wd0 _ _; kernel_rfl; kernel_rfl; kernel_rfl)
    | fail)
  simp only [Act.put]
  have BS := BS.ext y11
  have B9 := B9.ext y11
  have B10 := B10.ext y11
  have xx := xx.trans y11
  clear y11
  generalize (wd0.alloc (.cells #[.int .i64 0, .int .i64 0, .int .i64 0, .int .i64 0, .int .i64 0, .int .i64 0, .int .i64 0, .int .i64 0] 32)).setRow wd0.heap.size #[.int .i64 s0, .int .i64 s1, .int .i64 s2, .int .i64 s3, .int .i64 0, .int .i64 0, .int .i64 0, .int .i64 0] = we0 at *
  generalize wd0.heap.size = g11_0 at *
  have B11 := N11
  clear N11 B9
  go_wp2_with fail
  go_loopg [30] 7 (fun n0 kv wx => ∃ (k : Nat), k + n0 = 7 ∧ kv = .int .i64 k ∧ Ext we0 wx)
  case atStart => exact ⟨0, by omega, by simp, Ext.refl _⟩
  case round =>
    generalize wr = wy0 at *
    obtain ⟨k, hk, rfl, E⟩ := hrel
    have B10 := B10.ext E
    have B11 := B11.ext E
    by_cases hk7 : k < 7
    · have hkI : (k : Int) < 7 := by omega
      have hA := fun u => HA0.out k u hk7
      have hB := fun u => HB0.out k u hk7
      generalize f0 k = s at *
      have HA := Lib.hid hA
      have HB := Lib.hid hB
      clear hA hB
      go_upto_region 12 with fail
      apply wp_region_reads2 _ (by kernel_rfl) (by kernel_rfl)
      case H =>
        intro y0 hy0
        have hne : Nonempty (Wx y0) := ⟨⟨y0, Ext.refl y0⟩⟩
        have q3 := fun (t : Wx y0) => (B10.ext (hy0.trans t.ext)).cell
        have q4 := fun (t : Wx y0) => (B11.ext (hy0.trans t.ext)).cell
        repeat (go_big_quiet_step (first | (go_at_call 15; with_reducible exact calm_of (HA.out _)) | (go_at_call 16; with_reducible exact calm_of (HB.out _))))
        exact wpQuiet_nil rfl
      intro w7 x7
      have E7 := E.trans x7
      go_wp2
      go_roundg (gk - 1)
      case measure => omega
      case rel => exact ⟨k + 1, by omega, by simp, E7⟩
    · have hkI : ¬ (k : Int) < 7 := by omega
      have xx := xx.trans E
      have BS := BS.ext E
      have c11 := B11.cell
      have HBS := Lib.hid BS
      clear E BS
      go_wp2_with fail
      refine (HZ0.out _).mono ?_
      rintro e wa1 ⟨rfl, x8⟩
      have xx := xx.trans x8
      have BS := HBS.out.ext x8
      clear HBS x8 c11 B10 B11
      go_wp2_with fail
      have RR1 := BS.mid 4 [.int .i64 r0, .int .i64 r1, .int .i64 r2, .int .i64 r3] rfl
      rw [rounds_succ]
      have N9 := (Blk.new wa1 #[.int .i64 0, .int .i64 0, .int .i64 0, .int .i64 0] 30).setRow #[.int .i64 r0, .int .i64 r1, .int .i64 r2, .int .i64 r3]
      have y9 : Ext wa1 ((wa1.alloc (.cells #[.int .i64 0, .int .i64 0, .int .i64 0, .int .i64 0] 30)).setRow wa1.heap.size #[.int .i64 r0, .int .i64 r1, .int .i64 r2, .int .i64 r3]) := ((Ext.refl _).alloc _ _).setRow (Nat.le_refl _) _
      go_upto_region 7 with (first
        | (refine wpList_load_mid (op := ⟨some 25, _, _, _, _, _⟩) rfl 30 (.tmp 24) rfl gs 4 rfl [.int .i64 r0, .int .i64 r1, .int .i64 r2, .int .i64 r3] _ RR1 Try.underlying30 rfl (by kernel_rfl) ?_)
        | ((with_reducible refine wpList_store_blk (op := ⟨none, .store 30 (.tmp 9) (.tmp 25), _, _, _, _⟩) ?_ 30 (.tmp 9) (.tmp 25) ?_ (wa1.heap.size) ?_ (cs := #[.int .i64 r0, .int .i64 r1, .int .i64 r2, .int .i64 r3]) ?_ (z := #[.int .i64 0, .int .i64 0, .int .i64 0, .int .i64 0]) (T := 30) ?_ ?_ ?_ ?_ ?_); rfl; rfl; rfl; rfl; exact Blk.new wa1 _ _; kernel_rfl; kernel_rfl; kernel_rfl)
        | fail)
      simp only [Act.put]
      have BS := BS.ext y9
      have xx := xx.trans y9
      clear y9
      generalize (wa1.alloc (.cells #[.int .i64 0, .int .i64 0, .int .i64 0, .int .i64 0] 30)).setRow wa1.heap.size #[.int .i64 r0, .int .i64 r1, .int .i64 r2, .int .i64 r3] = wb1 at *
      generalize wa1.heap.size = g9_1 at *
      have B9 := N9
      clear N9
      go_wp2_with (first
        | ((with_reducible refine wpList_load_blk (op := ⟨some 26, _, _, _, _, _⟩) ?_ 30 (.tmp 9) ?_ (g9_1) ?_ (z := _) (T := 30) B9 Try.underlying30 ?_ ?_ ?_); rfl; rfl; rfl; rfl; kernel_rfl)
        | fail)
      refine (HW1.out _).mono ?_
      rintro e wc1 ⟨rfl, xc⟩
      have xx := xx.trans xc
      have BS := BS.ext xc
      have B9 := B9.ext xc
      clear xc
      have N10 := (Blk.new wc1 #[.int .i64 0, .int .i64 0, .int .i64 0, .int .i64 0] 30).setRow #[.int .i64 n0, .int .i64 n1, .int .i64 n2, .int .i64 n3]
      have y10 : Ext wc1 ((wc1.alloc (.cells #[.int .i64 0, .int .i64 0, .int .i64 0, .int .i64 0] 30)).setRow wc1.heap.size #[.int .i64 n0, .int .i64 n1, .int .i64 n2, .int .i64 n3]) := ((Ext.refl _).alloc _ _).setRow (Nat.le_refl _) _
      go_upto_region 8 with (first
        | fail
        | ((with_reducible refine wpList_store_blk (op := ⟨none, .store 30 (.tmp 10) (.tmp 27), _, _, _, _⟩) ?_ 30 (.tmp 10) (.tmp 27) ?_ (wc1.heap.size) ?_ (cs := #[.int .i64 n0, .int .i64 n1, .int .i64 n2, .int .i64 n3]) ?_ (z := #[.int .i64 0, .int .i64 0, .int .i64 0, .int .i64 0]) (T := 30) ?_ ?_ ?_ ?_ ?_); rfl; rfl; rfl; rfl; exact Blk.new wc1 _ _; kernel_rfl; kernel_rfl; kernel_rfl)
        | fail)
      simp only [Act.put]
      have BS := BS.ext y10
      have B9 := B9.ext y10
      have xx := xx.trans y10
      clear y10
      generalize (wc1.alloc (.cells #[.int .i64 0, .int .i64 0, .int .i64 0, .int .i64 0] 30)).setRow wc1.heap.size #[.int .i64 n0, .int .i64 n1, .int .i64 n2, .int .i64 n3] = wd1 at *
      generalize wc1.heap.size = g10_1 at *
      have B10 := N10
      clear N10
      have N11 := (Blk.new wd1 #[.int .i64 0, .int .i64 0, .int .i64 0, .int .i64 0, .int .i64 0, .int .i64 0, .int .i64 0, .int .i64 0] 32).setRow #[.int .i64 r0, .int .i64 r1, .int .i64 r2, .int .i64 r3, .int .i64 0, .int .i64 0, .int .i64 0, .int .i64 0]
      have y11 : Ext wd1 ((wd1.alloc (.cells #[.int .i64 0, .int .i64 0, .int .i64 0, .int .i64 0, .int .i64 0, .int .i64 0, .int .i64 0, .int .i64 0] 32)).setRow wd1.heap.size #[.int .i64 r0, .int .i64 r1, .int .i64 r2, .int .i64 r3, .int .i64 0, .int .i64 0, .int .i64 0, .int .i64 0]) := ((Ext.refl _).alloc _ _).setRow (Nat.le_refl _) _
      go_upto_region 9 with (first
        | ((with_reducible refine wpList_load_blk (op := ⟨some 28, _, _, _, _, _⟩) ?_ 30 (.tmp 9) ?_ (g9_1) ?_ (z := _) (T := 30) B9 Try.underlying30 ?_ ?_ ?_); rfl; rfl; rfl; rfl; kernel_rfl)
        | ((with_reducible refine wpList_store_blk (op := ⟨none, .store 32 (.tmp 11) (.tmp 29), _, _, _, _⟩) ?_ 32 (.tmp 11) (.tmp 29) ?_ (wd1.heap.size) ?_ (cs := #[.int .i64 r0, .int .i64 r1, .int .i64 r2, .int .i64 r3, .int .i64 0, .int .i64 0, .int .i64 0, .int .i64 0]) ?_ (z := #[.int .i64 0, .int .i64 0, .int .i64 0, .int .i64 0, .int .i64 0, .int .i64 0, .int .i64 0, .int .i64 0]) (T := 32) ?_ ?_ ?_ ?_ ?_); rfl; rfl; rfl; rfl; exact Blk.new wd1 _ _; kernel_rfl; kernel_rfl; kernel_rfl)
        | fail)
      simp only [Act.put]
      have BS := BS.ext y11
      have B9 := B9.ext y11
      have B10 := B10.ext y11
      have xx := xx.trans y11
      clear y11
      generalize (wd1.alloc (.cells #[.int .i64 0, .int .i64 0, .int .i64 0, .int .i64 0, .int .i64 0, .int .i64 0, .int .i64 0, .int .i64 0] 32)).setRow wd1.heap.size #[.int .i64 r0, .int .i64 r1, .int .i64 r2, .int .i64 r3, .int .i64 0, .int .i64 0, .int .i64 0, .int .i64 0] = we1 at *
      generalize wd1.heap.size = g11_1 at *
      have B11 := N11
      clear N11 B9
      go_wp2_with fail
      go_loopg [30] 7 (fun n0 kv wx => ∃ (k : Nat), k + n0 = 7 ∧ kv = .int .i64 k ∧ Ext we1 wx)
      case atStart => exact ⟨0, by omega, by simp, Ext.refl _⟩
      case round =>
        generalize wr = wy1 at *
        obtain ⟨k, hk, rfl, E⟩ := hrel
        have B10 := B10.ext E
        have B11 := B11.ext E
        by_cases hk7 : k < 7
        · have hkI : (k : Int) < 7 := by omega
          have hA := fun u => HA1.out k u hk7
          have hB := fun u => HB1.out k u hk7
          generalize f1 k = s at *
          have HA := Lib.hid hA
          have HB := Lib.hid hB
          clear hA hB
          go_upto_region 12 with fail
          apply wp_region_reads2 _ (by kernel_rfl) (by kernel_rfl)
          case H =>
            intro y0 hy0
            have hne : Nonempty (Wx y0) := ⟨⟨y0, Ext.refl y0⟩⟩
            have q3 := fun (t : Wx y0) => (B10.ext (hy0.trans t.ext)).cell
            have q4 := fun (t : Wx y0) => (B11.ext (hy0.trans t.ext)).cell
            repeat (go_big_quiet_step (first | (go_at_call 15; with_reducible exact calm_of (HA.out _)) | (go_at_call 16; with_reducible exact calm_of (HB.out _))))
            exact wpQuiet_nil rfl
          intro w7 x7
          have E7 := E.trans x7
          go_wp2
          go_roundg (gk - 1)
          case measure => omega
          case rel => exact ⟨k + 1, by omega, by simp, E7⟩
        · have hkI : ¬ (k : Int) < 7 := by omega
          have xx := xx.trans E
          have BS := BS.ext E
          have c11 := B11.cell
          have HBS := Lib.hid BS
          clear E BS
          go_wp2_with fail
          refine (HZ1.out _).mono ?_
          rintro e wa2 ⟨rfl, x8⟩
          have xx := xx.trans x8
          have BS := HBS.out.ext x8
          clear HBS x8 c11 B10 B11
          go_wp2_with fail
          rw [rounds_succ]
          go_wp2
          go_ret
          exact ⟨rfl, xx⟩
set_option maxRecDepth 100000 in
set_option maxHeartbeats 4000000 in
theorem linside_2 (xa_x xa_y xa_z xa_w xa_r xa_g xa_b xa_a : Int) (xa_f : Bool) (s0 s1 s2 s3 s4 s5 s6 s7 r0 r1 r2 r3 m0 m1 m2 m3 n0 n1 n2 n3 pl : Int) (f0 f1 : Nat → Int) (hV : ∀ u, Calls Try.prog 13 #[.agg #[.int .i16 xa_x, .int .i16 xa_y, .int .i16 xa_z, .int .i16 xa_w, .int .u8 xa_r, .int .u8 xa_g, .int .u8 xa_b, .int .u8 xa_a, .bool xa_f]] u fun e w' => e = .returned (.agg #[.int .i64 s0, .int .i64 s1, .int .i64 s2, .int .i64 s3, .int .i64 s4, .int .i64 s5, .int .i64 s6, .int .i64 s7]) ∧ Ext u w')
    (hW0 : ∀ u, Calls Try.prog 14 #[.agg #[.int .i64 s0, .int .i64 s1, .int .i64 s2, .int .i64 s3], .int .i64 4194304] u fun e w' => e = .returned (.agg #[.int .i64 m0, .int .i64 m1, .int .i64 m2, .int .i64 m3]) ∧ Ext u w') (hA0 : ∀ (k : Nat) u, k < 7 → Calls Try.prog 15 #[.agg #[.int .i64 s0, .int .i64 s1, .int .i64 s2, .int .i64 s3, .int .i64 0, .int .i64 0, .int .i64 0, .int .i64 0], .int .i64 (k : Int)] u fun e w' => e = .returned (.int .i64 (f0 k)) ∧ Ext u w') (hB0 : ∀ (k : Nat) u, k < 7 → Calls Try.prog 16 #[.agg #[.int .i64 m0, .int .i64 m1, .int .i64 m2, .int .i64 m3, .int .i64 0, .int .i64 0, .int .i64 0, .int .i64 0], .int .i64 (k : Int)] u fun e w' => e = .returned (.int .i64 (f0 k)) ∧ Ext u w') (hZ0 : (pl < 0 ∨ 6 < pl) → ∀ u, Calls Try.prog 15 #[.agg #[.int .i64 s0, .int .i64 s1, .int .i64 s2, .int .i64 s3, .int .i64 0, .int .i64 0, .int .i64 0, .int .i64 0], .int .i64 pl] u fun e w' => e = .returned (.int .i64 0) ∧ Ext u w')
    (hW1 : ∀ u, Calls Try.prog 14 #[.agg #[.int .i64 r0, .int .i64 r1, .int .i64 r2, .int .i64 r3], .int .i64 4194304] u fun e w' => e = .returned (.agg #[.int .i64 n0, .int .i64 n1, .int .i64 n2, .int .i64 n3]) ∧ Ext u w') (hA1 : ∀ (k : Nat) u, k < 7 → Calls Try.prog 15 #[.agg #[.int .i64 r0, .int .i64 r1, .int .i64 r2, .int .i64 r3, .int .i64 0, .int .i64 0, .int .i64 0, .int .i64 0], .int .i64 (k : Int)] u fun e w' => e = .returned (.int .i64 (f1 k)) ∧ Ext u w') (hB1 : ∀ (k : Nat) u, k < 7 → Calls Try.prog 16 #[.agg #[.int .i64 n0, .int .i64 n1, .int .i64 n2, .int .i64 n3, .int .i64 0, .int .i64 0, .int .i64 0, .int .i64 0], .int .i64 (k : Int)] u fun e w' => e = .returned (.int .i64 (f1 k)) ∧ Ext u w') (hZ1 : (pl < 0 ∨ 6 < pl) → ∀ u, Calls Try.prog 15 #[.agg #[.int .i64 r0, .int .i64 r1, .int .i64 r2, .int .i64 r3, .int .i64 0, .int .i64 0, .int .i64 0, .int .i64 0], .int .i64 pl] u fun e w' => e = .returned (.int .i64 0) ∧ Ext u w') (h1 : ¬ pl < 0) (h2 : ¬ 6 < pl) (w : World) : Calls Try.prog 4 #[.agg #[.int .i16 xa_x, .int .i16 xa_y, .int .i16 xa_z, .int .i16 xa_w, .int .u8 xa_r, .int .u8 xa_g, .int .u8 xa_b, .int .u8 xa_a, .bool xa_f], .agg #[.int .i64 r0, .int .i64 r1, .int .i64 r2, .int .i64 r3], .int .i64 pl] w fun e w' => e = .returned (.bool true) ∧ Ext w w' := by
  have HV := Lib.hid hV
  have HW0 := Lib.hid hW0
  have HW1 := Lib.hid hW1
  have HA0 := Lib.hid hA0
  have HA1 := Lib.hid hA1
  have HB0 := Lib.hid hB0
  have HB1 := Lib.hid hB1
  clear hV hW0 hW1 hA0 hA1 hB0 hB1 hZ0 hZ1
  have xx : Ext w ((w.alloc (.cells #[.int .i16 xa_x, .int .i16 xa_y, .int .i16 xa_z, .int .i16 xa_w, .int .u8 xa_r, .int .u8 xa_g, .int .u8 xa_b, .int .u8 xa_a, .bool xa_f] 25)).alloc (.cells #[.int .i64 r0, .int .i64 r1, .int .i64 r2, .int .i64 r3] 30)) := ((Ext.refl w).alloc _ _).alloc _ _
  have B3 := (Blk.new w #[.int .i16 xa_x, .int .i16 xa_y, .int .i16 xa_z, .int .i16 xa_w, .int .u8 xa_r, .int .u8 xa_g, .int .u8 xa_b, .int .u8 xa_a, .bool xa_f] 25).alloc (.cells #[.int .i64 r0, .int .i64 r1, .int .i64 r2, .int .i64 r3] 30)
  have B4 := Blk.new (w.alloc (.cells #[.int .i16 xa_x, .int .i16 xa_y, .int .i16 xa_z, .int .i16 xa_w, .int .u8 xa_r, .int .u8 xa_g, .int .u8 xa_b, .int .u8 xa_a, .bool xa_f] 25)) #[.int .i64 r0, .int .i64 r1, .int .i64 r2, .int .i64 r3] 30
  go_enter Try.func4, Try.ntmps4
  go_upto_region 1 with fail
  simp only [World.size_alloc] at B4
  generalize ((w.alloc (.cells #[.int .i16 xa_x, .int .i16 xa_y, .int .i16 xa_z, .int .i16 xa_w, .int .u8 xa_r, .int .u8 xa_g, .int .u8 xa_b, .int .u8 xa_a, .bool xa_f] 25)).alloc (.cells #[.int .i64 r0, .int .i64 r1, .int .i64 r2, .int .i64 r3] 30)) = w0 at *
  go_wp2_with fail
  refine (awake12_any _).mono ?_
  rintro e w1 ⟨rfl, x1⟩
  have xx := xx.trans x1
  have B3 := B3.ext x1
  have B4 := B4.ext x1
  clear x1
  go_wp2_with (first
    | ((with_reducible refine wpList_load_blk (op := ⟨some 15, _, _, _, _, _⟩) ?_ 25 (.tmp 3) ?_ (w.heap.size) ?_ (z := _) (T := 25) B3 Try.underlying25 ?_ ?_ ?_); rfl; rfl; rfl; rfl; kernel_rfl)
    | fail)
  refine (HV.out _).mono ?_
  rintro e w2 ⟨rfl, x2⟩
  have xx := xx.trans x2
  have B4 := B4.ext x2
  clear B3 x2 HV
  have N7 := (Blk.new w2 #[.int .i64 0, .int .i64 0, .int .i64 0, .int .i64 0, .int .i64 0, .int .i64 0, .int .i64 0, .int .i64 0] 43).setRow #[.int .i64 s0, .int .i64 s1, .int .i64 s2, .int .i64 s3, .int .i64 s4, .int .i64 s5, .int .i64 s6, .int .i64 s7]
  have y7 : Ext w2 ((w2.alloc (.cells #[.int .i64 0, .int .i64 0, .int .i64 0, .int .i64 0, .int .i64 0, .int .i64 0, .int .i64 0, .int .i64 0] 43)).setRow w2.heap.size #[.int .i64 s0, .int .i64 s1, .int .i64 s2, .int .i64 s3, .int .i64 s4, .int .i64 s5, .int .i64 s6, .int .i64 s7]) := ((Ext.refl _).alloc _ _).setRow (Nat.le_refl _) _
  go_upto_region 4 with (first
    | fail
    | ((with_reducible refine wpList_store_blk (op := ⟨none, .store 43 (.tmp 7) (.tmp 16), _, _, _, _⟩) ?_ 43 (.tmp 7) (.tmp 16) ?_ (w2.heap.size) ?_ (cs := #[.int .i64 s0, .int .i64 s1, .int .i64 s2, .int .i64 s3, .int .i64 s4, .int .i64 s5, .int .i64 s6, .int .i64 s7]) ?_ (z := #[.int .i64 0, .int .i64 0, .int .i64 0, .int .i64 0, .int .i64 0, .int .i64 0, .int .i64 0, .int .i64 0]) (T := 43) ?_ ?_ ?_ ?_ ?_); rfl; rfl; rfl; rfl; exact Blk.new w2 _ _; kernel_rfl; kernel_rfl; kernel_rfl)
    | fail)
  simp only [Act.put]
  have B4 := B4.ext y7
  have xx := xx.trans y7
  clear y7
  generalize (w2.alloc (.cells #[.int .i64 0, .int .i64 0, .int .i64 0, .int .i64 0, .int .i64 0, .int .i64 0, .int .i64 0, .int .i64 0] 43)).setRow w2.heap.size #[.int .i64 s0, .int .i64 s1, .int .i64 s2, .int .i64 s3, .int .i64 s4, .int .i64 s5, .int .i64 s6, .int .i64 s7] = w3 at *
  generalize w2.heap.size = g7 at *
  have R7 := N7.mid 0 [.int .i64 s0, .int .i64 s1, .int .i64 s2, .int .i64 s3] rfl
  have BS : Blk (w3.alloc (.cells #[.int .i64 s0, .int .i64 s1, .int .i64 s2, .int .i64 s3, .int .i64 r0, .int .i64 r1, .int .i64 r2, .int .i64 r3] 30)) w3.heap.size #[.int .i64 s0, .int .i64 s1, .int .i64 s2, .int .i64 s3, .int .i64 r0, .int .i64 r1, .int .i64 r2, .int .i64 r3] 30 := Blk.new _ _ _
  have xs : Ext w3 (w3.alloc (.cells #[.int .i64 s0, .int .i64 s1, .int .i64 s2, .int .i64 s3, .int .i64 r0, .int .i64 r1, .int .i64 r2, .int .i64 r3] 30)) := (Ext.refl _).alloc _ _
  have HBS := Lib.hid BS
  have HXS := Lib.hid xs
  clear BS xs
  go_wp2_with (first
    | (refine wpList_load_mid (op := ⟨some 18, _, _, _, _, _⟩) rfl 30 (.tmp 17) rfl g7 0 rfl [.int .i64 s0, .int .i64 s1, .int .i64 s2, .int .i64 s3] _ R7 Try.underlying30 rfl (by kernel_rfl) ?_)
    | ((with_reducible refine wpList_load_blk (op := ⟨some 19, _, _, _, _, _⟩) ?_ 30 (.tmp 4) ?_ (w.heap.size + 1) ?_ (z := _) (T := 30) B4 Try.underlying30 ?_ ?_ ?_); rfl; rfl; rfl; rfl; kernel_rfl)
    | fail)
  have BS := HBS.out
  have xx := xx.trans HXS.out
  clear HBS HXS R7 N7 B4
  generalize w3.alloc (.cells #[.int .i64 s0, .int .i64 s1, .int .i64 s2, .int .i64 s3, .int .i64 r0, .int .i64 r1, .int .i64 r2, .int .i64 r3] 30) = wa0 at *
  generalize w3.heap.size = gs at *
  refine wp_loop_rounds 3 ?_
  have RR0 := BS.mid 0 [.int .i64 s0, .int .i64 s1, .int .i64 s2, .int .i64 s3] rfl
  rw [rounds_succ]
  have N9 := (Blk.new wa0 #[.int .i64 0, .int .i64 0, .int .i64 0, .int .i64 0] 30).setRow #[.int .i64 s0, .int .i64 s1, .int .i64 s2, .int .i64 s3]
  have y9 : Ext wa0 ((wa0.alloc (.cells #[.int .i64 0, .int .i64 0, .int .i64 0, .int .i64 0] 30)).setRow wa0.heap.size #[.int .i64 s0, .int .i64 s1, .int .i64 s2, .int .i64 s3]) := ((Ext.refl _).alloc _ _).setRow (Nat.le_refl _) _
  go_upto_region 7 with (first
    | (refine wpList_load_mid (op := ⟨some 25, _, _, _, _, _⟩) rfl 30 (.tmp 24) rfl gs 0 rfl [.int .i64 s0, .int .i64 s1, .int .i64 s2, .int .i64 s3] _ RR0 Try.underlying30 rfl (by kernel_rfl) ?_)
    | ((with_reducible refine wpList_store_blk (op := ⟨none, .store 30 (.tmp 9) (.tmp 25), _, _, _, _⟩) ?_ 30 (.tmp 9) (.tmp 25) ?_ (wa0.heap.size) ?_ (cs := #[.int .i64 s0, .int .i64 s1, .int .i64 s2, .int .i64 s3]) ?_ (z := #[.int .i64 0, .int .i64 0, .int .i64 0, .int .i64 0]) (T := 30) ?_ ?_ ?_ ?_ ?_); rfl; rfl; rfl; rfl; exact Blk.new wa0 _ _; kernel_rfl; kernel_rfl; kernel_rfl)
    | fail)
  simp only [Act.put]
  have BS := BS.ext y9
  have xx := xx.trans y9
  clear y9
  generalize (wa0.alloc (.cells #[.int .i64 0, .int .i64 0, .int .i64 0, .int .i64 0] 30)).setRow wa0.heap.size #[.int .i64 s0, .int .i64 s1, .int .i64 s2, .int .i64 s3] = wb0 at *
  generalize wa0.heap.size = g9_0 at *
  have B9 := N9
  clear N9
  go_wp2_with (first
    | ((with_reducible refine wpList_load_blk (op := ⟨some 26, _, _, _, _, _⟩) ?_ 30 (.tmp 9) ?_ (g9_0) ?_ (z := _) (T := 30) B9 Try.underlying30 ?_ ?_ ?_); rfl; rfl; rfl; rfl; kernel_rfl)
    | fail)
  refine (HW0.out _).mono ?_
  rintro e wc0 ⟨rfl, xc⟩
  have xx := xx.trans xc
  have BS := BS.ext xc
  have B9 := B9.ext xc
  clear xc
  have N10 := (Blk.new wc0 #[.int .i64 0, .int .i64 0, .int .i64 0, .int .i64 0] 30).setRow #[.int .i64 m0, .int .i64 m1, .int .i64 m2, .int .i64 m3]
  have y10 : Ext wc0 ((wc0.alloc (.cells #[.int .i64 0, .int .i64 0, .int .i64 0, .int .i64 0] 30)).setRow wc0.heap.size #[.int .i64 m0, .int .i64 m1, .int .i64 m2, .int .i64 m3]) := ((Ext.refl _).alloc _ _).setRow (Nat.le_refl _) _
  go_upto_region 8 with (first
    | fail
    | ((with_reducible refine wpList_store_blk (op := ⟨none, .store 30 (.tmp 10) (.tmp 27), _, _, _, _⟩) ?_ 30 (.tmp 10) (.tmp 27) ?_ (wc0.heap.size) ?_ (cs := #[.int .i64 m0, .int .i64 m1, .int .i64 m2, .int .i64 m3]) ?_ (z := #[.int .i64 0, .int .i64 0, .int .i64 0, .int .i64 0]) (T := 30) ?_ ?_ ?_ ?_ ?_); rfl; rfl; rfl; rfl; exact Blk.new wc0 _ _; kernel_rfl; kernel_rfl; kernel_rfl)
    | fail)
  simp only [Act.put]
  have BS := BS.ext y10
  have B9 := B9.ext y10
  have xx := xx.trans y10
  clear y10
  generalize (wc0.alloc (.cells #[.int .i64 0, .int .i64 0, .int .i64 0, .int .i64 0] 30)).setRow wc0.heap.size #[.int .i64 m0, .int .i64 m1, .int .i64 m2, .int .i64 m3] = wd0 at *
  generalize wc0.heap.size = g10_0 at *
  have B10 := N10
  clear N10
  have N11 := (Blk.new wd0 #[.int .i64 0, .int .i64 0, .int .i64 0, .int .i64 0, .int .i64 0, .int .i64 0, .int .i64 0, .int .i64 0] 32).setRow #[.int .i64 s0, .int .i64 s1, .int .i64 s2, .int .i64 s3, .int .i64 0, .int .i64 0, .int .i64 0, .int .i64 0]
  have y11 : Ext wd0 ((wd0.alloc (.cells #[.int .i64 0, .int .i64 0, .int .i64 0, .int .i64 0, .int .i64 0, .int .i64 0, .int .i64 0, .int .i64 0] 32)).setRow wd0.heap.size #[.int .i64 s0, .int .i64 s1, .int .i64 s2, .int .i64 s3, .int .i64 0, .int .i64 0, .int .i64 0, .int .i64 0]) := ((Ext.refl _).alloc _ _).setRow (Nat.le_refl _) _
  go_upto_region 9 with (first
    | ((with_reducible refine wpList_load_blk (op := ⟨some 28, _, _, _, _, _⟩) ?_ 30 (.tmp 9) ?_ (g9_0) ?_ (z := _) (T := 30) B9 Try.underlying30 ?_ ?_ ?_); rfl; rfl; rfl; rfl; kernel_rfl)
    | ((with_reducible refine wpList_store_blk (op := ⟨none, .store 32 (.tmp 11) (.tmp 29), _, _, _, _⟩) ?_ 32 (.tmp 11) (.tmp 29) ?_ (wd0.heap.size) ?_ (cs := #[.int .i64 s0, .int .i64 s1, .int .i64 s2, .int .i64 s3, .int .i64 0, .int .i64 0, .int .i64 0, .int .i64 0]) ?_ (z := #[.int .i64 0, .int .i64 0, .int .i64 0, .int .i64 0, .int .i64 0, .int .i64 0, .int .i64 0, .int .i64 0]) (T := 32) ?_ ?_ ?_ ?_ ?_); rfl; rfl; rfl; rfl; exact Blk.new wd0 _ _; kernel_rfl; kernel_rfl; kernel_rfl)
    | fail)
  simp only [Act.put]
  have BS := BS.ext y11
  have B9 := B9.ext y11
  have B10 := B10.ext y11
  have xx := xx.trans y11
  clear y11
  generalize (wd0.alloc (.cells #[.int .i64 0, .int .i64 0, .int .i64 0, .int .i64 0, .int .i64 0, .int .i64 0, .int .i64 0, .int .i64 0] 32)).setRow wd0.heap.size #[.int .i64 s0, .int .i64 s1, .int .i64 s2, .int .i64 s3, .int .i64 0, .int .i64 0, .int .i64 0, .int .i64 0] = we0 at *
  generalize wd0.heap.size = g11_0 at *
  have B11 := N11
  clear N11 B9
  go_wp2_with fail
  go_loopg [30] 7 (fun n0 kv wx => ∃ (k : Nat), k + n0 = 7 ∧ kv = .int .i64 k ∧ Ext we0 wx)
  case atStart => exact ⟨0, by omega, by simp, Ext.refl _⟩
  case round =>
    generalize wr = wy0 at *
    obtain ⟨k, hk, rfl, E⟩ := hrel
    have B10 := B10.ext E
    have B11 := B11.ext E
    by_cases hk7 : k < 7
    · have hkI : (k : Int) < 7 := by omega
      have hA := fun u => HA0.out k u hk7
      have hB := fun u => HB0.out k u hk7
      generalize f0 k = s at *
      have HA := Lib.hid hA
      have HB := Lib.hid hB
      clear hA hB
      go_upto_region 12 with fail
      apply wp_region_reads2 _ (by kernel_rfl) (by kernel_rfl)
      case H =>
        intro y0 hy0
        have hne : Nonempty (Wx y0) := ⟨⟨y0, Ext.refl y0⟩⟩
        have q3 := fun (t : Wx y0) => (B10.ext (hy0.trans t.ext)).cell
        have q4 := fun (t : Wx y0) => (B11.ext (hy0.trans t.ext)).cell
        repeat (go_big_quiet_step (first | (go_at_call 15; with_reducible exact calm_of (HA.out _)) | (go_at_call 16; with_reducible exact calm_of (HB.out _))))
        exact wpQuiet_nil rfl
      intro w7 x7
      have E7 := E.trans x7
      go_wp2
      go_roundg (gk - 1)
      case measure => omega
      case rel => exact ⟨k + 1, by omega, by simp, E7⟩
    · have hkI : ¬ (k : Int) < 7 := by omega
      have xx := xx.trans E
      have BS := BS.ext E
      have c11 := B11.cell
      have HBS := Lib.hid BS
      clear E BS
      have BS := HBS.out
      clear HBS
      generalize wy0 = wa1 at *
      go_wp2_with fail
      have RR1 := BS.mid 4 [.int .i64 r0, .int .i64 r1, .int .i64 r2, .int .i64 r3] rfl
      rw [rounds_succ]
      have N9 := (Blk.new wa1 #[.int .i64 0, .int .i64 0, .int .i64 0, .int .i64 0] 30).setRow #[.int .i64 r0, .int .i64 r1, .int .i64 r2, .int .i64 r3]
      have y9 : Ext wa1 ((wa1.alloc (.cells #[.int .i64 0, .int .i64 0, .int .i64 0, .int .i64 0] 30)).setRow wa1.heap.size #[.int .i64 r0, .int .i64 r1, .int .i64 r2, .int .i64 r3]) := ((Ext.refl _).alloc _ _).setRow (Nat.le_refl _) _
      go_upto_region 7 with (first
        | (refine wpList_load_mid (op := ⟨some 25, _, _, _, _, _⟩) rfl 30 (.tmp 24) rfl gs 4 rfl [.int .i64 r0, .int .i64 r1, .int .i64 r2, .int .i64 r3] _ RR1 Try.underlying30 rfl (by kernel_rfl) ?_)
        | ((with_reducible refine wpList_store_blk (op := ⟨none, .store 30 (.tmp 9) (.tmp 25), _, _, _, _⟩) ?_ 30 (.tmp 9) (.tmp 25) ?_ (wa1.heap.size) ?_ (cs := #[.int .i64 r0, .int .i64 r1, .int .i64 r2, .int .i64 r3]) ?_ (z := #[.int .i64 0, .int .i64 0, .int .i64 0, .int .i64 0]) (T := 30) ?_ ?_ ?_ ?_ ?_); rfl; rfl; rfl; rfl; exact Blk.new wa1 _ _; kernel_rfl; kernel_rfl; kernel_rfl)
        | fail)
      simp only [Act.put]
      have BS := BS.ext y9
      have xx := xx.trans y9
      clear y9
      generalize (wa1.alloc (.cells #[.int .i64 0, .int .i64 0, .int .i64 0, .int .i64 0] 30)).setRow wa1.heap.size #[.int .i64 r0, .int .i64 r1, .int .i64 r2, .int .i64 r3] = wb1 at *
      generalize wa1.heap.size = g9_1 at *
      have B9 := N9
      clear N9
      go_wp2_with (first
        | ((with_reducible refine wpList_load_blk (op := ⟨some 26, _, _, _, _, _⟩) ?_ 30 (.tmp 9) ?_ (g9_1) ?_ (z := _) (T := 30) B9 Try.underlying30 ?_ ?_ ?_); rfl; rfl; rfl; rfl; kernel_rfl)
        | fail)
      refine (HW1.out _).mono ?_
      rintro e wc1 ⟨rfl, xc⟩
      have xx := xx.trans xc
      have BS := BS.ext xc
      have B9 := B9.ext xc
      clear xc
      have N10 := (Blk.new wc1 #[.int .i64 0, .int .i64 0, .int .i64 0, .int .i64 0] 30).setRow #[.int .i64 n0, .int .i64 n1, .int .i64 n2, .int .i64 n3]
      have y10 : Ext wc1 ((wc1.alloc (.cells #[.int .i64 0, .int .i64 0, .int .i64 0, .int .i64 0] 30)).setRow wc1.heap.size #[.int .i64 n0, .int .i64 n1, .int .i64 n2, .int .i64 n3]) := ((Ext.refl _).alloc _ _).setRow (Nat.le_refl _) _
      go_upto_region 8 with (first
        | fail
        | ((with_reducible refine wpList_store_blk (op := ⟨none, .store 30 (.tmp 10) (.tmp 27), _, _, _, _⟩) ?_ 30 (.tmp 10) (.tmp 27) ?_ (wc1.heap.size) ?_ (cs := #[.int .i64 n0, .int .i64 n1, .int .i64 n2, .int .i64 n3]) ?_ (z := #[.int .i64 0, .int .i64 0, .int .i64 0, .int .i64 0]) (T := 30) ?_ ?_ ?_ ?_ ?_); rfl; rfl; rfl; rfl; exact Blk.new wc1 _ _; kernel_rfl; kernel_rfl; kernel_rfl)
        | fail)
      simp only [Act.put]
      have BS := BS.ext y10
      have B9 := B9.ext y10
      have xx := xx.trans y10
      clear y10
      generalize (wc1.alloc (.cells #[.int .i64 0, .int .i64 0, .int .i64 0, .int .i64 0] 30)).setRow wc1.heap.size #[.int .i64 n0, .int .i64 n1, .int .i64 n2, .int .i64 n3] = wd1 at *
      generalize wc1.heap.size = g10_1 at *
      have B10 := N10
      clear N10
      have N11 := (Blk.new wd1 #[.int .i64 0, .int .i64 0, .int .i64 0, .int .i64 0, .int .i64 0, .int .i64 0, .int .i64 0, .int .i64 0] 32).setRow #[.int .i64 r0, .int .i64 r1, .int .i64 r2, .int .i64 r3, .int .i64 0, .int .i64 0, .int .i64 0, .int .i64 0]
      have y11 : Ext wd1 ((wd1.alloc (.cells #[.int .i64 0, .int .i64 0, .int .i64 0, .int .i64 0, .int .i64 0, .int .i64 0, .int .i64 0, .int .i64 0] 32)).setRow wd1.heap.size #[.int .i64 r0, .int .i64 r1, .int .i64 r2, .int .i64 r3, .int .i64 0, .int .i64 0, .int .i64 0, .int .i64 0]) := ((Ext.refl _).alloc _ _).setRow (Nat.le_refl _) _
      go_upto_region 9 with (first
        | ((with_reducible refine wpList_load_blk (op := ⟨some 28, _, _, _, _, _⟩) ?_ 30 (.tmp 9) ?_ (g9_1) ?_ (z := _) (T := 30) B9 Try.underlying30 ?_ ?_ ?_); rfl; rfl; rfl; rfl; kernel_rfl)
        | ((with_reducible refine wpList_store_blk (op := ⟨none, .store 32 (.tmp 11) (.tmp 29), _, _, _, _⟩) ?_ 32 (.tmp 11) (.tmp 29) ?_ (wd1.heap.size) ?_ (cs := #[.int .i64 r0, .int .i64 r1, .int .i64 r2, .int .i64 r3, .int .i64 0, .int .i64 0, .int .i64 0, .int .i64 0]) ?_ (z := #[.int .i64 0, .int .i64 0, .int .i64 0, .int .i64 0, .int .i64 0, .int .i64 0, .int .i64 0, .int .i64 0]) (T := 32) ?_ ?_ ?_ ?_ ?_); rfl; rfl; rfl; rfl; exact Blk.new wd1 _ _; kernel_rfl; kernel_rfl; kernel_rfl)
        | fail)
      simp only [Act.put]
      have BS := BS.ext y11
      have B9 := B9.ext y11
      have B10 := B10.ext y11
      have xx := xx.trans y11
      clear y11
      generalize (wd1.alloc (.cells #[.int .i64 0, .int .i64 0, .int .i64 0, .int .i64 0, .int .i64 0, .int .i64 0, .int .i64 0, .int .i64 0] 32)).setRow wd1.heap.size #[.int .i64 r0, .int .i64 r1, .int .i64 r2, .int .i64 r3, .int .i64 0, .int .i64 0, .int .i64 0, .int .i64 0] = we1 at *
      generalize wd1.heap.size = g11_1 at *
      have B11 := N11
      clear N11 B9
      go_wp2_with fail
      go_loopg [30] 7 (fun n0 kv wx => ∃ (k : Nat), k + n0 = 7 ∧ kv = .int .i64 k ∧ Ext we1 wx)
      case atStart => exact ⟨0, by omega, by simp, Ext.refl _⟩
      case round =>
        generalize wr = wy1 at *
        obtain ⟨k, hk, rfl, E⟩ := hrel
        have B10 := B10.ext E
        have B11 := B11.ext E
        by_cases hk7 : k < 7
        · have hkI : (k : Int) < 7 := by omega
          have hA := fun u => HA1.out k u hk7
          have hB := fun u => HB1.out k u hk7
          generalize f1 k = s at *
          have HA := Lib.hid hA
          have HB := Lib.hid hB
          clear hA hB
          go_upto_region 12 with fail
          apply wp_region_reads2 _ (by kernel_rfl) (by kernel_rfl)
          case H =>
            intro y0 hy0
            have hne : Nonempty (Wx y0) := ⟨⟨y0, Ext.refl y0⟩⟩
            have q3 := fun (t : Wx y0) => (B10.ext (hy0.trans t.ext)).cell
            have q4 := fun (t : Wx y0) => (B11.ext (hy0.trans t.ext)).cell
            repeat (go_big_quiet_step (first | (go_at_call 15; with_reducible exact calm_of (HA.out _)) | (go_at_call 16; with_reducible exact calm_of (HB.out _))))
            exact wpQuiet_nil rfl
          intro w7 x7
          have E7 := E.trans x7
          go_wp2
          go_roundg (gk - 1)
          case measure => omega
          case rel => exact ⟨k + 1, by omega, by simp, E7⟩
        · have hkI : ¬ (k : Int) < 7 := by omega
          have xx := xx.trans E
          have BS := BS.ext E
          have c11 := B11.cell
          have HBS := Lib.hid BS
          clear E BS
          have BS := HBS.out
          clear HBS
          generalize wy1 = wa2 at *
          go_wp2_with fail
          rw [rounds_succ]
          go_wp2
          go_ret
          exact ⟨rfl, xx⟩
end Go.Proofs.Ytjohcngmoemmbaa
