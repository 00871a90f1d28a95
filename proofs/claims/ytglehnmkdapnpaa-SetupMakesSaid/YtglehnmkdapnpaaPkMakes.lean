/-
  DERIVED. SetupMakes (made by mklaw13.py). · SetupMakes: the row (made by mklaw13.py).
-/
import Derived.Test.YtglehnmkdapnpaaPkDep
import Derived.Test.YtglehnmkdapnpaaPkEqs
import Derived.Test.YtglehnmkdapnpaaPkGs
import Derived.Test.YtglehnmkdapnpaaPkClipL
namespace Go.Proofs.Ytglehnmkdapnpaa
open Go.RowKit
set_option linter.unusedVariables false
theorem mkRT (u : World) : (Instr.alloc 42 true (.tuple #[])).run Try.prog u = .ok (.pointer (some ⟨u.heap.size, 0, none⟩)) (u.alloc (.cells #[.int .i64 0, .int .i64 0, .int .i64 0, .int .i64 0, .int .i64 0, .int .i64 0, .int .i64 0, .int .i64 0, .int .i64 0, .int .i64 0, .int .i64 0, .int .i64 0, .int .i64 0, .int .i64 0, .int .i64 0, .int .i64 0, .int .i64 0, .int .i64 0, .int .i64 0, .int .i64 0, .int .i64 0, .int .i64 0, .int .i64 0, .int .i64 0] 42)) := by
  simp [go_sem]
theorem mkST (u : World) : (Instr.alloc 55 true (.tuple #[])).run Try.prog u = .ok (.pointer (some ⟨u.heap.size, 0, none⟩)) (u.alloc (.cells #[.int .i64 0, .int .i64 0, .int .i64 0, .int .i64 0, .int .i64 0, .int .i64 0, .int .i64 0, .int .i64 0, .int .i64 0, .int .i64 0, .int .i64 0, .int .i64 0, .int .i64 0, .int .i64 0, .int .i64 0, .int .i64 0, .int .i64 0, .int .i64 0, .int .i64 0, .int .i64 0, .int .i64 0, .int .i64 0, .int .i64 0, .int .i64 0] 55)) := by
  simp [go_sem]
set_option maxRecDepth 100000 in
set_option maxHeartbeats 4000000 in
theorem makes_main (xa_x xa_y xa_z xa_w xa_r xa_g xa_b xa_a xb_x xb_y xb_z xb_w xb_r xb_g xb_b xb_a xc_x xc_y xc_z xc_w xc_r xc_g xc_b xc_a : Int) (xa_f xb_f xc_f : Bool) (a0 a1 a2 a3 a4 a5 a6 a7 b0 b1 b2 b3 b4 b5 b6 b7 c0 c1 c2 c3 c4 c5 c6 c7 ww hh kk x0 y0 X Y ck : Int) (L : List V8) (hL : L.length ≤ 16) (hx0 : ww.tmod 64 = x0) (hy0 : hh.tmod 64 = y0) (hX : 1 + x0 = X) (hY : 1 + y0 = Y) (hck : kk.tmod 3 = ck) (bx0 : 0 ≤ x0 ∧ x0 ≤ 63) (by0 : 0 ≤ y0 ∧ y0 ≤ 63) (bck : 0 ≤ ck ∧ ck ≤ 2)
    (hV : ∀ u, Calls Try.prog 10 #[.agg #[.int .i16 xa_x, .int .i16 xa_y, .int .i16 xa_z, .int .i16 xa_w, .int .u8 xa_r, .int .u8 xa_g, .int .u8 xa_b, .int .u8 xa_a, .bool xa_f, .int .i16 xb_x, .int .i16 xb_y, .int .i16 xb_z, .int .i16 xb_w, .int .u8 xb_r, .int .u8 xb_g, .int .u8 xb_b, .int .u8 xb_a, .bool xb_f, .int .i16 xc_x, .int .i16 xc_y, .int .i16 xc_z, .int .i16 xc_w, .int .u8 xc_r, .int .u8 xc_g, .int .u8 xc_b, .int .u8 xc_a, .bool xc_f]] u fun e w' => e = .returned (.agg #[.int .i64 a0, .int .i64 a1, .int .i64 a2, .int .i64 a3, .int .i64 a4, .int .i64 a5, .int .i64 a6, .int .i64 a7, .int .i64 b0, .int .i64 b1, .int .i64 b2, .int .i64 b3, .int .i64 b4, .int .i64 b5, .int .i64 b6, .int .i64 b7, .int .i64 c0, .int .i64 c1, .int .i64 c2, .int .i64 c3, .int .i64 c4, .int .i64 c5, .int .i64 c6, .int .i64 c7]) ∧ Ext u w') (hC : ∀ u, Calls Try.prog 11 #[.agg #[.int .i64 a0, .int .i64 a1, .int .i64 a2, .int .i64 a3, .int .i64 a4, .int .i64 a5, .int .i64 a6, .int .i64 a7], .agg #[.int .i64 b0, .int .i64 b1, .int .i64 b2, .int .i64 b3, .int .i64 b4, .int .i64 b5, .int .i64 b6, .int .i64 b7], .agg #[.int .i64 c0, .int .i64 c1, .int .i64 c2, .int .i64 c3, .int .i64 c4, .int .i64 c5, .int .i64 c6, .int .i64 c7]] u fun e w' => ∃ r, e = .returned r ∧ OwnG LC w' u.heap.size r L ∧ Ext u w')
    (hO : ∀ v ∈ L, ∀ u, Calls Try.prog 15 #[.agg v.l.toArray, .int .i64 X, .int .i64 Y] u fun e w' => e = .returned (.agg (ofF v X Y).l.toArray) ∧ Ext u w')
    (hRM : ∀ a ∈ L, ∀ b ∈ L, ∀ c ∈ L, ∀ u, Calls Try.prog 12 #[.agg (a.l ++ (b.l ++ c.l)).toArray, .int .i64 X, .int .i64 Y, .int .i64 ck] u fun e w' => e = .returned (mkV (makeF (ofF a X Y) (ofF b X Y) (ofF c X Y) ck)) ∧ Ext u w')
    (hMK : ∀ a ∈ L, ∀ b ∈ L, ∀ c ∈ L, ∀ u, Calls Try.prog 14 #[.agg (ofF a X Y).l.toArray, .agg (ofF b X Y).l.toArray, .agg (ofF c X Y).l.toArray, .int .u8 ck] u fun e w' => e = .returned (mkV (makeF (ofF a X Y) (ofF b X Y) (ofF c X Y) ck)) ∧ Ext u w')
    (hCK : ∀ m : Tr, chkT m = 0 → ∀ u, Calls Try.prog 17 #[.agg m.l.toArray] u fun e w' => e = .returned (.int .i64 0) ∧ Ext u w') (w : World) :
    Calls Try.prog 3 #[.agg #[.int .i16 xa_x, .int .i16 xa_y, .int .i16 xa_z, .int .i16 xa_w, .int .u8 xa_r, .int .u8 xa_g, .int .u8 xa_b, .int .u8 xa_a, .bool xa_f, .int .i16 xb_x, .int .i16 xb_y, .int .i16 xb_z, .int .i16 xb_w, .int .u8 xb_r, .int .u8 xb_g, .int .u8 xb_b, .int .u8 xb_a, .bool xb_f, .int .i16 xc_x, .int .i16 xc_y, .int .i16 xc_z, .int .i16 xc_w, .int .u8 xc_r, .int .u8 xc_g, .int .u8 xc_b, .int .u8 xc_a, .bool xc_f], .int .u8 ww, .int .u8 hh, .int .u8 kk] w fun e w' => e = .returned (.bool true) ∧ Ext w w' := by
  have HV := Lib.hid hV
  have HC := Lib.hid hC
  have HO := Lib.hid hO
  have HRM := Lib.hid hRM
  have HMK := Lib.hid hMK
  have HCK := Lib.hid hCK
  clear hV hC hO hRM hMK hCK
  have xx : Ext w (w.alloc (.cells #[.int .i16 xa_x, .int .i16 xa_y, .int .i16 xa_z, .int .i16 xa_w, .int .u8 xa_r, .int .u8 xa_g, .int .u8 xa_b, .int .u8 xa_a, .bool xa_f, .int .i16 xb_x, .int .i16 xb_y, .int .i16 xb_z, .int .i16 xb_w, .int .u8 xb_r, .int .u8 xb_g, .int .u8 xb_b, .int .u8 xb_a, .bool xb_f, .int .i16 xc_x, .int .i16 xc_y, .int .i16 xc_z, .int .i16 xc_w, .int .u8 xc_r, .int .u8 xc_g, .int .u8 xc_b, .int .u8 xc_a, .bool xc_f] 27)) := ((Ext.refl w).alloc _ _)
  have D0 := (Blk.new w #[.int .i16 xa_x, .int .i16 xa_y, .int .i16 xa_z, .int .i16 xa_w, .int .u8 xa_r, .int .u8 xa_g, .int .u8 xa_b, .int .u8 xa_a, .bool xa_f, .int .i16 xb_x, .int .i16 xb_y, .int .i16 xb_z, .int .i16 xb_w, .int .u8 xb_r, .int .u8 xb_g, .int .u8 xb_b, .int .u8 xb_a, .bool xb_f, .int .i16 xc_x, .int .i16 xc_y, .int .i16 xc_z, .int .i16 xc_w, .int .u8 xc_r, .int .u8 xc_g, .int .u8 xc_b, .int .u8 xc_a, .bool xc_f] 27)
  go_enter Try.func3, Try.ntmps3
  go_upto_region 1 with fail

  generalize (w.alloc (.cells #[.int .i16 xa_x, .int .i16 xa_y, .int .i16 xa_z, .int .i16 xa_w, .int .u8 xa_r, .int .u8 xa_g, .int .u8 xa_b, .int .u8 xa_a, .bool xa_f, .int .i16 xb_x, .int .i16 xb_y, .int .i16 xb_z, .int .i16 xb_w, .int .u8 xb_r, .int .u8 xb_g, .int .u8 xb_b, .int .u8 xb_a, .bool xb_f, .int .i16 xc_x, .int .i16 xc_y, .int .i16 xc_z, .int .i16 xc_w, .int .u8 xc_r, .int .u8 xc_g, .int .u8 xc_b, .int .u8 xc_a, .bool xc_f] 27)) = w0 at *
  go_wp2_with fail
  refine (awake13_any _).mono ?_
  rintro e w1 ⟨rfl, x1⟩
  have xx := xx.trans x1
  have D0 := D0.ext x1
  clear x1
  go_wp2_with (first
    | ((with_reducible refine wpList_load_blk (op := ⟨some 20, _, _, _, _, _⟩) ?_ 27 (.tmp 4) ?_ (w.heap.size) ?_ (z := _) (T := 27) D0 Try.underlying27 ?_ ?_ ?_); rfl; rfl; rfl; rfl; kernel_rfl)
    | fail)
  refine (HV.out _).mono ?_
  rintro e w2 ⟨rfl, x1⟩
  have xx := xx.trans x1
  clear x1
  have B9 := (Blk.new w2 #[.int .i64 0, .int .i64 0, .int .i64 0, .int .i64 0, .int .i64 0, .int .i64 0, .int .i64 0, .int .i64 0, .int .i64 0, .int .i64 0, .int .i64 0, .int .i64 0, .int .i64 0, .int .i64 0, .int .i64 0, .int .i64 0, .int .i64 0, .int .i64 0, .int .i64 0, .int .i64 0, .int .i64 0, .int .i64 0, .int .i64 0, .int .i64 0] 33).setRow #[.int .i64 a0, .int .i64 a1, .int .i64 a2, .int .i64 a3, .int .i64 a4, .int .i64 a5, .int .i64 a6, .int .i64 a7, .int .i64 b0, .int .i64 b1, .int .i64 b2, .int .i64 b3, .int .i64 b4, .int .i64 b5, .int .i64 b6, .int .i64 b7, .int .i64 c0, .int .i64 c1, .int .i64 c2, .int .i64 c3, .int .i64 c4, .int .i64 c5, .int .i64 c6, .int .i64 c7]
  have y1 : Ext w2 ((w2.alloc (.cells #[.int .i64 0, .int .i64 0, .int .i64 0, .int .i64 0, .int .i64 0, .int .i64 0, .int .i64 0, .int .i64 0, .int .i64 0, .int .i64 0, .int .i64 0, .int .i64 0, .int .i64 0, .int .i64 0, .int .i64 0, .int .i64 0, .int .i64 0, .int .i64 0, .int .i64 0, .int .i64 0, .int .i64 0, .int .i64 0, .int .i64 0, .int .i64 0] 33)).setRow w2.heap.size #[.int .i64 a0, .int .i64 a1, .int .i64 a2, .int .i64 a3, .int .i64 a4, .int .i64 a5, .int .i64 a6, .int .i64 a7, .int .i64 b0, .int .i64 b1, .int .i64 b2, .int .i64 b3, .int .i64 b4, .int .i64 b5, .int .i64 b6, .int .i64 b7, .int .i64 c0, .int .i64 c1, .int .i64 c2, .int .i64 c3, .int .i64 c4, .int .i64 c5, .int .i64 c6, .int .i64 c7]) := ((Ext.refl _).alloc _ _).setRow (Nat.le_refl _) _
  go_upto_region 4 with (first
    | ((with_reducible refine wpList_store_blk (op := ⟨none, .store 33 (.tmp 9) (.tmp 21), _, _, _, _⟩) ?_ 33 (.tmp 9) (.tmp 21) ?_ (w2.heap.size) ?_ (cs := #[.int .i64 a0, .int .i64 a1, .int .i64 a2, .int .i64 a3, .int .i64 a4, .int .i64 a5, .int .i64 a6, .int .i64 a7, .int .i64 b0, .int .i64 b1, .int .i64 b2, .int .i64 b3, .int .i64 b4, .int .i64 b5, .int .i64 b6, .int .i64 b7, .int .i64 c0, .int .i64 c1, .int .i64 c2, .int .i64 c3, .int .i64 c4, .int .i64 c5, .int .i64 c6, .int .i64 c7]) ?_ (z := #[.int .i64 0, .int .i64 0, .int .i64 0, .int .i64 0, .int .i64 0, .int .i64 0, .int .i64 0, .int .i64 0, .int .i64 0, .int .i64 0, .int .i64 0, .int .i64 0, .int .i64 0, .int .i64 0, .int .i64 0, .int .i64 0, .int .i64 0, .int .i64 0, .int .i64 0, .int .i64 0, .int .i64 0, .int .i64 0, .int .i64 0, .int .i64 0]) (T := 33) ?_ ?_ ?_ ?_ ?_); rfl; rfl; rfl; rfl; exact Blk.new w2 _ _; kernel_rfl; kernel_rfl; kernel_rfl)
    | fail)
  try simp only [Act.put]
  have xx := xx.trans y1
  clear y1
  generalize (w2.alloc (.cells #[.int .i64 0, .int .i64 0, .int .i64 0, .int .i64 0, .int .i64 0, .int .i64 0, .int .i64 0, .int .i64 0, .int .i64 0, .int .i64 0, .int .i64 0, .int .i64 0, .int .i64 0, .int .i64 0, .int .i64 0, .int .i64 0, .int .i64 0, .int .i64 0, .int .i64 0, .int .i64 0, .int .i64 0, .int .i64 0, .int .i64 0, .int .i64 0] 33)).setRow w2.heap.size #[.int .i64 a0, .int .i64 a1, .int .i64 a2, .int .i64 a3, .int .i64 a4, .int .i64 a5, .int .i64 a6, .int .i64 a7, .int .i64 b0, .int .i64 b1, .int .i64 b2, .int .i64 b3, .int .i64 b4, .int .i64 b5, .int .i64 b6, .int .i64 b7, .int .i64 c0, .int .i64 c1, .int .i64 c2, .int .i64 c3, .int .i64 c4, .int .i64 c5, .int .i64 c6, .int .i64 c7] = w3 at *
  generalize hbe : w2.heap.size = b9 at *
  clear hbe
  clear D0
  have R0 := Lib.hid (B9.mid13 0 [.int .i64 a0, .int .i64 a1, .int .i64 a2, .int .i64 a3, .int .i64 a4, .int .i64 a5, .int .i64 a6, .int .i64 a7] rfl)
  have R1 := Lib.hid (B9.mid13 8 [.int .i64 b0, .int .i64 b1, .int .i64 b2, .int .i64 b3, .int .i64 b4, .int .i64 b5, .int .i64 b6, .int .i64 b7] rfl)
  have R2 := Lib.hid (B9.mid13 16 [.int .i64 c0, .int .i64 c1, .int .i64 c2, .int .i64 c3, .int .i64 c4, .int .i64 c5, .int .i64 c6, .int .i64 c7] rfl)
  have wx0 : IntKind.i64.wrap x0 = x0 := by rw [IntKind.wrap_i64]; omega
  have wy0 : IntKind.i64.wrap y0 = y0 := by rw [IntKind.wrap_i64]; omega
  have wX : IntKind.i64.wrap X = X := by rw [IntKind.wrap_i64]; omega
  have wY : IntKind.i64.wrap Y = Y := by rw [IntKind.wrap_i64]; omega
  have wck : IntKind.i64.wrap ck = ck := by rw [IntKind.wrap_i64]; omega
  go_wp2_with (first
    | ((with_reducible refine wpList_load_mid (op := ⟨some 23, _, _, _, _, _⟩) ?_ 32 (.tmp 22) ?_ b9 0 ?_ [.int .i64 a0, .int .i64 a1, .int .i64 a2, .int .i64 a3, .int .i64 a4, .int .i64 a5, .int .i64 a6, .int .i64 a7] _ R0.out Try.underlying32 ?_ ?_ ?_); rfl; rfl; rfl; rfl; kernel_rfl)
    | ((with_reducible refine wpList_load_mid (op := ⟨some 25, _, _, _, _, _⟩) ?_ 32 (.tmp 24) ?_ b9 8 ?_ [.int .i64 b0, .int .i64 b1, .int .i64 b2, .int .i64 b3, .int .i64 b4, .int .i64 b5, .int .i64 b6, .int .i64 b7] _ R1.out Try.underlying32 ?_ ?_ ?_); rfl; rfl; rfl; rfl; kernel_rfl)
    | ((with_reducible refine wpList_load_mid (op := ⟨some 27, _, _, _, _, _⟩) ?_ 32 (.tmp 26) ?_ b9 16 ?_ [.int .i64 c0, .int .i64 c1, .int .i64 c2, .int .i64 c3, .int .i64 c4, .int .i64 c5, .int .i64 c6, .int .i64 c7] _ R2.out Try.underlying32 ?_ ?_ ?_); rfl; rfl; rfl; rfl; kernel_rfl)
    | fail)
  refine (HC.out _).mono ?_
  rintro e w5 ⟨r, rfl, o, x5⟩
  obtain ⟨ao, cp, rfl, -, -⟩ := o.slice
  have xx := xx.trans x5
  have HOG := Lib.hid o
  clear x5 R0 R1 R2 o B9 HC
  go_wp2_with fail
  go_loopg [13] L.length (fun n0 iv wx => ∃ (i : Nat), 1 ≤ i ∧ i + n0 = L.length + 1 ∧ iv = .int .i64 i ∧ Ext w5 wx)
  case atStart => exact ⟨1, by omega, by omega, by simp, Ext.refl _⟩
  case round =>
    generalize wr = wy at *
    obtain ⟨i, hi1, hik, rfl, E⟩ := hrel
    have xx := xx.trans E
    have wi : IntKind.i64.wrap ((i : Int) + 1) = (i : Int) + 1 := by rw [IntKind.wrap_i64]; omega
    by_cases hi : i + 1 < L.length
    · have hiI : (i : Int) + 1 < (L.length : Int) := by omega
      obtain ⟨g, va, rfl, -, hva, ca⟩ := (HOG.out.ext E).nth 0 (by omega)
      obtain ⟨g2, vb, e2, -, hvb, cb⟩ := (HOG.out.ext E).nth i (by omega)
      cases e2
      obtain ⟨g3, vc, e3, -, hvc, cc⟩ := (HOG.out.ext E).nth (i + 1) hi
      cases e3
      have ma := List.mem_of_getElem? hva
      have mb := List.mem_of_getElem? hvb
      have mc := List.mem_of_getElem? hvc
      have h0 := HO.out va ma
      have h1 := HO.out vb mb
      have h2 := HO.out vc mc
      have hRM := HRM.out va ma vb mb vc mc
      have hMK := HMK.out va ma vb mb vc mc
      have hr0 := fun u => ref12_any va u
      have hr1 := fun u => ref12_any vb u
      have hr2 := fun u => ref12_any vc u
      clear hva hvb hvc ma mb mc
      obtain ⟨ya0, ya1, ya2, ya3, ya4, ya5, ya6, ya7⟩ := va
      obtain ⟨yb0, yb1, yb2, yb3, yb4, yb5, yb6, yb7⟩ := vb
      obtain ⟨yc0, yc1, yc2, yc3, yc4, yc5, yc6, yc7⟩ := vc
      have k0_0 := ca 0 _ rfl
      have k0_1 := ca 1 _ rfl
      have k0_2 := ca 2 _ rfl
      have k0_3 := ca 3 _ rfl
      have k0_4 := ca 4 _ rfl
      have k0_5 := ca 5 _ rfl
      have k0_6 := ca 6 _ rfl
      have k0_7 := ca 7 _ rfl
      have k1_0 := cb 0 _ rfl
      have k1_1 := cb 1 _ rfl
      have k1_2 := cb 2 _ rfl
      have k1_3 := cb 3 _ rfl
      have k1_4 := cb 4 _ rfl
      have k1_5 := cb 5 _ rfl
      have k1_6 := cb 6 _ rfl
      have k1_7 := cb 7 _ rfl
      have k2_0 := cc 0 _ rfl
      have k2_1 := cc 1 _ rfl
      have k2_2 := cc 2 _ rfl
      have k2_3 := cc 3 _ rfl
      have k2_4 := cc 4 _ rfl
      have k2_5 := cc 5 _ rfl
      have k2_6 := cc 6 _ rfl
      have k2_7 := cc 7 _ rfl
      simp only [LC, Nat.add_zero, Nat.zero_mul, Nat.zero_add] at k0_0 k0_1 k0_2 k0_3 k0_4 k0_5 k0_6 k0_7 k1_0 k1_1 k1_2 k1_3 k1_4 k1_5 k1_6 k1_7 k2_0 k2_1 k2_2 k2_3 k2_4 k2_5 k2_6 k2_7
      clear ca cb cc
      generalize ofF ⟨ya0, ya1, ya2, ya3, ya4, ya5, ya6, ya7⟩ X Y = pa at *
      generalize ofF ⟨yb0, yb1, yb2, yb3, yb4, yb5, yb6, yb7⟩ X Y = pb at *
      generalize ofF ⟨yc0, yc1, yc2, yc3, yc4, yc5, yc6, yc7⟩ X Y = pc at *
      have hck0 : ∀ m, makeF pa pb pc ck = some m → chkT m = 0 := fun m hm => make_chk hm
      generalize makeF pa pb pc ck = mk at *
      obtain ⟨ca0, ca1, ca2, ca3, ca4, ca5, ca6, ca7⟩ := pa
      obtain ⟨cb0, cb1, cb2, cb3, cb4, cb5, cb6, cb7⟩ := pb
      obtain ⟨cc0, cc1, cc2, cc3, cc4, cc5, cc6, cc7⟩ := pc
      have HO0 := Lib.hid h0
      have HO1 := Lib.hid h1
      have HO2 := Lib.hid h2
      have HR0 := Lib.hid hr0
      have HR1 := Lib.hid hr1
      have HR2 := Lib.hid hr2
      clear h0 h1 h2 hr0 hr1 hr2
      cases mk with
      | none =>
        simp only [mkV, Option.getD_none, Option.isSome_none, Tr.nul] at hRM hMK
        simp only [V8.l, List.cons_append, List.nil_append] at hRM
        have HRM := Lib.hid hRM
        have HMK := Lib.hid hMK
        clear hRM hMK hck0
        go_upto_region 9 with fail
        apply wp_region_vars [false, false, false, false, false, false, false, false, false, false, false, false, false, false, false, false, false, false, false, false, false, false, false, false, false, true, true, false] [] [⟨some 25, 14, 0, some 26, 42, #[.int .i64 0, .int .i64 0, .int .i64 0, .int .i64 0, .int .i64 0, .int .i64 0, .int .i64 0, .int .i64 0, .int .i64 0, .int .i64 0, .int .i64 0, .int .i64 0, .int .i64 0, .int .i64 0, .int .i64 0, .int .i64 0, .int .i64 0, .int .i64 0, .int .i64 0, .int .i64 0, .int .i64 0, .int .i64 0, .int .i64 0, .int .i64 0], #[.int .i64 0, .int .i64 0, .int .i64 0, .int .i64 0, .int .i64 0, .int .i64 0, .int .i64 0, .int .i64 0, .int .i64 0, .int .i64 0, .int .i64 0, .int .i64 0, .int .i64 0, .int .i64 0, .int .i64 0, .int .i64 0, .int .i64 0, .int .i64 0, .int .i64 0, .int .i64 0, .int .i64 0, .int .i64 0, .int .i64 0, .int .i64 0]⟩] _ (by kernel_rfl) (by kernel_rfl) (by kernel_rfl)
        case H =>
          intro x0 hx
          have hne : Nonempty (Wx x0) := ⟨⟨x0, Ext.refl x0⟩⟩
          have q0_0 := fun (y : Wx x0) => (hx.ext.trans y.ext).old k0_0
          have q0_1 := fun (y : Wx x0) => (hx.ext.trans y.ext).old k0_1
          have q0_2 := fun (y : Wx x0) => (hx.ext.trans y.ext).old k0_2
          have q0_3 := fun (y : Wx x0) => (hx.ext.trans y.ext).old k0_3
          have q0_4 := fun (y : Wx x0) => (hx.ext.trans y.ext).old k0_4
          have q0_5 := fun (y : Wx x0) => (hx.ext.trans y.ext).old k0_5
          have q0_6 := fun (y : Wx x0) => (hx.ext.trans y.ext).old k0_6
          have q0_7 := fun (y : Wx x0) => (hx.ext.trans y.ext).old k0_7
          have q1_0 := fun (y : Wx x0) => (hx.ext.trans y.ext).old k1_0
          have q1_1 := fun (y : Wx x0) => (hx.ext.trans y.ext).old k1_1
          have q1_2 := fun (y : Wx x0) => (hx.ext.trans y.ext).old k1_2
          have q1_3 := fun (y : Wx x0) => (hx.ext.trans y.ext).old k1_3
          have q1_4 := fun (y : Wx x0) => (hx.ext.trans y.ext).old k1_4
          have q1_5 := fun (y : Wx x0) => (hx.ext.trans y.ext).old k1_5
          have q1_6 := fun (y : Wx x0) => (hx.ext.trans y.ext).old k1_6
          have q1_7 := fun (y : Wx x0) => (hx.ext.trans y.ext).old k1_7
          have q2_0 := fun (y : Wx x0) => (hx.ext.trans y.ext).old k2_0
          have q2_1 := fun (y : Wx x0) => (hx.ext.trans y.ext).old k2_1
          have q2_2 := fun (y : Wx x0) => (hx.ext.trans y.ext).old k2_2
          have q2_3 := fun (y : Wx x0) => (hx.ext.trans y.ext).old k2_3
          have q2_4 := fun (y : Wx x0) => (hx.ext.trans y.ext).old k2_4
          have q2_5 := fun (y : Wx x0) => (hx.ext.trans y.ext).old k2_5
          have q2_6 := fun (y : Wx x0) => (hx.ext.trans y.ext).old k2_6
          have q2_7 := fun (y : Wx x0) => (hx.ext.trans y.ext).old k2_7
          simp only [eraseM]
          repeat (first
            | (go_big_quiet_want; (with_reducible refine quiet_build (op := ⟨some 60, _, _, _, _, _⟩) 48 #[(0, .tmp 48), (1, .tmp 53), (2, .tmp 59)] ?_ #[.int .i64 ya0, .int .i64 ya1, .int .i64 ya2, .int .i64 ya3, .int .i64 ya4, .int .i64 ya5, .int .i64 ya6, .int .i64 ya7, .int .i64 yb0, .int .i64 yb1, .int .i64 yb2, .int .i64 yb3, .int .i64 yb4, .int .i64 yb5, .int .i64 yb6, .int .i64 yb7, .int .i64 yc0, .int .i64 yc1, .int .i64 yc2, .int .i64 yc3, .int .i64 yc4, .int .i64 yc5, .int .i64 yc6, .int .i64 yc7] ?_ ?_); rfl; kernel_rfl; simp only [Act.put, List.setIfInBounds_toArray, List.set_cons_succ, List.set_cons_zero]; go_big_quiet_on)
            | go_big_quiet_step (first | (go_at_call 13; with_reducible exact calm_of (HR0.out _)) | (go_at_call 13; with_reducible exact calm_of (HR1.out _)) | (go_at_call 13; with_reducible exact calm_of (HR2.out _)) | (go_at_call 12; with_reducible exact calm_of (HRM.out _))))
          exact wpQuiet_nil rfl
        case hok =>
          simp only [List.forall_mem_cons, List.not_mem_nil, false_implies, implies_true, and_true]
          exact tgt_fresh (by simp) rfl rfl mkRT rfl rfl rfl rfl (by kernel_rfl) (by kernel_rfl) rfl
        case hdis =>
          intro k k' t t' hk hk' _ ha
          exfalso
          have := List.mem_of_getElem? hk
          simp only [List.mem_cons, List.not_mem_nil, or_false] at this
          rcases this with rfl <;> cases ha
        rintro wy2 f hw ⟨zk0, zl0, zd0, zu0, -⟩
        have xx := xx.trans hw.ext
        have E := E.trans hw.ext
        simp only [pairs, putAll, Option.isSome_some, if_true, Act.put, List.setIfInBounds_toArray, List.set_cons_succ, List.set_cons_zero]
        generalize f 0 = z14 at *
        have B14 : Blk wy2 z14 #[.int .i64 0, .int .i64 0, .int .i64 0, .int .i64 0, .int .i64 0, .int .i64 0, .int .i64 0, .int .i64 0, .int .i64 0, .int .i64 0, .int .i64 0, .int .i64 0, .int .i64 0, .int .i64 0, .int .i64 0, .int .i64 0, .int .i64 0, .int .i64 0, .int .i64 0, .int .i64 0, .int .i64 0, .int .i64 0, .int .i64 0, .int .i64 0] 42 := zd0
        have k0_0 := hw.ext.old k0_0
        have k0_1 := hw.ext.old k0_1
        have k0_2 := hw.ext.old k0_2
        have k0_3 := hw.ext.old k0_3
        have k0_4 := hw.ext.old k0_4
        have k0_5 := hw.ext.old k0_5
        have k0_6 := hw.ext.old k0_6
        have k0_7 := hw.ext.old k0_7
        have k1_0 := hw.ext.old k1_0
        have k1_1 := hw.ext.old k1_1
        have k1_2 := hw.ext.old k1_2
        have k1_3 := hw.ext.old k1_3
        have k1_4 := hw.ext.old k1_4
        have k1_5 := hw.ext.old k1_5
        have k1_6 := hw.ext.old k1_6
        have k1_7 := hw.ext.old k1_7
        have k2_0 := hw.ext.old k2_0
        have k2_1 := hw.ext.old k2_1
        have k2_2 := hw.ext.old k2_2
        have k2_3 := hw.ext.old k2_3
        have k2_4 := hw.ext.old k2_4
        have k2_5 := hw.ext.old k2_5
        have k2_6 := hw.ext.old k2_6
        have k2_7 := hw.ext.old k2_7
        clear zk0 zl0 zd0 zu0 hw
        go_upto_region 10 with fail
        apply wp_region_vars [false, false, false, false, false, false, false, false, false, false, false, false, false, false, false, false, false, false, false, false, false, false, false, false, false, false, false, true, true, false] [] [⟨some 27, 16, 0, some 28, 55, #[.int .i64 0, .int .i64 0, .int .i64 0, .int .i64 0, .int .i64 0, .int .i64 0, .int .i64 0, .int .i64 0, .int .i64 0, .int .i64 0, .int .i64 0, .int .i64 0, .int .i64 0, .int .i64 0, .int .i64 0, .int .i64 0, .int .i64 0, .int .i64 0, .int .i64 0, .int .i64 0, .int .i64 0, .int .i64 0, .int .i64 0, .int .i64 0], #[.int .i64 0, .int .i64 0, .int .i64 0, .int .i64 0, .int .i64 0, .int .i64 0, .int .i64 0, .int .i64 0, .int .i64 0, .int .i64 0, .int .i64 0, .int .i64 0, .int .i64 0, .int .i64 0, .int .i64 0, .int .i64 0, .int .i64 0, .int .i64 0, .int .i64 0, .int .i64 0, .int .i64 0, .int .i64 0, .int .i64 0, .int .i64 0]⟩] _ (by kernel_rfl) (by kernel_rfl) (by kernel_rfl)
        case H =>
          intro x0 hx
          have hne : Nonempty (Wx x0) := ⟨⟨x0, Ext.refl x0⟩⟩
          have q0_0 := fun (y : Wx x0) => (hx.ext.trans y.ext).old k0_0
          have q0_1 := fun (y : Wx x0) => (hx.ext.trans y.ext).old k0_1
          have q0_2 := fun (y : Wx x0) => (hx.ext.trans y.ext).old k0_2
          have q0_3 := fun (y : Wx x0) => (hx.ext.trans y.ext).old k0_3
          have q0_4 := fun (y : Wx x0) => (hx.ext.trans y.ext).old k0_4
          have q0_5 := fun (y : Wx x0) => (hx.ext.trans y.ext).old k0_5
          have q0_6 := fun (y : Wx x0) => (hx.ext.trans y.ext).old k0_6
          have q0_7 := fun (y : Wx x0) => (hx.ext.trans y.ext).old k0_7
          have q1_0 := fun (y : Wx x0) => (hx.ext.trans y.ext).old k1_0
          have q1_1 := fun (y : Wx x0) => (hx.ext.trans y.ext).old k1_1
          have q1_2 := fun (y : Wx x0) => (hx.ext.trans y.ext).old k1_2
          have q1_3 := fun (y : Wx x0) => (hx.ext.trans y.ext).old k1_3
          have q1_4 := fun (y : Wx x0) => (hx.ext.trans y.ext).old k1_4
          have q1_5 := fun (y : Wx x0) => (hx.ext.trans y.ext).old k1_5
          have q1_6 := fun (y : Wx x0) => (hx.ext.trans y.ext).old k1_6
          have q1_7 := fun (y : Wx x0) => (hx.ext.trans y.ext).old k1_7
          have q2_0 := fun (y : Wx x0) => (hx.ext.trans y.ext).old k2_0
          have q2_1 := fun (y : Wx x0) => (hx.ext.trans y.ext).old k2_1
          have q2_2 := fun (y : Wx x0) => (hx.ext.trans y.ext).old k2_2
          have q2_3 := fun (y : Wx x0) => (hx.ext.trans y.ext).old k2_3
          have q2_4 := fun (y : Wx x0) => (hx.ext.trans y.ext).old k2_4
          have q2_5 := fun (y : Wx x0) => (hx.ext.trans y.ext).old k2_5
          have q2_6 := fun (y : Wx x0) => (hx.ext.trans y.ext).old k2_6
          have q2_7 := fun (y : Wx x0) => (hx.ext.trans y.ext).old k2_7
          simp only [eraseM]
          repeat (first
            | go_big_quiet_step (first | (go_at_call 15; with_reducible exact calm_of (HO0.out _)) | (go_at_call 15; with_reducible exact calm_of (HO1.out _)) | (go_at_call 15; with_reducible exact calm_of (HO2.out _)) | (go_at_call 14; with_reducible exact calm_of (HMK.out _))))
          exact wpQuiet_nil rfl
        case hok =>
          simp only [List.forall_mem_cons, List.not_mem_nil, false_implies, implies_true, and_true]
          exact tgt_fresh (by simp) rfl rfl mkST rfl rfl rfl rfl (by kernel_rfl) (by kernel_rfl) rfl
        case hdis =>
          intro k k' t t' hk hk' _ ha
          exfalso
          have := List.mem_of_getElem? hk
          simp only [List.mem_cons, List.not_mem_nil, or_false] at this
          rcases this with rfl <;> cases ha
        rintro wy3 f hw ⟨zk0, zl0, zd0, zu0, -⟩
        have xx := xx.trans hw.ext
        have E := E.trans hw.ext
        simp only [pairs, putAll, Option.isSome_some, if_true, Act.put, List.setIfInBounds_toArray, List.set_cons_succ, List.set_cons_zero]
        generalize f 0 = z16 at *
        have B16 : Blk wy3 z16 #[.int .i64 0, .int .i64 0, .int .i64 0, .int .i64 0, .int .i64 0, .int .i64 0, .int .i64 0, .int .i64 0, .int .i64 0, .int .i64 0, .int .i64 0, .int .i64 0, .int .i64 0, .int .i64 0, .int .i64 0, .int .i64 0, .int .i64 0, .int .i64 0, .int .i64 0, .int .i64 0, .int .i64 0, .int .i64 0, .int .i64 0, .int .i64 0] 55 := zd0
        have B14 := B14.ext hw.ext
        clear k0_0 k0_1 k0_2 k0_3 k0_4 k0_5 k0_6 k0_7 k1_0 k1_1 k1_2 k1_3 k1_4 k1_5 k1_6 k1_7 k2_0 k2_1 k2_2 k2_3 k2_4 k2_5 k2_6 k2_7
        clear zk0 zl0 zd0 zu0 hw
        have hq42 := eqT42 0 0 0 0 0 0 0 0 0 0 0 0 0 0 0 0 0 0 0 0 0 0 0 0
        have hq55 := eqT55 0 0 0 0 0 0 0 0 0 0 0 0 0 0 0 0 0 0 0 0 0 0 0 0
        go_upto_region 11 with fail
        apply wp_region_reads2 _ (by kernel_rfl) (by kernel_rfl)
        case H =>
          intro x0 hx
          have hne : Nonempty (Wx x0) := ⟨⟨x0, Ext.refl x0⟩⟩
          have k16 := fun (y : Wx x0) => B16.ext (hx.trans y.ext)
          have k14 := fun (y : Wx x0) => B14.ext (hx.trans y.ext)
          repeat (first
            | (go_big_quiet_want; (with_reducible refine quiet_load_blk (op := ⟨some 102, _, _, _, _, _⟩) 55 (.tmp 16) ?_ z16 ?_ (z := #[.int .i64 0, .int .i64 0, .int .i64 0, .int .i64 0, .int .i64 0, .int .i64 0, .int .i64 0, .int .i64 0, .int .i64 0, .int .i64 0, .int .i64 0, .int .i64 0, .int .i64 0, .int .i64 0, .int .i64 0, .int .i64 0, .int .i64 0, .int .i64 0, .int .i64 0, .int .i64 0, .int .i64 0, .int .i64 0, .int .i64 0, .int .i64 0]) (T := 55) ?_ Try.underlying55 ?_ ?_ ?_); rfl; rfl; exact (fun u hu => by obtain ⟨y, rfl⟩ := hu; exact k16 y); rfl; kernel_rfl; simp only [Act.put, List.setIfInBounds_toArray, List.set_cons_succ, List.set_cons_zero]; go_big_quiet_on)
            | (go_big_quiet_want; (with_reducible refine quiet_load_blk (op := ⟨some 104, _, _, _, _, _⟩) 42 (.tmp 14) ?_ z14 ?_ (z := #[.int .i64 0, .int .i64 0, .int .i64 0, .int .i64 0, .int .i64 0, .int .i64 0, .int .i64 0, .int .i64 0, .int .i64 0, .int .i64 0, .int .i64 0, .int .i64 0, .int .i64 0, .int .i64 0, .int .i64 0, .int .i64 0, .int .i64 0, .int .i64 0, .int .i64 0, .int .i64 0, .int .i64 0, .int .i64 0, .int .i64 0, .int .i64 0]) (T := 42) ?_ Try.underlying42 ?_ ?_ ?_); rfl; rfl; exact (fun u hu => by obtain ⟨y, rfl⟩ := hu; exact k14 y); rfl; kernel_rfl; simp only [Act.put, List.setIfInBounds_toArray, List.set_cons_succ, List.set_cons_zero]; go_big_quiet_on)
            | (go_big_quiet_want; (with_reducible refine quiet_load_blk (op := ⟨some 107, _, _, _, _, _⟩) 55 (.tmp 16) ?_ z16 ?_ (z := #[.int .i64 0, .int .i64 0, .int .i64 0, .int .i64 0, .int .i64 0, .int .i64 0, .int .i64 0, .int .i64 0, .int .i64 0, .int .i64 0, .int .i64 0, .int .i64 0, .int .i64 0, .int .i64 0, .int .i64 0, .int .i64 0, .int .i64 0, .int .i64 0, .int .i64 0, .int .i64 0, .int .i64 0, .int .i64 0, .int .i64 0, .int .i64 0]) (T := 55) ?_ Try.underlying55 ?_ ?_ ?_); rfl; rfl; exact (fun u hu => by obtain ⟨y, rfl⟩ := hu; exact k16 y); rfl; kernel_rfl; simp only [Act.put, List.setIfInBounds_toArray, List.set_cons_succ, List.set_cons_zero]; go_big_quiet_on)
            | (go_big_quiet_want; (with_reducible refine quiet_load_blk (op := ⟨some 117, _, _, _, _, _⟩) 55 (.tmp 16) ?_ z16 ?_ (z := #[.int .i64 0, .int .i64 0, .int .i64 0, .int .i64 0, .int .i64 0, .int .i64 0, .int .i64 0, .int .i64 0, .int .i64 0, .int .i64 0, .int .i64 0, .int .i64 0, .int .i64 0, .int .i64 0, .int .i64 0, .int .i64 0, .int .i64 0, .int .i64 0, .int .i64 0, .int .i64 0, .int .i64 0, .int .i64 0, .int .i64 0, .int .i64 0]) (T := 55) ?_ Try.underlying55 ?_ ?_ ?_); rfl; rfl; exact (fun u hu => by obtain ⟨y, rfl⟩ := hu; exact k16 y); rfl; kernel_rfl; simp only [Act.put, List.setIfInBounds_toArray, List.set_cons_succ, List.set_cons_zero]; go_big_quiet_on)
            | (go_big_quiet_want; (with_reducible refine quiet_build (op := ⟨some 118, _, _, _, _, _⟩) 55 #[] ?_ #[.int .i64 0, .int .i64 0, .int .i64 0, .int .i64 0, .int .i64 0, .int .i64 0, .int .i64 0, .int .i64 0, .int .i64 0, .int .i64 0, .int .i64 0, .int .i64 0, .int .i64 0, .int .i64 0, .int .i64 0, .int .i64 0, .int .i64 0, .int .i64 0, .int .i64 0, .int .i64 0, .int .i64 0, .int .i64 0, .int .i64 0, .int .i64 0] ?_ ?_); rfl; kernel_rfl; simp only [Act.put, List.setIfInBounds_toArray, List.set_cons_succ, List.set_cons_zero]; go_big_quiet_on)
            | go_big_quiet_step (first | (go_at_call 16; with_reducible exact calm_of (ref13_any _ _ _ _ _ _ _ _ _ _ _ _ _ _ _ _ _ _ _ _ _ _ _ _ _)) | (go_at_call 17; with_reducible exact calm_of (HCK.out _))))
          exact wpQuiet_nil rfl
        intro wy4 hr
        have xx := xx.trans hr
        have E := E.trans hr
        clear hr B14 B16 hq42 hq55
        go_wp2_with fail
        go_roundg (L.length + 1 - (i + 1))
        case measure => omega
        case rel => exact ⟨i + 1, by omega, by omega, by simp, E⟩
      | some m =>
        have hck := HCK.out m (hck0 m rfl)
        obtain ⟨m0, m1, m2, m3, m4, m5, m6, m7, m8, m9, m10, m11, m12, m13, m14, m15, m16, m17, m18, m19, m20, m21, m22, m23⟩ := m
        simp only [mkV, Option.getD_some, Option.isSome_some] at hRM hMK
        simp only [V8.l, List.cons_append, List.nil_append] at hRM
        have HRM := Lib.hid hRM
        have HMK := Lib.hid hMK
        have HCK := Lib.hid hck
        clear hRM hMK hck0 hck
        go_upto_region 9 with fail
        apply wp_region_vars [false, false, false, false, false, false, false, false, false, false, false, false, false, false, false, false, false, false, false, false, false, false, false, false, false, true, true, false] [] [⟨some 25, 14, 0, some 26, 42, #[.int .i64 0, .int .i64 0, .int .i64 0, .int .i64 0, .int .i64 0, .int .i64 0, .int .i64 0, .int .i64 0, .int .i64 0, .int .i64 0, .int .i64 0, .int .i64 0, .int .i64 0, .int .i64 0, .int .i64 0, .int .i64 0, .int .i64 0, .int .i64 0, .int .i64 0, .int .i64 0, .int .i64 0, .int .i64 0, .int .i64 0, .int .i64 0], #[.int .i64 m0, .int .i64 m1, .int .i64 m2, .int .i64 m3, .int .i64 m4, .int .i64 m5, .int .i64 m6, .int .i64 m7, .int .i64 m8, .int .i64 m9, .int .i64 m10, .int .i64 m11, .int .i64 m12, .int .i64 m13, .int .i64 m14, .int .i64 m15, .int .i64 m16, .int .i64 m17, .int .i64 m18, .int .i64 m19, .int .i64 m20, .int .i64 m21, .int .i64 m22, .int .i64 m23]⟩] _ (by kernel_rfl) (by kernel_rfl) (by kernel_rfl)
        case H =>
          intro x0 hx
          have hne : Nonempty (Wx x0) := ⟨⟨x0, Ext.refl x0⟩⟩
          have q0_0 := fun (y : Wx x0) => (hx.ext.trans y.ext).old k0_0
          have q0_1 := fun (y : Wx x0) => (hx.ext.trans y.ext).old k0_1
          have q0_2 := fun (y : Wx x0) => (hx.ext.trans y.ext).old k0_2
          have q0_3 := fun (y : Wx x0) => (hx.ext.trans y.ext).old k0_3
          have q0_4 := fun (y : Wx x0) => (hx.ext.trans y.ext).old k0_4
          have q0_5 := fun (y : Wx x0) => (hx.ext.trans y.ext).old k0_5
          have q0_6 := fun (y : Wx x0) => (hx.ext.trans y.ext).old k0_6
          have q0_7 := fun (y : Wx x0) => (hx.ext.trans y.ext).old k0_7
          have q1_0 := fun (y : Wx x0) => (hx.ext.trans y.ext).old k1_0
          have q1_1 := fun (y : Wx x0) => (hx.ext.trans y.ext).old k1_1
          have q1_2 := fun (y : Wx x0) => (hx.ext.trans y.ext).old k1_2
          have q1_3 := fun (y : Wx x0) => (hx.ext.trans y.ext).old k1_3
          have q1_4 := fun (y : Wx x0) => (hx.ext.trans y.ext).old k1_4
          have q1_5 := fun (y : Wx x0) => (hx.ext.trans y.ext).old k1_5
          have q1_6 := fun (y : Wx x0) => (hx.ext.trans y.ext).old k1_6
          have q1_7 := fun (y : Wx x0) => (hx.ext.trans y.ext).old k1_7
          have q2_0 := fun (y : Wx x0) => (hx.ext.trans y.ext).old k2_0
          have q2_1 := fun (y : Wx x0) => (hx.ext.trans y.ext).old k2_1
          have q2_2 := fun (y : Wx x0) => (hx.ext.trans y.ext).old k2_2
          have q2_3 := fun (y : Wx x0) => (hx.ext.trans y.ext).old k2_3
          have q2_4 := fun (y : Wx x0) => (hx.ext.trans y.ext).old k2_4
          have q2_5 := fun (y : Wx x0) => (hx.ext.trans y.ext).old k2_5
          have q2_6 := fun (y : Wx x0) => (hx.ext.trans y.ext).old k2_6
          have q2_7 := fun (y : Wx x0) => (hx.ext.trans y.ext).old k2_7
          simp only [eraseM]
          repeat (first
            | (go_big_quiet_want; (with_reducible refine quiet_build (op := ⟨some 60, _, _, _, _, _⟩) 48 #[(0, .tmp 48), (1, .tmp 53), (2, .tmp 59)] ?_ #[.int .i64 ya0, .int .i64 ya1, .int .i64 ya2, .int .i64 ya3, .int .i64 ya4, .int .i64 ya5, .int .i64 ya6, .int .i64 ya7, .int .i64 yb0, .int .i64 yb1, .int .i64 yb2, .int .i64 yb3, .int .i64 yb4, .int .i64 yb5, .int .i64 yb6, .int .i64 yb7, .int .i64 yc0, .int .i64 yc1, .int .i64 yc2, .int .i64 yc3, .int .i64 yc4, .int .i64 yc5, .int .i64 yc6, .int .i64 yc7] ?_ ?_); rfl; kernel_rfl; simp only [Act.put, List.setIfInBounds_toArray, List.set_cons_succ, List.set_cons_zero]; go_big_quiet_on)
            | go_big_quiet_step (first | (go_at_call 13; with_reducible exact calm_of (HR0.out _)) | (go_at_call 13; with_reducible exact calm_of (HR1.out _)) | (go_at_call 13; with_reducible exact calm_of (HR2.out _)) | (go_at_call 12; with_reducible exact calm_of (HRM.out _))))
          exact wpQuiet_nil rfl
        case hok =>
          simp only [List.forall_mem_cons, List.not_mem_nil, false_implies, implies_true, and_true]
          exact tgt_fresh (by simp) rfl rfl mkRT rfl rfl rfl rfl (by kernel_rfl) (by kernel_rfl) rfl
        case hdis =>
          intro k k' t t' hk hk' _ ha
          exfalso
          have := List.mem_of_getElem? hk
          simp only [List.mem_cons, List.not_mem_nil, or_false] at this
          rcases this with rfl <;> cases ha
        rintro wy2 f hw ⟨zk0, zl0, zd0, zu0, -⟩
        have xx := xx.trans hw.ext
        have E := E.trans hw.ext
        simp only [pairs, putAll, Option.isSome_some, if_true, Act.put, List.setIfInBounds_toArray, List.set_cons_succ, List.set_cons_zero]
        generalize f 0 = z14 at *
        have B14 : Blk wy2 z14 #[.int .i64 m0, .int .i64 m1, .int .i64 m2, .int .i64 m3, .int .i64 m4, .int .i64 m5, .int .i64 m6, .int .i64 m7, .int .i64 m8, .int .i64 m9, .int .i64 m10, .int .i64 m11, .int .i64 m12, .int .i64 m13, .int .i64 m14, .int .i64 m15, .int .i64 m16, .int .i64 m17, .int .i64 m18, .int .i64 m19, .int .i64 m20, .int .i64 m21, .int .i64 m22, .int .i64 m23] 42 := zd0
        have k0_0 := hw.ext.old k0_0
        have k0_1 := hw.ext.old k0_1
        have k0_2 := hw.ext.old k0_2
        have k0_3 := hw.ext.old k0_3
        have k0_4 := hw.ext.old k0_4
        have k0_5 := hw.ext.old k0_5
        have k0_6 := hw.ext.old k0_6
        have k0_7 := hw.ext.old k0_7
        have k1_0 := hw.ext.old k1_0
        have k1_1 := hw.ext.old k1_1
        have k1_2 := hw.ext.old k1_2
        have k1_3 := hw.ext.old k1_3
        have k1_4 := hw.ext.old k1_4
        have k1_5 := hw.ext.old k1_5
        have k1_6 := hw.ext.old k1_6
        have k1_7 := hw.ext.old k1_7
        have k2_0 := hw.ext.old k2_0
        have k2_1 := hw.ext.old k2_1
        have k2_2 := hw.ext.old k2_2
        have k2_3 := hw.ext.old k2_3
        have k2_4 := hw.ext.old k2_4
        have k2_5 := hw.ext.old k2_5
        have k2_6 := hw.ext.old k2_6
        have k2_7 := hw.ext.old k2_7
        clear zk0 zl0 zd0 zu0 hw
        go_upto_region 10 with fail
        apply wp_region_vars [false, false, false, false, false, false, false, false, false, false, false, false, false, false, false, false, false, false, false, false, false, false, false, false, false, false, false, true, true, false] [] [⟨some 27, 16, 0, some 28, 55, #[.int .i64 0, .int .i64 0, .int .i64 0, .int .i64 0, .int .i64 0, .int .i64 0, .int .i64 0, .int .i64 0, .int .i64 0, .int .i64 0, .int .i64 0, .int .i64 0, .int .i64 0, .int .i64 0, .int .i64 0, .int .i64 0, .int .i64 0, .int .i64 0, .int .i64 0, .int .i64 0, .int .i64 0, .int .i64 0, .int .i64 0, .int .i64 0], #[.int .i64 m0, .int .i64 m1, .int .i64 m2, .int .i64 m3, .int .i64 m4, .int .i64 m5, .int .i64 m6, .int .i64 m7, .int .i64 m8, .int .i64 m9, .int .i64 m10, .int .i64 m11, .int .i64 m12, .int .i64 m13, .int .i64 m14, .int .i64 m15, .int .i64 m16, .int .i64 m17, .int .i64 m18, .int .i64 m19, .int .i64 m20, .int .i64 m21, .int .i64 m22, .int .i64 m23]⟩] _ (by kernel_rfl) (by kernel_rfl) (by kernel_rfl)
        case H =>
          intro x0 hx
          have hne : Nonempty (Wx x0) := ⟨⟨x0, Ext.refl x0⟩⟩
          have q0_0 := fun (y : Wx x0) => (hx.ext.trans y.ext).old k0_0
          have q0_1 := fun (y : Wx x0) => (hx.ext.trans y.ext).old k0_1
          have q0_2 := fun (y : Wx x0) => (hx.ext.trans y.ext).old k0_2
          have q0_3 := fun (y : Wx x0) => (hx.ext.trans y.ext).old k0_3
          have q0_4 := fun (y : Wx x0) => (hx.ext.trans y.ext).old k0_4
          have q0_5 := fun (y : Wx x0) => (hx.ext.trans y.ext).old k0_5
          have q0_6 := fun (y : Wx x0) => (hx.ext.trans y.ext).old k0_6
          have q0_7 := fun (y : Wx x0) => (hx.ext.trans y.ext).old k0_7
          have q1_0 := fun (y : Wx x0) => (hx.ext.trans y.ext).old k1_0
          have q1_1 := fun (y : Wx x0) => (hx.ext.trans y.ext).old k1_1
          have q1_2 := fun (y : Wx x0) => (hx.ext.trans y.ext).old k1_2
          have q1_3 := fun (y : Wx x0) => (hx.ext.trans y.ext).old k1_3
          have q1_4 := fun (y : Wx x0) => (hx.ext.trans y.ext).old k1_4
          have q1_5 := fun (y : Wx x0) => (hx.ext.trans y.ext).old k1_5
          have q1_6 := fun (y : Wx x0) => (hx.ext.trans y.ext).old k1_6
          have q1_7 := fun (y : Wx x0) => (hx.ext.trans y.ext).old k1_7
          have q2_0 := fun (y : Wx x0) => (hx.ext.trans y.ext).old k2_0
          have q2_1 := fun (y : Wx x0) => (hx.ext.trans y.ext).old k2_1
          have q2_2 := fun (y : Wx x0) => (hx.ext.trans y.ext).old k2_2
          have q2_3 := fun (y : Wx x0) => (hx.ext.trans y.ext).old k2_3
          have q2_4 := fun (y : Wx x0) => (hx.ext.trans y.ext).old k2_4
          have q2_5 := fun (y : Wx x0) => (hx.ext.trans y.ext).old k2_5
          have q2_6 := fun (y : Wx x0) => (hx.ext.trans y.ext).old k2_6
          have q2_7 := fun (y : Wx x0) => (hx.ext.trans y.ext).old k2_7
          simp only [eraseM]
          repeat (first
            | go_big_quiet_step (first | (go_at_call 15; with_reducible exact calm_of (HO0.out _)) | (go_at_call 15; with_reducible exact calm_of (HO1.out _)) | (go_at_call 15; with_reducible exact calm_of (HO2.out _)) | (go_at_call 14; with_reducible exact calm_of (HMK.out _))))
          exact wpQuiet_nil rfl
        case hok =>
          simp only [List.forall_mem_cons, List.not_mem_nil, false_implies, implies_true, and_true]
          exact tgt_fresh (by simp) rfl rfl mkST rfl rfl rfl rfl (by kernel_rfl) (by kernel_rfl) rfl
        case hdis =>
          intro k k' t t' hk hk' _ ha
          exfalso
          have := List.mem_of_getElem? hk
          simp only [List.mem_cons, List.not_mem_nil, or_false] at this
          rcases this with rfl <;> cases ha
        rintro wy3 f hw ⟨zk0, zl0, zd0, zu0, -⟩
        have xx := xx.trans hw.ext
        have E := E.trans hw.ext
        simp only [pairs, putAll, Option.isSome_some, if_true, Act.put, List.setIfInBounds_toArray, List.set_cons_succ, List.set_cons_zero]
        generalize f 0 = z16 at *
        have B16 : Blk wy3 z16 #[.int .i64 m0, .int .i64 m1, .int .i64 m2, .int .i64 m3, .int .i64 m4, .int .i64 m5, .int .i64 m6, .int .i64 m7, .int .i64 m8, .int .i64 m9, .int .i64 m10, .int .i64 m11, .int .i64 m12, .int .i64 m13, .int .i64 m14, .int .i64 m15, .int .i64 m16, .int .i64 m17, .int .i64 m18, .int .i64 m19, .int .i64 m20, .int .i64 m21, .int .i64 m22, .int .i64 m23] 55 := zd0
        have B14 := B14.ext hw.ext
        clear k0_0 k0_1 k0_2 k0_3 k0_4 k0_5 k0_6 k0_7 k1_0 k1_1 k1_2 k1_3 k1_4 k1_5 k1_6 k1_7 k2_0 k2_1 k2_2 k2_3 k2_4 k2_5 k2_6 k2_7
        clear zk0 zl0 zd0 zu0 hw
        have hq42 := eqT42 m0 m1 m2 m3 m4 m5 m6 m7 m8 m9 m10 m11 m12 m13 m14 m15 m16 m17 m18 m19 m20 m21 m22 m23
        have hq55 := eqT55 m0 m1 m2 m3 m4 m5 m6 m7 m8 m9 m10 m11 m12 m13 m14 m15 m16 m17 m18 m19 m20 m21 m22 m23
        go_upto_region 11 with fail
        apply wp_region_reads2 _ (by kernel_rfl) (by kernel_rfl)
        case H =>
          intro x0 hx
          have hne : Nonempty (Wx x0) := ⟨⟨x0, Ext.refl x0⟩⟩
          have k16 := fun (y : Wx x0) => B16.ext (hx.trans y.ext)
          have k14 := fun (y : Wx x0) => B14.ext (hx.trans y.ext)
          repeat (first
            | (go_big_quiet_want; (with_reducible refine quiet_load_blk (op := ⟨some 102, _, _, _, _, _⟩) 55 (.tmp 16) ?_ z16 ?_ (z := #[.int .i64 m0, .int .i64 m1, .int .i64 m2, .int .i64 m3, .int .i64 m4, .int .i64 m5, .int .i64 m6, .int .i64 m7, .int .i64 m8, .int .i64 m9, .int .i64 m10, .int .i64 m11, .int .i64 m12, .int .i64 m13, .int .i64 m14, .int .i64 m15, .int .i64 m16, .int .i64 m17, .int .i64 m18, .int .i64 m19, .int .i64 m20, .int .i64 m21, .int .i64 m22, .int .i64 m23]) (T := 55) ?_ Try.underlying55 ?_ ?_ ?_); rfl; rfl; exact (fun u hu => by obtain ⟨y, rfl⟩ := hu; exact k16 y); rfl; kernel_rfl; simp only [Act.put, List.setIfInBounds_toArray, List.set_cons_succ, List.set_cons_zero]; go_big_quiet_on)
            | (go_big_quiet_want; (with_reducible refine quiet_load_blk (op := ⟨some 104, _, _, _, _, _⟩) 42 (.tmp 14) ?_ z14 ?_ (z := #[.int .i64 m0, .int .i64 m1, .int .i64 m2, .int .i64 m3, .int .i64 m4, .int .i64 m5, .int .i64 m6, .int .i64 m7, .int .i64 m8, .int .i64 m9, .int .i64 m10, .int .i64 m11, .int .i64 m12, .int .i64 m13, .int .i64 m14, .int .i64 m15, .int .i64 m16, .int .i64 m17, .int .i64 m18, .int .i64 m19, .int .i64 m20, .int .i64 m21, .int .i64 m22, .int .i64 m23]) (T := 42) ?_ Try.underlying42 ?_ ?_ ?_); rfl; rfl; exact (fun u hu => by obtain ⟨y, rfl⟩ := hu; exact k14 y); rfl; kernel_rfl; simp only [Act.put, List.setIfInBounds_toArray, List.set_cons_succ, List.set_cons_zero]; go_big_quiet_on)
            | (go_big_quiet_want; (with_reducible refine quiet_load_blk (op := ⟨some 107, _, _, _, _, _⟩) 55 (.tmp 16) ?_ z16 ?_ (z := #[.int .i64 m0, .int .i64 m1, .int .i64 m2, .int .i64 m3, .int .i64 m4, .int .i64 m5, .int .i64 m6, .int .i64 m7, .int .i64 m8, .int .i64 m9, .int .i64 m10, .int .i64 m11, .int .i64 m12, .int .i64 m13, .int .i64 m14, .int .i64 m15, .int .i64 m16, .int .i64 m17, .int .i64 m18, .int .i64 m19, .int .i64 m20, .int .i64 m21, .int .i64 m22, .int .i64 m23]) (T := 55) ?_ Try.underlying55 ?_ ?_ ?_); rfl; rfl; exact (fun u hu => by obtain ⟨y, rfl⟩ := hu; exact k16 y); rfl; kernel_rfl; simp only [Act.put, List.setIfInBounds_toArray, List.set_cons_succ, List.set_cons_zero]; go_big_quiet_on)
            | (go_big_quiet_want; (with_reducible refine quiet_load_blk (op := ⟨some 117, _, _, _, _, _⟩) 55 (.tmp 16) ?_ z16 ?_ (z := #[.int .i64 m0, .int .i64 m1, .int .i64 m2, .int .i64 m3, .int .i64 m4, .int .i64 m5, .int .i64 m6, .int .i64 m7, .int .i64 m8, .int .i64 m9, .int .i64 m10, .int .i64 m11, .int .i64 m12, .int .i64 m13, .int .i64 m14, .int .i64 m15, .int .i64 m16, .int .i64 m17, .int .i64 m18, .int .i64 m19, .int .i64 m20, .int .i64 m21, .int .i64 m22, .int .i64 m23]) (T := 55) ?_ Try.underlying55 ?_ ?_ ?_); rfl; rfl; exact (fun u hu => by obtain ⟨y, rfl⟩ := hu; exact k16 y); rfl; kernel_rfl; simp only [Act.put, List.setIfInBounds_toArray, List.set_cons_succ, List.set_cons_zero]; go_big_quiet_on)
            | (go_big_quiet_want; (with_reducible refine quiet_build (op := ⟨some 118, _, _, _, _, _⟩) 55 #[] ?_ #[.int .i64 0, .int .i64 0, .int .i64 0, .int .i64 0, .int .i64 0, .int .i64 0, .int .i64 0, .int .i64 0, .int .i64 0, .int .i64 0, .int .i64 0, .int .i64 0, .int .i64 0, .int .i64 0, .int .i64 0, .int .i64 0, .int .i64 0, .int .i64 0, .int .i64 0, .int .i64 0, .int .i64 0, .int .i64 0, .int .i64 0, .int .i64 0] ?_ ?_); rfl; kernel_rfl; simp only [Act.put, List.setIfInBounds_toArray, List.set_cons_succ, List.set_cons_zero]; go_big_quiet_on)
            | go_big_quiet_step (first | (go_at_call 16; with_reducible exact calm_of (ref13_any _ _ _ _ _ _ _ _ _ _ _ _ _ _ _ _ _ _ _ _ _ _ _ _ _)) | (go_at_call 17; with_reducible exact calm_of (HCK.out _))))
          exact wpQuiet_nil rfl
        intro wy4 hr
        have xx := xx.trans hr
        have E := E.trans hr
        clear hr B14 B16 hq42 hq55
        go_wp2_with fail
        go_roundg (L.length + 1 - (i + 1))
        case measure => omega
        case rel => exact ⟨i + 1, by omega, by omega, by simp, E⟩
    · have hiI : ¬ (i : Int) + 1 < (L.length : Int) := by omega
      go_wp2_with fail
      go_ret
      exact ⟨rfl, xx⟩
end Go.Proofs.Ytglehnmkdapnpaa

namespace Go.Proofs.Ytglehnmkdapnpaa
open Go.RowKit
set_option linter.unusedVariables false
theorem shown_in64 {v : V8} (h : v.shown) : v.in64 := by
  obtain ⟨a, -, c⟩ := h
  unfold V8.inP at a
  unfold V8.inC at c
  unfold V8.in64 I64
  omega
set_option maxRecDepth 100000 in
theorem setupMakes_row (va vb vc : VSm) (ww hh kk : Int) (ha : va.ok) (hb : vb.ok) (hc : vc.ok) (hw : 0 ≤ ww ∧ ww ≤ 255) (hh9 : 0 ≤ hh ∧ hh ≤ 255) (hk : 0 ≤ kk ∧ kk ≤ 255) (w : World) :
    Calls Try.prog 3 #[.agg (va.l ++ (vb.l ++ vc.l)).toArray, .int .u8 ww, .int .u8 hh, .int .u8 kk] w fun e w' => e = .returned (.bool true) ∧ Ext w w' := by
  have b1 := tm_bd (m := 64) hw.1 (by omega)
  have b2 := tm_bd (m := 64) hh9.1 (by omega)
  have b3 := tm_bd (m := 3) hk.1 (by omega)
  have fa := (vx_fine ha).in64
  have fb := (vx_fine hb).in64
  have fc := (vx_fine hc).in64
  obtain ⟨X, hX⟩ : ∃ X, 1 + ww.tmod 64 = X := ⟨_, rfl⟩
  obtain ⟨Y, hY⟩ : ∃ Y, 1 + hh.tmod 64 = Y := ⟨_, rfl⟩
  have iX : I64 X := by unfold I64; omega
  have iY : I64 Y := by unfold I64; omega
  have hs := gend_shown (gplanes [vxF va, vxF vb, vxF vc] 7)
  exact makes_main va.x va.y va.z va.w va.r va.g va.b va.a vb.x vb.y vb.z vb.w vb.r vb.g vb.b vb.a vc.x vc.y vc.z vc.w vc.r vc.g vc.b vc.a va.far vb.far vc.far (vxF va).p0 (vxF va).p1 (vxF va).p2 (vxF va).p3 (vxF va).c0 (vxF va).c1 (vxF va).c2 (vxF va).c3 (vxF vb).p0 (vxF vb).p1 (vxF vb).p2 (vxF vb).p3 (vxF vb).c0 (vxF vb).c1 (vxF vb).c2 (vxF vb).c3 (vxF vc).p0 (vxF vc).p1 (vxF vc).p2 (vxF vc).p3 (vxF vc).c0 (vxF vc).c1 (vxF vc).c2 (vxF vc).c3 ww hh kk (ww.tmod 64) (hh.tmod 64) X Y (kk.tmod 3) (gend (gplanes [vxF va, vxF vb, vxF vc] 7)) (gend_le _) rfl rfl hX hY rfl ⟨b1.1, by omega⟩ ⟨b2.1, by omega⟩ ⟨b3.1, by omega⟩
    (fun u => vertices12_any va vb vc ha hb hc u) (fun u => clip_any (vxF va) (vxF vb) (vxF vc) fa fb fc u)
    (fun v hv u => sof_any v (shown_in64 (hs v hv)) X Y iX iY u)
    (fun a ha b hb c hc u => rmake_any a b c (hs a ha) (hs b hb) (hs c hc) X Y (kk.tmod 3) (by omega) (by omega) u)
    (fun a ha b hb c hc u => smake_any _ _ _ (ofF_in64 a (shown_in64 (hs a ha)) X Y) (ofF_in64 b (shown_in64 (hs b hb)) X Y) (ofF_in64 c (shown_in64 (hs c hc)) X Y) (kk.tmod 3) ⟨b3.1, by omega⟩ u)
    (fun m hm u => by have := checkT_any m (rng_in64 (chk_rng hm).1) u; rw [hm] at this; exact this) w
end Go.Proofs.Ytglehnmkdapnpaa

