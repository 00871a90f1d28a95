/-
  DERIVED. azulejolaw13's Small.Tri (made by mkset13.py).
-/
import Derived.Test.YtglehnmkdapnpaaPkLaw1
import Derived.Test.YtglehnmkdapnpaaPkEdgeR
namespace Go.Proofs.Ytglehnmkdapnpaa
open Go.RowKit
set_option linter.unusedVariables false
set_option maxRecDepth 100000 in
set_option maxHeartbeats 4000000 in
theorem smallT_zero (s0 s1 s2 s3 s4 s5 e0 e1 e2 n0 n1 n2 a0 a1 a2 a3 b0 b1 b2 b3 c0 c1 c2 c3 sz k k0 q0 q1 q2 q3 q4 q5 m0 m1 m2 ar : Int) (hs0 : -128 ≤ s0 ∧ s0 ≤ 127) (hs1 : -128 ≤ s1 ∧ s1 ≤ 127) (hs2 : -128 ≤ s2 ∧ s2 ≤ 127) (hs3 : -128 ≤ s3 ∧ s3 ≤ 127) (hs4 : -128 ≤ s4 ∧ s4 ≤ 127) (hs5 : -128 ≤ s5 ∧ s5 ≤ 127) (he0 : 0 ≤ e0 ∧ e0 ≤ 65535) (he1 : 0 ≤ e1 ∧ e1 ≤ 65535) (he2 : 0 ≤ e2 ∧ e2 ≤ 65535) (hn0 : 0 ≤ n0 ∧ n0 ≤ 65535) (hn1 : 0 ≤ n1 ∧ n1 ≤ 65535) (hn2 : 0 ≤ n2 ∧ n2 ≤ 65535) (ha0 : 0 ≤ a0 ∧ a0 ≤ 65535) (ha1 : 0 ≤ a1 ∧ a1 ≤ 65535) (ha2 : 0 ≤ a2 ∧ a2 ≤ 65535) (ha3 : 0 ≤ a3 ∧ a3 ≤ 65535) (hb0 : 0 ≤ b0 ∧ b0 ≤ 65535) (hb1 : 0 ≤ b1 ∧ b1 ≤ 65535) (hb2 : 0 ≤ b2 ∧ b2 ≤ 65535) (hb3 : 0 ≤ b3 ∧ b3 ≤ 65535) (hc0 : 0 ≤ c0 ∧ c0 ≤ 65535) (hc1 : 0 ≤ c1 ∧ c1 ≤ 65535) (hc2 : 0 ≤ c2 ∧ c2 ≤ 65535) (hc3 : 0 ≤ c3 ∧ c3 ≤ 65535) (hsz : 0 ≤ sz ∧ sz ≤ 255)
    (hk0 : sz.tmod 4 = k0) (hk : 1 + k0 = k) (hkb : 1 ≤ k ∧ k ≤ 4) (pr0 : s0 * k = q0) (bq0 : -1024 ≤ q0 ∧ q0 ≤ 1024) (pr1 : s1 * k = q1) (bq1 : -1024 ≤ q1 ∧ q1 ≤ 1024) (pr2 : s2 * k = q2) (bq2 : -1024 ≤ q2 ∧ q2 ≤ 1024) (pr3 : s3 * k = q3) (bq3 : -1024 ≤ q3 ∧ q3 ≤ 1024) (pr4 : s4 * k = q4) (bq4 : -1024 ≤ q4 ∧ q4 ≤ 1024) (pr5 : s5 * k = q5) (bq5 : -1024 ≤ q5 ∧ q5 ≤ 1024) (hm0 : n0.tmod 1024 = m0) (bm0 : 0 ≤ m0 ∧ m0 ≤ 1023) (hm1 : n1.tmod 1024 = m1) (bm1 : 0 ≤ m1 ∧ m1 ≤ 1023) (hm2 : n2.tmod 1024 = m2) (bm2 : 0 ≤ m2 ∧ m2 ≤ 1023)
    (hA : ∀ u : World, Calls Try.prog 37 #[.agg #[.int .i64 (q0 + 100), .int .i64 (q1 + 100), .int .i64 (q2 + 100), .int .i64 (q3 + 100), .int .i64 (q4 + 100), .int .i64 (q5 + 100)]] u fun e w' => e = .returned (.int .i64 ar) ∧ Ext u w') (hs : ar = 0)   (w : World) :
    Calls Try.prog 18 #[.agg #[.int .i8 s0, .int .i8 s1, .int .i8 s2, .int .i8 s3, .int .i8 s4, .int .i8 s5, .int .u16 e0, .int .u16 e1, .int .u16 e2, .int .u16 n0, .int .u16 n1, .int .u16 n2, .int .u16 a0, .int .u16 a1, .int .u16 a2, .int .u16 a3, .int .u16 b0, .int .u16 b1, .int .u16 b2, .int .u16 b3, .int .u16 c0, .int .u16 c1, .int .u16 c2, .int .u16 c3, .int .u8 sz]] w fun e w' => e = .returned (.tuple #[.agg #[.int .i64 (q0 + 100), .int .i64 (q1 + 100), .int .i64 (q2 + 100), .int .i64 (q3 + 100), .int .i64 (q4 + 100), .int .i64 (q5 + 100), .int .i64 e0, .int .i64 e1, .int .i64 e2, .int .i64 (1 + m0), .int .i64 (1 + m1), .int .i64 (1 + m2), .int .i64 a0, .int .i64 a1, .int .i64 a2, .int .i64 a3, .int .i64 b0, .int .i64 b1, .int .i64 b2, .int .i64 b3, .int .i64 c0, .int .i64 c1, .int .i64 c2, .int .i64 c3], .bool false]) ∧ Ext w w' := by
  have hS := fun u => smallTri_any s0 s1 s2 s3 s4 s5 hs0 hs1 hs2 hs3 hs4 hs5 u
  have HS := Lib.hid hS
  have HA := Lib.hid hA


  clear hS hA 
  have xx : Ext w ((w.alloc (.cells #[.int .i8 s0, .int .i8 s1, .int .i8 s2, .int .i8 s3, .int .i8 s4, .int .i8 s5, .int .u16 e0, .int .u16 e1, .int .u16 e2, .int .u16 n0, .int .u16 n1, .int .u16 n2, .int .u16 a0, .int .u16 a1, .int .u16 a2, .int .u16 a3, .int .u16 b0, .int .u16 b1, .int .u16 b2, .int .u16 b3, .int .u16 c0, .int .u16 c1, .int .u16 c2, .int .u16 c3, .int .u8 sz] 75)).alloc (.cells #[.int .i64 0, .int .i64 0, .int .i64 0, .int .i64 0, .int .i64 0, .int .i64 0, .int .i64 0, .int .i64 0, .int .i64 0, .int .i64 0, .int .i64 0, .int .i64 0, .int .i64 0, .int .i64 0, .int .i64 0, .int .i64 0, .int .i64 0, .int .i64 0, .int .i64 0, .int .i64 0, .int .i64 0, .int .i64 0, .int .i64 0, .int .i64 0] 55)) := ((Ext.refl w).alloc _ _).alloc _ _
  have B1 := (Blk.new w #[.int .i8 s0, .int .i8 s1, .int .i8 s2, .int .i8 s3, .int .i8 s4, .int .i8 s5, .int .u16 e0, .int .u16 e1, .int .u16 e2, .int .u16 n0, .int .u16 n1, .int .u16 n2, .int .u16 a0, .int .u16 a1, .int .u16 a2, .int .u16 a3, .int .u16 b0, .int .u16 b1, .int .u16 b2, .int .u16 b3, .int .u16 c0, .int .u16 c1, .int .u16 c2, .int .u16 c3, .int .u8 sz] 75).alloc (.cells #[.int .i64 0, .int .i64 0, .int .i64 0, .int .i64 0, .int .i64 0, .int .i64 0, .int .i64 0, .int .i64 0, .int .i64 0, .int .i64 0, .int .i64 0, .int .i64 0, .int .i64 0, .int .i64 0, .int .i64 0, .int .i64 0, .int .i64 0, .int .i64 0, .int .i64 0, .int .i64 0, .int .i64 0, .int .i64 0, .int .i64 0, .int .i64 0] 55)
  have B2 := Blk.new (w.alloc (.cells #[.int .i8 s0, .int .i8 s1, .int .i8 s2, .int .i8 s3, .int .i8 s4, .int .i8 s5, .int .u16 e0, .int .u16 e1, .int .u16 e2, .int .u16 n0, .int .u16 n1, .int .u16 n2, .int .u16 a0, .int .u16 a1, .int .u16 a2, .int .u16 a3, .int .u16 b0, .int .u16 b1, .int .u16 b2, .int .u16 b3, .int .u16 c0, .int .u16 c1, .int .u16 c2, .int .u16 c3, .int .u8 sz] 75)) #[.int .i64 0, .int .i64 0, .int .i64 0, .int .i64 0, .int .i64 0, .int .i64 0, .int .i64 0, .int .i64 0, .int .i64 0, .int .i64 0, .int .i64 0, .int .i64 0, .int .i64 0, .int .i64 0, .int .i64 0, .int .i64 0, .int .i64 0, .int .i64 0, .int .i64 0, .int .i64 0, .int .i64 0, .int .i64 0, .int .i64 0, .int .i64 0] 55
  go_enter Try.func18, Try.ntmps18
  go_upto_region 1 with fail
  simp only [World.size_alloc] at B2
  generalize ((w.alloc (.cells #[.int .i8 s0, .int .i8 s1, .int .i8 s2, .int .i8 s3, .int .i8 s4, .int .i8 s5, .int .u16 e0, .int .u16 e1, .int .u16 e2, .int .u16 n0, .int .u16 n1, .int .u16 n2, .int .u16 a0, .int .u16 a1, .int .u16 a2, .int .u16 a3, .int .u16 b0, .int .u16 b1, .int .u16 b2, .int .u16 b3, .int .u16 c0, .int .u16 c1, .int .u16 c2, .int .u16 c3, .int .u8 sz] 75)).alloc (.cells #[.int .i64 0, .int .i64 0, .int .i64 0, .int .i64 0, .int .i64 0, .int .i64 0, .int .i64 0, .int .i64 0, .int .i64 0, .int .i64 0, .int .i64 0, .int .i64 0, .int .i64 0, .int .i64 0, .int .i64 0, .int .i64 0, .int .i64 0, .int .i64 0, .int .i64 0, .int .i64 0, .int .i64 0, .int .i64 0, .int .i64 0, .int .i64 0] 55)) = w1 at *
  have R := Lib.hid (B1.mid13 0 [.int .i8 s0, .int .i8 s1, .int .i8 s2, .int .i8 s3, .int .i8 s4, .int .i8 s5] rfl)
  go_wp2_with (first
    | ((with_reducible refine wpList_load_mid (op := ⟨some 9, _, _, _, _, _⟩) ?_ 69 (.tmp 8) ?_ w.heap.size 0 ?_ [.int .i8 s0, .int .i8 s1, .int .i8 s2, .int .i8 s3, .int .i8 s4, .int .i8 s5] _ R.out Try.underlying69 ?_ ?_ ?_); rfl; rfl; rfl; rfl; kernel_rfl)
    | fail)
  refine (HS.out _).mono ?_
  rintro e w2 ⟨rfl, x2⟩
  have xx := xx.trans x2
  have B1 := B1.ext x2
  have B2 := B2.ext x2
  clear x2 R HS
  have B4 := (Blk.new w2 #[.int .i64 0, .int .i64 0, .int .i64 0, .int .i64 0, .int .i64 0, .int .i64 0, .int .i64 0, .int .i64 0, .int .i64 0, .int .i64 0, .int .i64 0, .int .i64 0, .int .i64 0, .int .i64 0, .int .i64 0, .int .i64 0, .int .i64 0, .int .i64 0, .int .i64 0, .int .i64 0, .int .i64 0, .int .i64 0, .int .i64 0, .int .i64 0] 55).setRow #[.int .i64 s0, .int .i64 s1, .int .i64 s2, .int .i64 s3, .int .i64 s4, .int .i64 s5, .int .i64 0, .int .i64 0, .int .i64 0, .int .i64 0, .int .i64 0, .int .i64 0, .int .i64 0, .int .i64 0, .int .i64 0, .int .i64 0, .int .i64 0, .int .i64 0, .int .i64 0, .int .i64 0, .int .i64 0, .int .i64 0, .int .i64 0, .int .i64 0]
  have y4 : Ext w2 ((w2.alloc (.cells #[.int .i64 0, .int .i64 0, .int .i64 0, .int .i64 0, .int .i64 0, .int .i64 0, .int .i64 0, .int .i64 0, .int .i64 0, .int .i64 0, .int .i64 0, .int .i64 0, .int .i64 0, .int .i64 0, .int .i64 0, .int .i64 0, .int .i64 0, .int .i64 0, .int .i64 0, .int .i64 0, .int .i64 0, .int .i64 0, .int .i64 0, .int .i64 0] 55)).setRow w2.heap.size #[.int .i64 s0, .int .i64 s1, .int .i64 s2, .int .i64 s3, .int .i64 s4, .int .i64 s5, .int .i64 0, .int .i64 0, .int .i64 0, .int .i64 0, .int .i64 0, .int .i64 0, .int .i64 0, .int .i64 0, .int .i64 0, .int .i64 0, .int .i64 0, .int .i64 0, .int .i64 0, .int .i64 0, .int .i64 0, .int .i64 0, .int .i64 0, .int .i64 0]) := ((Ext.refl _).alloc _ _).setRow (Nat.le_refl _) _
  go_upto_region 2 with (first
    | ((with_reducible refine wpList_build13 (o := ⟨some 11, _, _, _, _, _⟩) ?_ 55 #[(0, .tmp 10)] ?_ #[.int .i64 s0, .int .i64 s1, .int .i64 s2, .int .i64 s3, .int .i64 s4, .int .i64 s5, .int .i64 0, .int .i64 0, .int .i64 0, .int .i64 0, .int .i64 0, .int .i64 0, .int .i64 0, .int .i64 0, .int .i64 0, .int .i64 0, .int .i64 0, .int .i64 0, .int .i64 0, .int .i64 0, .int .i64 0, .int .i64 0, .int .i64 0, .int .i64 0] ?_ ?_); rfl; rfl; kernel_rfl)
    | ((with_reducible refine wpList_store_blk (op := ⟨none, .store 55 (.tmp 4) (.tmp 11), _, _, _, _⟩) ?_ 55 (.tmp 4) (.tmp 11) ?_ (w2.heap.size) ?_ (cs := #[.int .i64 s0, .int .i64 s1, .int .i64 s2, .int .i64 s3, .int .i64 s4, .int .i64 s5, .int .i64 0, .int .i64 0, .int .i64 0, .int .i64 0, .int .i64 0, .int .i64 0, .int .i64 0, .int .i64 0, .int .i64 0, .int .i64 0, .int .i64 0, .int .i64 0, .int .i64 0, .int .i64 0, .int .i64 0, .int .i64 0, .int .i64 0, .int .i64 0]) ?_ (z := #[.int .i64 0, .int .i64 0, .int .i64 0, .int .i64 0, .int .i64 0, .int .i64 0, .int .i64 0, .int .i64 0, .int .i64 0, .int .i64 0, .int .i64 0, .int .i64 0, .int .i64 0, .int .i64 0, .int .i64 0, .int .i64 0, .int .i64 0, .int .i64 0, .int .i64 0, .int .i64 0, .int .i64 0, .int .i64 0, .int .i64 0, .int .i64 0]) (T := 55) ?_ ?_ ?_ ?_ ?_); rfl; rfl; rfl; rfl; exact Blk.new w2 _ _; kernel_rfl; kernel_rfl; kernel_rfl)
    | fail)
  simp only [Act.put]
  have hb4 := B2.lt
  have xx := xx.trans y4
  have B1 := B1.ext y4
  have B2 := B2.ext y4
  clear y4
  generalize (w2.alloc (.cells #[.int .i64 0, .int .i64 0, .int .i64 0, .int .i64 0, .int .i64 0, .int .i64 0, .int .i64 0, .int .i64 0, .int .i64 0, .int .i64 0, .int .i64 0, .int .i64 0, .int .i64 0, .int .i64 0, .int .i64 0, .int .i64 0, .int .i64 0, .int .i64 0, .int .i64 0, .int .i64 0, .int .i64 0, .int .i64 0, .int .i64 0, .int .i64 0] 55)).setRow w2.heap.size #[.int .i64 s0, .int .i64 s1, .int .i64 s2, .int .i64 s3, .int .i64 s4, .int .i64 s5, .int .i64 0, .int .i64 0, .int .i64 0, .int .i64 0, .int .i64 0, .int .i64 0, .int .i64 0, .int .i64 0, .int .i64 0, .int .i64 0, .int .i64 0, .int .i64 0, .int .i64 0, .int .i64 0, .int .i64 0, .int .i64 0, .int .i64 0, .int .i64 0] = w3 at *
  generalize w2.heap.size = k4 at *
  have cc1 := B1.cell
  go_wp2_with fail
  clear cc1
  refine wp_loop_rounds 4 ?_
  rw [rounds_succ]
  go_upto_region 6 with fail
  have c4 := B4.cell
  have f4 := B4.frozen
  go_region
  clear c4 f4
  have yd : Ext ((w3.setCell ⟨k4, 0, none⟩ (.int .i64 (q0 + 100))).setCell ⟨k4, 1, none⟩ (.int .i64 (q1 + 100))) ((w3.setCell ⟨k4, 0, none⟩ (.int .i64 (q0 + 100))).setCell ⟨k4, 1, none⟩ (.int .i64 (q1 + 100))).drew := (Ext.refl _).drew
  have B4 : Blk ((w3.setCell ⟨k4, 0, none⟩ (.int .i64 (q0 + 100))).setCell ⟨k4, 1, none⟩ (.int .i64 (q1 + 100))).drew k4 #[.int .i64 (q0 + 100), .int .i64 (q1 + 100), .int .i64 s2, .int .i64 s3, .int .i64 s4, .int .i64 s5, .int .i64 0, .int .i64 0, .int .i64 0, .int .i64 0, .int .i64 0, .int .i64 0, .int .i64 0, .int .i64 0, .int .i64 0, .int .i64 0, .int .i64 0, .int .i64 0, .int .i64 0, .int .i64 0, .int .i64 0, .int .i64 0, .int .i64 0, .int .i64 0] 55 := by simpa using ((B4.set 0 (.int .i64 (q0 + 100))).set 1 (.int .i64 (q1 + 100))).ext yd
  have B1 := ((B1.far (p := ⟨k4, 0, none⟩) (by simp only; omega) (.int .i64 (q0 + 100))).far (p := ⟨k4, 1, none⟩) (by simp only; omega) (.int .i64 (q1 + 100))).ext yd
  have B2 := ((B2.far (p := ⟨k4, 0, none⟩) (by simp only; omega) (.int .i64 (q0 + 100))).far (p := ⟨k4, 1, none⟩) (by simp only; omega) (.int .i64 (q1 + 100))).ext yd
  have xx := ((xx.setCell (p := ⟨k4, 0, none⟩) (by simp only; omega) (.int .i64 (q0 + 100))).setCell (p := ⟨k4, 1, none⟩) (by simp only; omega) (.int .i64 (q1 + 100))).trans yd
  clear yd
  generalize ((w3.setCell ⟨k4, 0, none⟩ (.int .i64 (q0 + 100))).setCell ⟨k4, 1, none⟩ (.int .i64 (q1 + 100))).drew = w5_0 at *
  go_upto_region 7 with fail
  apply wp_region_tail 3 [false, false, false, false, false, false, false, false, false, false, false, false, false, false, false, false, true, false, false, true] [] [k4] _ (by kernel_rfl) (by kernel_rfl) (by kernel_rfl)
  case H =>
    intro x0 hx
    have hne : Nonempty (Wx x0) := ⟨⟨x0, Ext.refl x0⟩⟩
    have qB1 := fun (y : Wx x0) => ((B1.calm hx (by simp <;> omega)).ext y.ext).cell
    simp only [eraseM]
    repeat (go_big_quiet_step (fail))
    exact wpQuiet_nil rfl
  case hF => rfl
  change tailW _ _ _ _ [_, _] _ _
  refine fun u0 x0 hc0 => ?_
  have B := B4.ext x0
  have cc := B.cell
  have ff := B.frozen
  refine gives_skip (u' := (u0.setCell ⟨k4, 6, none⟩ (.int .i64 e0))) (by simp [go_sem, cc, ff]) ⟨((hc0).trans (calm_put u0 k4 6 (.int .i64 e0))), fun u1 x1 hc1 => ?_⟩
  have B := (B.set 6 (.int .i64 e0)).ext x1
  clear cc ff
  have cc := B.cell
  have ff := B.frozen
  refine gives_skip (u' := (u1.setCell ⟨k4, 9, none⟩ (.int .i64 (1 + m0)))) (by simp [go_sem, cc, ff]) ⟨((hc1).trans (calm_put u1 k4 9 (.int .i64 (1 + m0)))), fun w6_0 x2 hc2 => ?_⟩
  have B := (B.set 9 (.int .i64 (1 + m0))).ext x2
  clear cc ff
  have B4 : Blk w6_0 k4 #[.int .i64 (q0 + 100), .int .i64 (q1 + 100), .int .i64 s2, .int .i64 s3, .int .i64 s4, .int .i64 s5, .int .i64 e0, .int .i64 0, .int .i64 0, .int .i64 (1 + m0), .int .i64 0, .int .i64 0, .int .i64 0, .int .i64 0, .int .i64 0, .int .i64 0, .int .i64 0, .int .i64 0, .int .i64 0, .int .i64 0, .int .i64 0, .int .i64 0, .int .i64 0, .int .i64 0] 55 := by simpa using B
  clear B x0 x1 x2 hc0 hc1
  simp only [Act.put]
  have B1 := B1.calm hc2 (by simp; omega)
  have B2 := B2.calm hc2 (by simp; omega)
  have xx := Ext.calm_trans xx hc2 (by simp; omega)
  clear hc2
  go_wp2_with fail
  refine wp_loop_rounds 5 ?_
  rw [rounds_succ]
  go_upto_region 11 with fail
  apply wp_region_vars [false, false, false, false, false, false, false, false, false, false, false, false, true] [k4] [⟨none, 0, k4, some 12, 55, #[.int .i64 (q0 + 100), .int .i64 (q1 + 100), .int .i64 s2, .int .i64 s3, .int .i64 s4, .int .i64 s5, .int .i64 e0, .int .i64 0, .int .i64 0, .int .i64 (1 + m0), .int .i64 0, .int .i64 0, .int .i64 0, .int .i64 0, .int .i64 0, .int .i64 0, .int .i64 0, .int .i64 0, .int .i64 0, .int .i64 0, .int .i64 0, .int .i64 0, .int .i64 0, .int .i64 0], #[.int .i64 (q0 + 100), .int .i64 (q1 + 100), .int .i64 s2, .int .i64 s3, .int .i64 s4, .int .i64 s5, .int .i64 e0, .int .i64 0, .int .i64 0, .int .i64 (1 + m0), .int .i64 0, .int .i64 0, .int .i64 a0, .int .i64 0, .int .i64 0, .int .i64 0, .int .i64 0, .int .i64 0, .int .i64 0, .int .i64 0, .int .i64 0, .int .i64 0, .int .i64 0, .int .i64 0]⟩] _ (by kernel_rfl) (by kernel_rfl) (by kernel_rfl)
  case H =>
    intro x0 hx
    have hne : Nonempty (Wx x0) := ⟨⟨x0, Ext.refl x0⟩⟩
    have qB1 := fun (y : Wx x0) => ((B1.calm hx (by simp <;> omega)).ext y.ext).cell
    simp only [eraseM]
    repeat (go_big_quiet_step (fail))
    exact wpQuiet_nil rfl
  case hok =>
    simp only [List.forall_mem_cons, List.not_mem_nil, false_implies, implies_true, and_true]
    exact tgt_mine (v := .int .i64 a0) (off := 12) (by simp) B4 rfl rfl rfl rfl rfl rfl (by kernel_rfl) (by kernel_rfl) (of_decide_eq_true (by kernel_rfl)) rfl
  case hdis =>
    intro k k' t t' hk hk' hkk ha ha'
    exfalso
    have h1 : k < 1 := (List.getElem?_eq_some_iff.1 hk).1
    have h2 : k' < 1 := (List.getElem?_eq_some_iff.1 hk').1
    omega
  rintro w7_00 f hw ⟨k0, l0, d0, u0, -⟩
  have e0' : f 0 = k4 := k0
  rw [e0'] at d0
  simp only [pairs, putAll, Option.isSome_none, Bool.false_eq_true, if_false]
  have B4 : Blk w7_00 k4 #[.int .i64 (q0 + 100), .int .i64 (q1 + 100), .int .i64 s2, .int .i64 s3, .int .i64 s4, .int .i64 s5, .int .i64 e0, .int .i64 0, .int .i64 0, .int .i64 (1 + m0), .int .i64 0, .int .i64 0, .int .i64 a0, .int .i64 0, .int .i64 0, .int .i64 0, .int .i64 0, .int .i64 0, .int .i64 0, .int .i64 0, .int .i64 0, .int .i64 0, .int .i64 0, .int .i64 0] 55 := d0
  have B1 := B1.calm hw (by simp; omega)
  have B2 := B2.calm hw (by simp; omega)
  have xx := Ext.calm_trans xx hw (by simp; omega)
  clear k0 l0 d0 u0 e0' hw
  go_wp2_with fail
  rw [rounds_succ]
  go_upto_region 11 with fail
  apply wp_region_vars [false, false, false, false, false, false, false, false, false, false, false, false, true] [k4] [⟨none, 0, k4, some 12, 55, #[.int .i64 (q0 + 100), .int .i64 (q1 + 100), .int .i64 s2, .int .i64 s3, .int .i64 s4, .int .i64 s5, .int .i64 e0, .int .i64 0, .int .i64 0, .int .i64 (1 + m0), .int .i64 0, .int .i64 0, .int .i64 a0, .int .i64 0, .int .i64 0, .int .i64 0, .int .i64 0, .int .i64 0, .int .i64 0, .int .i64 0, .int .i64 0, .int .i64 0, .int .i64 0, .int .i64 0], #[.int .i64 (q0 + 100), .int .i64 (q1 + 100), .int .i64 s2, .int .i64 s3, .int .i64 s4, .int .i64 s5, .int .i64 e0, .int .i64 0, .int .i64 0, .int .i64 (1 + m0), .int .i64 0, .int .i64 0, .int .i64 a0, .int .i64 a1, .int .i64 0, .int .i64 0, .int .i64 0, .int .i64 0, .int .i64 0, .int .i64 0, .int .i64 0, .int .i64 0, .int .i64 0, .int .i64 0]⟩] _ (by kernel_rfl) (by kernel_rfl) (by kernel_rfl)
  case H =>
    intro x0 hx
    have hne : Nonempty (Wx x0) := ⟨⟨x0, Ext.refl x0⟩⟩
    have qB1 := fun (y : Wx x0) => ((B1.calm hx (by simp <;> omega)).ext y.ext).cell
    simp only [eraseM]
    repeat (go_big_quiet_step (fail))
    exact wpQuiet_nil rfl
  case hok =>
    simp only [List.forall_mem_cons, List.not_mem_nil, false_implies, implies_true, and_true]
    exact tgt_mine (v := .int .i64 a1) (off := 13) (by simp) B4 rfl rfl rfl rfl rfl rfl (by kernel_rfl) (by kernel_rfl) (of_decide_eq_true (by kernel_rfl)) rfl
  case hdis =>
    intro k k' t t' hk hk' hkk ha ha'
    exfalso
    have h1 : k < 1 := (List.getElem?_eq_some_iff.1 hk).1
    have h2 : k' < 1 := (List.getElem?_eq_some_iff.1 hk').1
    omega
  rintro w7_01 f hw ⟨k0, l0, d0, u0, -⟩
  have e0' : f 0 = k4 := k0
  rw [e0'] at d0
  simp only [pairs, putAll, Option.isSome_none, Bool.false_eq_true, if_false]
  have B4 : Blk w7_01 k4 #[.int .i64 (q0 + 100), .int .i64 (q1 + 100), .int .i64 s2, .int .i64 s3, .int .i64 s4, .int .i64 s5, .int .i64 e0, .int .i64 0, .int .i64 0, .int .i64 (1 + m0), .int .i64 0, .int .i64 0, .int .i64 a0, .int .i64 a1, .int .i64 0, .int .i64 0, .int .i64 0, .int .i64 0, .int .i64 0, .int .i64 0, .int .i64 0, .int .i64 0, .int .i64 0, .int .i64 0] 55 := d0
  have B1 := B1.calm hw (by simp; omega)
  have B2 := B2.calm hw (by simp; omega)
  have xx := Ext.calm_trans xx hw (by simp; omega)
  clear k0 l0 d0 u0 e0' hw
  go_wp2_with fail
  rw [rounds_succ]
  go_upto_region 11 with fail
  apply wp_region_vars [false, false, false, false, false, false, false, false, false, false, false, false, true] [k4] [⟨none, 0, k4, some 12, 55, #[.int .i64 (q0 + 100), .int .i64 (q1 + 100), .int .i64 s2, .int .i64 s3, .int .i64 s4, .int .i64 s5, .int .i64 e0, .int .i64 0, .int .i64 0, .int .i64 (1 + m0), .int .i64 0, .int .i64 0, .int .i64 a0, .int .i64 a1, .int .i64 0, .int .i64 0, .int .i64 0, .int .i64 0, .int .i64 0, .int .i64 0, .int .i64 0, .int .i64 0, .int .i64 0, .int .i64 0], #[.int .i64 (q0 + 100), .int .i64 (q1 + 100), .int .i64 s2, .int .i64 s3, .int .i64 s4, .int .i64 s5, .int .i64 e0, .int .i64 0, .int .i64 0, .int .i64 (1 + m0), .int .i64 0, .int .i64 0, .int .i64 a0, .int .i64 a1, .int .i64 a2, .int .i64 0, .int .i64 0, .int .i64 0, .int .i64 0, .int .i64 0, .int .i64 0, .int .i64 0, .int .i64 0, .int .i64 0]⟩] _ (by kernel_rfl) (by kernel_rfl) (by kernel_rfl)
  case H =>
    intro x0 hx
    have hne : Nonempty (Wx x0) := ⟨⟨x0, Ext.refl x0⟩⟩
    have qB1 := fun (y : Wx x0) => ((B1.calm hx (by simp <;> omega)).ext y.ext).cell
    simp only [eraseM]
    repeat (go_big_quiet_step (fail))
    exact wpQuiet_nil rfl
  case hok =>
    simp only [List.forall_mem_cons, List.not_mem_nil, false_implies, implies_true, and_true]
    exact tgt_mine (v := .int .i64 a2) (off := 14) (by simp) B4 rfl rfl rfl rfl rfl rfl (by kernel_rfl) (by kernel_rfl) (of_decide_eq_true (by kernel_rfl)) rfl
  case hdis =>
    intro k k' t t' hk hk' hkk ha ha'
    exfalso
    have h1 : k < 1 := (List.getElem?_eq_some_iff.1 hk).1
    have h2 : k' < 1 := (List.getElem?_eq_some_iff.1 hk').1
    omega
  rintro w7_02 f hw ⟨k0, l0, d0, u0, -⟩
  have e0' : f 0 = k4 := k0
  rw [e0'] at d0
  simp only [pairs, putAll, Option.isSome_none, Bool.false_eq_true, if_false]
  have B4 : Blk w7_02 k4 #[.int .i64 (q0 + 100), .int .i64 (q1 + 100), .int .i64 s2, .int .i64 s3, .int .i64 s4, .int .i64 s5, .int .i64 e0, .int .i64 0, .int .i64 0, .int .i64 (1 + m0), .int .i64 0, .int .i64 0, .int .i64 a0, .int .i64 a1, .int .i64 a2, .int .i64 0, .int .i64 0, .int .i64 0, .int .i64 0, .int .i64 0, .int .i64 0, .int .i64 0, .int .i64 0, .int .i64 0] 55 := d0
  have B1 := B1.calm hw (by simp; omega)
  have B2 := B2.calm hw (by simp; omega)
  have xx := Ext.calm_trans xx hw (by simp; omega)
  clear k0 l0 d0 u0 e0' hw
  go_wp2_with fail
  rw [rounds_succ]
  go_upto_region 11 with fail
  apply wp_region_vars [false, false, false, false, false, false, false, false, false, false, false, false, true] [k4] [⟨none, 0, k4, some 12, 55, #[.int .i64 (q0 + 100), .int .i64 (q1 + 100), .int .i64 s2, .int .i64 s3, .int .i64 s4, .int .i64 s5, .int .i64 e0, .int .i64 0, .int .i64 0, .int .i64 (1 + m0), .int .i64 0, .int .i64 0, .int .i64 a0, .int .i64 a1, .int .i64 a2, .int .i64 0, .int .i64 0, .int .i64 0, .int .i64 0, .int .i64 0, .int .i64 0, .int .i64 0, .int .i64 0, .int .i64 0], #[.int .i64 (q0 + 100), .int .i64 (q1 + 100), .int .i64 s2, .int .i64 s3, .int .i64 s4, .int .i64 s5, .int .i64 e0, .int .i64 0, .int .i64 0, .int .i64 (1 + m0), .int .i64 0, .int .i64 0, .int .i64 a0, .int .i64 a1, .int .i64 a2, .int .i64 a3, .int .i64 0, .int .i64 0, .int .i64 0, .int .i64 0, .int .i64 0, .int .i64 0, .int .i64 0, .int .i64 0]⟩] _ (by kernel_rfl) (by kernel_rfl) (by kernel_rfl)
  case H =>
    intro x0 hx
    have hne : Nonempty (Wx x0) := ⟨⟨x0, Ext.refl x0⟩⟩
    have qB1 := fun (y : Wx x0) => ((B1.calm hx (by simp <;> omega)).ext y.ext).cell
    simp only [eraseM]
    repeat (go_big_quiet_step (fail))
    exact wpQuiet_nil rfl
  case hok =>
    simp only [List.forall_mem_cons, List.not_mem_nil, false_implies, implies_true, and_true]
    exact tgt_mine (v := .int .i64 a3) (off := 15) (by simp) B4 rfl rfl rfl rfl rfl rfl (by kernel_rfl) (by kernel_rfl) (of_decide_eq_true (by kernel_rfl)) rfl
  case hdis =>
    intro k k' t t' hk hk' hkk ha ha'
    exfalso
    have h1 : k < 1 := (List.getElem?_eq_some_iff.1 hk).1
    have h2 : k' < 1 := (List.getElem?_eq_some_iff.1 hk').1
    omega
  rintro w7_03 f hw ⟨k0, l0, d0, u0, -⟩
  have e0' : f 0 = k4 := k0
  rw [e0'] at d0
  simp only [pairs, putAll, Option.isSome_none, Bool.false_eq_true, if_false]
  have B4 : Blk w7_03 k4 #[.int .i64 (q0 + 100), .int .i64 (q1 + 100), .int .i64 s2, .int .i64 s3, .int .i64 s4, .int .i64 s5, .int .i64 e0, .int .i64 0, .int .i64 0, .int .i64 (1 + m0), .int .i64 0, .int .i64 0, .int .i64 a0, .int .i64 a1, .int .i64 a2, .int .i64 a3, .int .i64 0, .int .i64 0, .int .i64 0, .int .i64 0, .int .i64 0, .int .i64 0, .int .i64 0, .int .i64 0] 55 := d0
  have B1 := B1.calm hw (by simp; omega)
  have B2 := B2.calm hw (by simp; omega)
  have xx := Ext.calm_trans xx hw (by simp; omega)
  clear k0 l0 d0 u0 e0' hw
  go_wp2_with fail
  rw [rounds_succ]
  go_wp2_with fail
  rw [rounds_succ]
  go_upto_region 6 with fail
  have c4 := B4.cell
  have f4 := B4.frozen
  go_region
  clear c4 f4
  have yd : Ext ((w7_03.setCell ⟨k4, 2, none⟩ (.int .i64 (q2 + 100))).setCell ⟨k4, 3, none⟩ (.int .i64 (q3 + 100))) ((w7_03.setCell ⟨k4, 2, none⟩ (.int .i64 (q2 + 100))).setCell ⟨k4, 3, none⟩ (.int .i64 (q3 + 100))).drew := (Ext.refl _).drew
  have B4 : Blk ((w7_03.setCell ⟨k4, 2, none⟩ (.int .i64 (q2 + 100))).setCell ⟨k4, 3, none⟩ (.int .i64 (q3 + 100))).drew k4 #[.int .i64 (q0 + 100), .int .i64 (q1 + 100), .int .i64 (q2 + 100), .int .i64 (q3 + 100), .int .i64 s4, .int .i64 s5, .int .i64 e0, .int .i64 0, .int .i64 0, .int .i64 (1 + m0), .int .i64 0, .int .i64 0, .int .i64 a0, .int .i64 a1, .int .i64 a2, .int .i64 a3, .int .i64 0, .int .i64 0, .int .i64 0, .int .i64 0, .int .i64 0, .int .i64 0, .int .i64 0, .int .i64 0] 55 := by simpa using ((B4.set 2 (.int .i64 (q2 + 100))).set 3 (.int .i64 (q3 + 100))).ext yd
  have B1 := ((B1.far (p := ⟨k4, 2, none⟩) (by simp only; omega) (.int .i64 (q2 + 100))).far (p := ⟨k4, 3, none⟩) (by simp only; omega) (.int .i64 (q3 + 100))).ext yd
  have B2 := ((B2.far (p := ⟨k4, 2, none⟩) (by simp only; omega) (.int .i64 (q2 + 100))).far (p := ⟨k4, 3, none⟩) (by simp only; omega) (.int .i64 (q3 + 100))).ext yd
  have xx := ((xx.setCell (p := ⟨k4, 2, none⟩) (by simp only; omega) (.int .i64 (q2 + 100))).setCell (p := ⟨k4, 3, none⟩) (by simp only; omega) (.int .i64 (q3 + 100))).trans yd
  clear yd
  generalize ((w7_03.setCell ⟨k4, 2, none⟩ (.int .i64 (q2 + 100))).setCell ⟨k4, 3, none⟩ (.int .i64 (q3 + 100))).drew = w5_1 at *
  go_upto_region 7 with fail
  apply wp_region_tail 3 [false, false, false, false, false, false, false, false, false, false, false, false, false, false, false, false, true, false, false, true] [] [k4] _ (by kernel_rfl) (by kernel_rfl) (by kernel_rfl)
  case H =>
    intro x0 hx
    have hne : Nonempty (Wx x0) := ⟨⟨x0, Ext.refl x0⟩⟩
    have qB1 := fun (y : Wx x0) => ((B1.calm hx (by simp <;> omega)).ext y.ext).cell
    simp only [eraseM]
    repeat (go_big_quiet_step (fail))
    exact wpQuiet_nil rfl
  case hF => rfl
  change tailW _ _ _ _ [_, _] _ _
  refine fun u0 x0 hc0 => ?_
  have B := B4.ext x0
  have cc := B.cell
  have ff := B.frozen
  refine gives_skip (u' := (u0.setCell ⟨k4, 7, none⟩ (.int .i64 e1))) (by simp [go_sem, cc, ff]) ⟨((hc0).trans (calm_put u0 k4 7 (.int .i64 e1))), fun u1 x1 hc1 => ?_⟩
  have B := (B.set 7 (.int .i64 e1)).ext x1
  clear cc ff
  have cc := B.cell
  have ff := B.frozen
  refine gives_skip (u' := (u1.setCell ⟨k4, 10, none⟩ (.int .i64 (1 + m1)))) (by simp [go_sem, cc, ff]) ⟨((hc1).trans (calm_put u1 k4 10 (.int .i64 (1 + m1)))), fun w6_1 x2 hc2 => ?_⟩
  have B := (B.set 10 (.int .i64 (1 + m1))).ext x2
  clear cc ff
  have B4 : Blk w6_1 k4 #[.int .i64 (q0 + 100), .int .i64 (q1 + 100), .int .i64 (q2 + 100), .int .i64 (q3 + 100), .int .i64 s4, .int .i64 s5, .int .i64 e0, .int .i64 e1, .int .i64 0, .int .i64 (1 + m0), .int .i64 (1 + m1), .int .i64 0, .int .i64 a0, .int .i64 a1, .int .i64 a2, .int .i64 a3, .int .i64 0, .int .i64 0, .int .i64 0, .int .i64 0, .int .i64 0, .int .i64 0, .int .i64 0, .int .i64 0] 55 := by simpa using B
  clear B x0 x1 x2 hc0 hc1
  simp only [Act.put]
  have B1 := B1.calm hc2 (by simp; omega)
  have B2 := B2.calm hc2 (by simp; omega)
  have xx := Ext.calm_trans xx hc2 (by simp; omega)
  clear hc2
  go_wp2_with fail
  refine wp_loop_rounds 5 ?_
  rw [rounds_succ]
  go_upto_region 11 with fail
  apply wp_region_vars [false, false, false, false, false, false, false, false, false, false, false, false, true] [k4] [⟨none, 0, k4, some 12, 55, #[.int .i64 (q0 + 100), .int .i64 (q1 + 100), .int .i64 (q2 + 100), .int .i64 (q3 + 100), .int .i64 s4, .int .i64 s5, .int .i64 e0, .int .i64 e1, .int .i64 0, .int .i64 (1 + m0), .int .i64 (1 + m1), .int .i64 0, .int .i64 a0, .int .i64 a1, .int .i64 a2, .int .i64 a3, .int .i64 0, .int .i64 0, .int .i64 0, .int .i64 0, .int .i64 0, .int .i64 0, .int .i64 0, .int .i64 0], #[.int .i64 (q0 + 100), .int .i64 (q1 + 100), .int .i64 (q2 + 100), .int .i64 (q3 + 100), .int .i64 s4, .int .i64 s5, .int .i64 e0, .int .i64 e1, .int .i64 0, .int .i64 (1 + m0), .int .i64 (1 + m1), .int .i64 0, .int .i64 a0, .int .i64 a1, .int .i64 a2, .int .i64 a3, .int .i64 b0, .int .i64 0, .int .i64 0, .int .i64 0, .int .i64 0, .int .i64 0, .int .i64 0, .int .i64 0]⟩] _ (by kernel_rfl) (by kernel_rfl) (by kernel_rfl)
  case H =>
    intro x0 hx
    have hne : Nonempty (Wx x0) := ⟨⟨x0, Ext.refl x0⟩⟩
    have qB1 := fun (y : Wx x0) => ((B1.calm hx (by simp <;> omega)).ext y.ext).cell
    simp only [eraseM]
    repeat (go_big_quiet_step (fail))
    exact wpQuiet_nil rfl
  case hok =>
    simp only [List.forall_mem_cons, List.not_mem_nil, false_implies, implies_true, and_true]
    exact tgt_mine (v := .int .i64 b0) (off := 16) (by simp) B4 rfl rfl rfl rfl rfl rfl (by kernel_rfl) (by kernel_rfl) (of_decide_eq_true (by kernel_rfl)) rfl
  case hdis =>
    intro k k' t t' hk hk' hkk ha ha'
    exfalso
    have h1 : k < 1 := (List.getElem?_eq_some_iff.1 hk).1
    have h2 : k' < 1 := (List.getElem?_eq_some_iff.1 hk').1
    omega
  rintro w7_10 f hw ⟨k0, l0, d0, u0, -⟩
  have e0' : f 0 = k4 := k0
  rw [e0'] at d0
  simp only [pairs, putAll, Option.isSome_none, Bool.false_eq_true, if_false]
  have B4 : Blk w7_10 k4 #[.int .i64 (q0 + 100), .int .i64 (q1 + 100), .int .i64 (q2 + 100), .int .i64 (q3 + 100), .int .i64 s4, .int .i64 s5, .int .i64 e0, .int .i64 e1, .int .i64 0, .int .i64 (1 + m0), .int .i64 (1 + m1), .int .i64 0, .int .i64 a0, .int .i64 a1, .int .i64 a2, .int .i64 a3, .int .i64 b0, .int .i64 0, .int .i64 0, .int .i64 0, .int .i64 0, .int .i64 0, .int .i64 0, .int .i64 0] 55 := d0
  have B1 := B1.calm hw (by simp; omega)
  have B2 := B2.calm hw (by simp; omega)
  have xx := Ext.calm_trans xx hw (by simp; omega)
  clear k0 l0 d0 u0 e0' hw
  go_wp2_with fail
  rw [rounds_succ]
  go_upto_region 11 with fail
  apply wp_region_vars [false, false, false, false, false, false, false, false, false, false, false, false, true] [k4] [⟨none, 0, k4, some 12, 55, #[.int .i64 (q0 + 100), .int .i64 (q1 + 100), .int .i64 (q2 + 100), .int .i64 (q3 + 100), .int .i64 s4, .int .i64 s5, .int .i64 e0, .int .i64 e1, .int .i64 0, .int .i64 (1 + m0), .int .i64 (1 + m1), .int .i64 0, .int .i64 a0, .int .i64 a1, .int .i64 a2, .int .i64 a3, .int .i64 b0, .int .i64 0, .int .i64 0, .int .i64 0, .int .i64 0, .int .i64 0, .int .i64 0, .int .i64 0], #[.int .i64 (q0 + 100), .int .i64 (q1 + 100), .int .i64 (q2 + 100), .int .i64 (q3 + 100), .int .i64 s4, .int .i64 s5, .int .i64 e0, .int .i64 e1, .int .i64 0, .int .i64 (1 + m0), .int .i64 (1 + m1), .int .i64 0, .int .i64 a0, .int .i64 a1, .int .i64 a2, .int .i64 a3, .int .i64 b0, .int .i64 b1, .int .i64 0, .int .i64 0, .int .i64 0, .int .i64 0, .int .i64 0, .int .i64 0]⟩] _ (by kernel_rfl) (by kernel_rfl) (by kernel_rfl)
  case H =>
    intro x0 hx
    have hne : Nonempty (Wx x0) := ⟨⟨x0, Ext.refl x0⟩⟩
    have qB1 := fun (y : Wx x0) => ((B1.calm hx (by simp <;> omega)).ext y.ext).cell
    simp only [eraseM]
    repeat (go_big_quiet_step (fail))
    exact wpQuiet_nil rfl
  case hok =>
    simp only [List.forall_mem_cons, List.not_mem_nil, false_implies, implies_true, and_true]
    exact tgt_mine (v := .int .i64 b1) (off := 17) (by simp) B4 rfl rfl rfl rfl rfl rfl (by kernel_rfl) (by kernel_rfl) (of_decide_eq_true (by kernel_rfl)) rfl
  case hdis =>
    intro k k' t t' hk hk' hkk ha ha'
    exfalso
    have h1 : k < 1 := (List.getElem?_eq_some_iff.1 hk).1
    have h2 : k' < 1 := (List.getElem?_eq_some_iff.1 hk').1
    omega
  rintro w7_11 f hw ⟨k0, l0, d0, u0, -⟩
  have e0' : f 0 = k4 := k0
  rw [e0'] at d0
  simp only [pairs, putAll, Option.isSome_none, Bool.false_eq_true, if_false]
  have B4 : Blk w7_11 k4 #[.int .i64 (q0 + 100), .int .i64 (q1 + 100), .int .i64 (q2 + 100), .int .i64 (q3 + 100), .int .i64 s4, .int .i64 s5, .int .i64 e0, .int .i64 e1, .int .i64 0, .int .i64 (1 + m0), .int .i64 (1 + m1), .int .i64 0, .int .i64 a0, .int .i64 a1, .int .i64 a2, .int .i64 a3, .int .i64 b0, .int .i64 b1, .int .i64 0, .int .i64 0, .int .i64 0, .int .i64 0, .int .i64 0, .int .i64 0] 55 := d0
  have B1 := B1.calm hw (by simp; omega)
  have B2 := B2.calm hw (by simp; omega)
  have xx := Ext.calm_trans xx hw (by simp; omega)
  clear k0 l0 d0 u0 e0' hw
  go_wp2_with fail
  rw [rounds_succ]
  go_upto_region 11 with fail
  apply wp_region_vars [false, false, false, false, false, false, false, false, false, false, false, false, true] [k4] [⟨none, 0, k4, some 12, 55, #[.int .i64 (q0 + 100), .int .i64 (q1 + 100), .int .i64 (q2 + 100), .int .i64 (q3 + 100), .int .i64 s4, .int .i64 s5, .int .i64 e0, .int .i64 e1, .int .i64 0, .int .i64 (1 + m0), .int .i64 (1 + m1), .int .i64 0, .int .i64 a0, .int .i64 a1, .int .i64 a2, .int .i64 a3, .int .i64 b0, .int .i64 b1, .int .i64 0, .int .i64 0, .int .i64 0, .int .i64 0, .int .i64 0, .int .i64 0], #[.int .i64 (q0 + 100), .int .i64 (q1 + 100), .int .i64 (q2 + 100), .int .i64 (q3 + 100), .int .i64 s4, .int .i64 s5, .int .i64 e0, .int .i64 e1, .int .i64 0, .int .i64 (1 + m0), .int .i64 (1 + m1), .int .i64 0, .int .i64 a0, .int .i64 a1, .int .i64 a2, .int .i64 a3, .int .i64 b0, .int .i64 b1, .int .i64 b2, .int .i64 0, .int .i64 0, .int .i64 0, .int .i64 0, .int .i64 0]⟩] _ (by kernel_rfl) (by kernel_rfl) (by kernel_rfl)
  case H =>
    intro x0 hx
    have hne : Nonempty (Wx x0) := ⟨⟨x0, Ext.refl x0⟩⟩
    have qB1 := fun (y : Wx x0) => ((B1.calm hx (by simp <;> omega)).ext y.ext).cell
    simp only [eraseM]
    repeat (go_big_quiet_step (fail))
    exact wpQuiet_nil rfl
  case hok =>
    simp only [List.forall_mem_cons, List.not_mem_nil, false_implies, implies_true, and_true]
    exact tgt_mine (v := .int .i64 b2) (off := 18) (by simp) B4 rfl rfl rfl rfl rfl rfl (by kernel_rfl) (by kernel_rfl) (of_decide_eq_true (by kernel_rfl)) rfl
  case hdis =>
    intro k k' t t' hk hk' hkk ha ha'
    exfalso
    have h1 : k < 1 := (List.getElem?_eq_some_iff.1 hk).1
    have h2 : k' < 1 := (List.getElem?_eq_some_iff.1 hk').1
    omega
  rintro w7_12 f hw ⟨k0, l0, d0, u0, -⟩
  have e0' : f 0 = k4 := k0
  rw [e0'] at d0
  simp only [pairs, putAll, Option.isSome_none, Bool.false_eq_true, if_false]
  have B4 : Blk w7_12 k4 #[.int .i64 (q0 + 100), .int .i64 (q1 + 100), .int .i64 (q2 + 100), .int .i64 (q3 + 100), .int .i64 s4, .int .i64 s5, .int .i64 e0, .int .i64 e1, .int .i64 0, .int .i64 (1 + m0), .int .i64 (1 + m1), .int .i64 0, .int .i64 a0, .int .i64 a1, .int .i64 a2, .int .i64 a3, .int .i64 b0, .int .i64 b1, .int .i64 b2, .int .i64 0, .int .i64 0, .int .i64 0, .int .i64 0, .int .i64 0] 55 := d0
  have B1 := B1.calm hw (by simp; omega)
  have B2 := B2.calm hw (by simp; omega)
  have xx := Ext.calm_trans xx hw (by simp; omega)
  clear k0 l0 d0 u0 e0' hw
  go_wp2_with fail
  rw [rounds_succ]
  go_upto_region 11 with fail
  apply wp_region_vars [false, false, false, false, false, false, false, false, false, false, false, false, true] [k4] [⟨none, 0, k4, some 12, 55, #[.int .i64 (q0 + 100), .int .i64 (q1 + 100), .int .i64 (q2 + 100), .int .i64 (q3 + 100), .int .i64 s4, .int .i64 s5, .int .i64 e0, .int .i64 e1, .int .i64 0, .int .i64 (1 + m0), .int .i64 (1 + m1), .int .i64 0, .int .i64 a0, .int .i64 a1, .int .i64 a2, .int .i64 a3, .int .i64 b0, .int .i64 b1, .int .i64 b2, .int .i64 0, .int .i64 0, .int .i64 0, .int .i64 0, .int .i64 0], #[.int .i64 (q0 + 100), .int .i64 (q1 + 100), .int .i64 (q2 + 100), .int .i64 (q3 + 100), .int .i64 s4, .int .i64 s5, .int .i64 e0, .int .i64 e1, .int .i64 0, .int .i64 (1 + m0), .int .i64 (1 + m1), .int .i64 0, .int .i64 a0, .int .i64 a1, .int .i64 a2, .int .i64 a3, .int .i64 b0, .int .i64 b1, .int .i64 b2, .int .i64 b3, .int .i64 0, .int .i64 0, .int .i64 0, .int .i64 0]⟩] _ (by kernel_rfl) (by kernel_rfl) (by kernel_rfl)
  case H =>
    intro x0 hx
    have hne : Nonempty (Wx x0) := ⟨⟨x0, Ext.refl x0⟩⟩
    have qB1 := fun (y : Wx x0) => ((B1.calm hx (by simp <;> omega)).ext y.ext).cell
    simp only [eraseM]
    repeat (go_big_quiet_step (fail))
    exact wpQuiet_nil rfl
  case hok =>
    simp only [List.forall_mem_cons, List.not_mem_nil, false_implies, implies_true, and_true]
    exact tgt_mine (v := .int .i64 b3) (off := 19) (by simp) B4 rfl rfl rfl rfl rfl rfl (by kernel_rfl) (by kernel_rfl) (of_decide_eq_true (by kernel_rfl)) rfl
  case hdis =>
    intro k k' t t' hk hk' hkk ha ha'
    exfalso
    have h1 : k < 1 := (List.getElem?_eq_some_iff.1 hk).1
    have h2 : k' < 1 := (List.getElem?_eq_some_iff.1 hk').1
    omega
  rintro w7_13 f hw ⟨k0, l0, d0, u0, -⟩
  have e0' : f 0 = k4 := k0
  rw [e0'] at d0
  simp only [pairs, putAll, Option.isSome_none, Bool.false_eq_true, if_false]
  have B4 : Blk w7_13 k4 #[.int .i64 (q0 + 100), .int .i64 (q1 + 100), .int .i64 (q2 + 100), .int .i64 (q3 + 100), .int .i64 s4, .int .i64 s5, .int .i64 e0, .int .i64 e1, .int .i64 0, .int .i64 (1 + m0), .int .i64 (1 + m1), .int .i64 0, .int .i64 a0, .int .i64 a1, .int .i64 a2, .int .i64 a3, .int .i64 b0, .int .i64 b1, .int .i64 b2, .int .i64 b3, .int .i64 0, .int .i64 0, .int .i64 0, .int .i64 0] 55 := d0
  have B1 := B1.calm hw (by simp; omega)
  have B2 := B2.calm hw (by simp; omega)
  have xx := Ext.calm_trans xx hw (by simp; omega)
  clear k0 l0 d0 u0 e0' hw
  go_wp2_with fail
  rw [rounds_succ]
  go_wp2_with fail
  rw [rounds_succ]
  go_upto_region 6 with fail
  have c4 := B4.cell
  have f4 := B4.frozen
  go_region
  clear c4 f4
  have yd : Ext ((w7_13.setCell ⟨k4, 4, none⟩ (.int .i64 (q4 + 100))).setCell ⟨k4, 5, none⟩ (.int .i64 (q5 + 100))) ((w7_13.setCell ⟨k4, 4, none⟩ (.int .i64 (q4 + 100))).setCell ⟨k4, 5, none⟩ (.int .i64 (q5 + 100))).drew := (Ext.refl _).drew
  have B4 : Blk ((w7_13.setCell ⟨k4, 4, none⟩ (.int .i64 (q4 + 100))).setCell ⟨k4, 5, none⟩ (.int .i64 (q5 + 100))).drew k4 #[.int .i64 (q0 + 100), .int .i64 (q1 + 100), .int .i64 (q2 + 100), .int .i64 (q3 + 100), .int .i64 (q4 + 100), .int .i64 (q5 + 100), .int .i64 e0, .int .i64 e1, .int .i64 0, .int .i64 (1 + m0), .int .i64 (1 + m1), .int .i64 0, .int .i64 a0, .int .i64 a1, .int .i64 a2, .int .i64 a3, .int .i64 b0, .int .i64 b1, .int .i64 b2, .int .i64 b3, .int .i64 0, .int .i64 0, .int .i64 0, .int .i64 0] 55 := by simpa using ((B4.set 4 (.int .i64 (q4 + 100))).set 5 (.int .i64 (q5 + 100))).ext yd
  have B1 := ((B1.far (p := ⟨k4, 4, none⟩) (by simp only; omega) (.int .i64 (q4 + 100))).far (p := ⟨k4, 5, none⟩) (by simp only; omega) (.int .i64 (q5 + 100))).ext yd
  have B2 := ((B2.far (p := ⟨k4, 4, none⟩) (by simp only; omega) (.int .i64 (q4 + 100))).far (p := ⟨k4, 5, none⟩) (by simp only; omega) (.int .i64 (q5 + 100))).ext yd
  have xx := ((xx.setCell (p := ⟨k4, 4, none⟩) (by simp only; omega) (.int .i64 (q4 + 100))).setCell (p := ⟨k4, 5, none⟩) (by simp only; omega) (.int .i64 (q5 + 100))).trans yd
  clear yd
  generalize ((w7_13.setCell ⟨k4, 4, none⟩ (.int .i64 (q4 + 100))).setCell ⟨k4, 5, none⟩ (.int .i64 (q5 + 100))).drew = w5_2 at *
  go_upto_region 7 with fail
  apply wp_region_tail 3 [false, false, false, false, false, false, false, false, false, false, false, false, false, false, false, false, true, false, false, true] [] [k4] _ (by kernel_rfl) (by kernel_rfl) (by kernel_rfl)
  case H =>
    intro x0 hx
    have hne : Nonempty (Wx x0) := ⟨⟨x0, Ext.refl x0⟩⟩
    have qB1 := fun (y : Wx x0) => ((B1.calm hx (by simp <;> omega)).ext y.ext).cell
    simp only [eraseM]
    repeat (go_big_quiet_step (fail))
    exact wpQuiet_nil rfl
  case hF => rfl
  change tailW _ _ _ _ [_, _] _ _
  refine fun u0 x0 hc0 => ?_
  have B := B4.ext x0
  have cc := B.cell
  have ff := B.frozen
  refine gives_skip (u' := (u0.setCell ⟨k4, 8, none⟩ (.int .i64 e2))) (by simp [go_sem, cc, ff]) ⟨((hc0).trans (calm_put u0 k4 8 (.int .i64 e2))), fun u1 x1 hc1 => ?_⟩
  have B := (B.set 8 (.int .i64 e2)).ext x1
  clear cc ff
  have cc := B.cell
  have ff := B.frozen
  refine gives_skip (u' := (u1.setCell ⟨k4, 11, none⟩ (.int .i64 (1 + m2)))) (by simp [go_sem, cc, ff]) ⟨((hc1).trans (calm_put u1 k4 11 (.int .i64 (1 + m2)))), fun w6_2 x2 hc2 => ?_⟩
  have B := (B.set 11 (.int .i64 (1 + m2))).ext x2
  clear cc ff
  have B4 : Blk w6_2 k4 #[.int .i64 (q0 + 100), .int .i64 (q1 + 100), .int .i64 (q2 + 100), .int .i64 (q3 + 100), .int .i64 (q4 + 100), .int .i64 (q5 + 100), .int .i64 e0, .int .i64 e1, .int .i64 e2, .int .i64 (1 + m0), .int .i64 (1 + m1), .int .i64 (1 + m2), .int .i64 a0, .int .i64 a1, .int .i64 a2, .int .i64 a3, .int .i64 b0, .int .i64 b1, .int .i64 b2, .int .i64 b3, .int .i64 0, .int .i64 0, .int .i64 0, .int .i64 0] 55 := by simpa using B
  clear B x0 x1 x2 hc0 hc1
  simp only [Act.put]
  have B1 := B1.calm hc2 (by simp; omega)
  have B2 := B2.calm hc2 (by simp; omega)
  have xx := Ext.calm_trans xx hc2 (by simp; omega)
  clear hc2
  go_wp2_with fail
  refine wp_loop_rounds 5 ?_
  rw [rounds_succ]
  go_upto_region 11 with fail
  apply wp_region_vars [false, false, false, false, false, false, false, false, false, false, false, false, true] [k4] [⟨none, 0, k4, some 12, 55, #[.int .i64 (q0 + 100), .int .i64 (q1 + 100), .int .i64 (q2 + 100), .int .i64 (q3 + 100), .int .i64 (q4 + 100), .int .i64 (q5 + 100), .int .i64 e0, .int .i64 e1, .int .i64 e2, .int .i64 (1 + m0), .int .i64 (1 + m1), .int .i64 (1 + m2), .int .i64 a0, .int .i64 a1, .int .i64 a2, .int .i64 a3, .int .i64 b0, .int .i64 b1, .int .i64 b2, .int .i64 b3, .int .i64 0, .int .i64 0, .int .i64 0, .int .i64 0], #[.int .i64 (q0 + 100), .int .i64 (q1 + 100), .int .i64 (q2 + 100), .int .i64 (q3 + 100), .int .i64 (q4 + 100), .int .i64 (q5 + 100), .int .i64 e0, .int .i64 e1, .int .i64 e2, .int .i64 (1 + m0), .int .i64 (1 + m1), .int .i64 (1 + m2), .int .i64 a0, .int .i64 a1, .int .i64 a2, .int .i64 a3, .int .i64 b0, .int .i64 b1, .int .i64 b2, .int .i64 b3, .int .i64 c0, .int .i64 0, .int .i64 0, .int .i64 0]⟩] _ (by kernel_rfl) (by kernel_rfl) (by kernel_rfl)
  case H =>
    intro x0 hx
    have hne : Nonempty (Wx x0) := ⟨⟨x0, Ext.refl x0⟩⟩
    have qB1 := fun (y : Wx x0) => ((B1.calm hx (by simp <;> omega)).ext y.ext).cell
    simp only [eraseM]
    repeat (go_big_quiet_step (fail))
    exact wpQuiet_nil rfl
  case hok =>
    simp only [List.forall_mem_cons, List.not_mem_nil, false_implies, implies_true, and_true]
    exact tgt_mine (v := .int .i64 c0) (off := 20) (by simp) B4 rfl rfl rfl rfl rfl rfl (by kernel_rfl) (by kernel_rfl) (of_decide_eq_true (by kernel_rfl)) rfl
  case hdis =>
    intro k k' t t' hk hk' hkk ha ha'
    exfalso
    have h1 : k < 1 := (List.getElem?_eq_some_iff.1 hk).1
    have h2 : k' < 1 := (List.getElem?_eq_some_iff.1 hk').1
    omega
  rintro w7_20 f hw ⟨k0, l0, d0, u0, -⟩
  have e0' : f 0 = k4 := k0
  rw [e0'] at d0
  simp only [pairs, putAll, Option.isSome_none, Bool.false_eq_true, if_false]
  have B4 : Blk w7_20 k4 #[.int .i64 (q0 + 100), .int .i64 (q1 + 100), .int .i64 (q2 + 100), .int .i64 (q3 + 100), .int .i64 (q4 + 100), .int .i64 (q5 + 100), .int .i64 e0, .int .i64 e1, .int .i64 e2, .int .i64 (1 + m0), .int .i64 (1 + m1), .int .i64 (1 + m2), .int .i64 a0, .int .i64 a1, .int .i64 a2, .int .i64 a3, .int .i64 b0, .int .i64 b1, .int .i64 b2, .int .i64 b3, .int .i64 c0, .int .i64 0, .int .i64 0, .int .i64 0] 55 := d0
  have B1 := B1.calm hw (by simp; omega)
  have B2 := B2.calm hw (by simp; omega)
  have xx := Ext.calm_trans xx hw (by simp; omega)
  clear k0 l0 d0 u0 e0' hw
  go_wp2_with fail
  rw [rounds_succ]
  go_upto_region 11 with fail
  apply wp_region_vars [false, false, false, false, false, false, false, false, false, false, false, false, true] [k4] [⟨none, 0, k4, some 12, 55, #[.int .i64 (q0 + 100), .int .i64 (q1 + 100), .int .i64 (q2 + 100), .int .i64 (q3 + 100), .int .i64 (q4 + 100), .int .i64 (q5 + 100), .int .i64 e0, .int .i64 e1, .int .i64 e2, .int .i64 (1 + m0), .int .i64 (1 + m1), .int .i64 (1 + m2), .int .i64 a0, .int .i64 a1, .int .i64 a2, .int .i64 a3, .int .i64 b0, .int .i64 b1, .int .i64 b2, .int .i64 b3, .int .i64 c0, .int .i64 0, .int .i64 0, .int .i64 0], #[.int .i64 (q0 + 100), .int .i64 (q1 + 100), .int .i64 (q2 + 100), .int .i64 (q3 + 100), .int .i64 (q4 + 100), .int .i64 (q5 + 100), .int .i64 e0, .int .i64 e1, .int .i64 e2, .int .i64 (1 + m0), .int .i64 (1 + m1), .int .i64 (1 + m2), .int .i64 a0, .int .i64 a1, .int .i64 a2, .int .i64 a3, .int .i64 b0, .int .i64 b1, .int .i64 b2, .int .i64 b3, .int .i64 c0, .int .i64 c1, .int .i64 0, .int .i64 0]⟩] _ (by kernel_rfl) (by kernel_rfl) (by kernel_rfl)
  case H =>
    intro x0 hx
    have hne : Nonempty (Wx x0) := ⟨⟨x0, Ext.refl x0⟩⟩
    have qB1 := fun (y : Wx x0) => ((B1.calm hx (by simp <;> omega)).ext y.ext).cell
    simp only [eraseM]
    repeat (go_big_quiet_step (fail))
    exact wpQuiet_nil rfl
  case hok =>
    simp only [List.forall_mem_cons, List.not_mem_nil, false_implies, implies_true, and_true]
    exact tgt_mine (v := .int .i64 c1) (off := 21) (by simp) B4 rfl rfl rfl rfl rfl rfl (by kernel_rfl) (by kernel_rfl) (of_decide_eq_true (by kernel_rfl)) rfl
  case hdis =>
    intro k k' t t' hk hk' hkk ha ha'
    exfalso
    have h1 : k < 1 := (List.getElem?_eq_some_iff.1 hk).1
    have h2 : k' < 1 := (List.getElem?_eq_some_iff.1 hk').1
    omega
  rintro w7_21 f hw ⟨k0, l0, d0, u0, -⟩
  have e0' : f 0 = k4 := k0
  rw [e0'] at d0
  simp only [pairs, putAll, Option.isSome_none, Bool.false_eq_true, if_false]
  have B4 : Blk w7_21 k4 #[.int .i64 (q0 + 100), .int .i64 (q1 + 100), .int .i64 (q2 + 100), .int .i64 (q3 + 100), .int .i64 (q4 + 100), .int .i64 (q5 + 100), .int .i64 e0, .int .i64 e1, .int .i64 e2, .int .i64 (1 + m0), .int .i64 (1 + m1), .int .i64 (1 + m2), .int .i64 a0, .int .i64 a1, .int .i64 a2, .int .i64 a3, .int .i64 b0, .int .i64 b1, .int .i64 b2, .int .i64 b3, .int .i64 c0, .int .i64 c1, .int .i64 0, .int .i64 0] 55 := d0
  have B1 := B1.calm hw (by simp; omega)
  have B2 := B2.calm hw (by simp; omega)
  have xx := Ext.calm_trans xx hw (by simp; omega)
  clear k0 l0 d0 u0 e0' hw
  go_wp2_with fail
  rw [rounds_succ]
  go_upto_region 11 with fail
  apply wp_region_vars [false, false, false, false, false, false, false, false, false, false, false, false, true] [k4] [⟨none, 0, k4, some 12, 55, #[.int .i64 (q0 + 100), .int .i64 (q1 + 100), .int .i64 (q2 + 100), .int .i64 (q3 + 100), .int .i64 (q4 + 100), .int .i64 (q5 + 100), .int .i64 e0, .int .i64 e1, .int .i64 e2, .int .i64 (1 + m0), .int .i64 (1 + m1), .int .i64 (1 + m2), .int .i64 a0, .int .i64 a1, .int .i64 a2, .int .i64 a3, .int .i64 b0, .int .i64 b1, .int .i64 b2, .int .i64 b3, .int .i64 c0, .int .i64 c1, .int .i64 0, .int .i64 0], #[.int .i64 (q0 + 100), .int .i64 (q1 + 100), .int .i64 (q2 + 100), .int .i64 (q3 + 100), .int .i64 (q4 + 100), .int .i64 (q5 + 100), .int .i64 e0, .int .i64 e1, .int .i64 e2, .int .i64 (1 + m0), .int .i64 (1 + m1), .int .i64 (1 + m2), .int .i64 a0, .int .i64 a1, .int .i64 a2, .int .i64 a3, .int .i64 b0, .int .i64 b1, .int .i64 b2, .int .i64 b3, .int .i64 c0, .int .i64 c1, .int .i64 c2, .int .i64 0]⟩] _ (by kernel_rfl) (by kernel_rfl) (by kernel_rfl)
  case H =>
    intro x0 hx
    have hne : Nonempty (Wx x0) := ⟨⟨x0, Ext.refl x0⟩⟩
    have qB1 := fun (y : Wx x0) => ((B1.calm hx (by simp <;> omega)).ext y.ext).cell
    simp only [eraseM]
    repeat (go_big_quiet_step (fail))
    exact wpQuiet_nil rfl
  case hok =>
    simp only [List.forall_mem_cons, List.not_mem_nil, false_implies, implies_true, and_true]
    exact tgt_mine (v := .int .i64 c2) (off := 22) (by simp) B4 rfl rfl rfl rfl rfl rfl (by kernel_rfl) (by kernel_rfl) (of_decide_eq_true (by kernel_rfl)) rfl
  case hdis =>
    intro k k' t t' hk hk' hkk ha ha'
    exfalso
    have h1 : k < 1 := (List.getElem?_eq_some_iff.1 hk).1
    have h2 : k' < 1 := (List.getElem?_eq_some_iff.1 hk').1
    omega
  rintro w7_22 f hw ⟨k0, l0, d0, u0, -⟩
  have e0' : f 0 = k4 := k0
  rw [e0'] at d0
  simp only [pairs, putAll, Option.isSome_none, Bool.false_eq_true, if_false]
  have B4 : Blk w7_22 k4 #[.int .i64 (q0 + 100), .int .i64 (q1 + 100), .int .i64 (q2 + 100), .int .i64 (q3 + 100), .int .i64 (q4 + 100), .int .i64 (q5 + 100), .int .i64 e0, .int .i64 e1, .int .i64 e2, .int .i64 (1 + m0), .int .i64 (1 + m1), .int .i64 (1 + m2), .int .i64 a0, .int .i64 a1, .int .i64 a2, .int .i64 a3, .int .i64 b0, .int .i64 b1, .int .i64 b2, .int .i64 b3, .int .i64 c0, .int .i64 c1, .int .i64 c2, .int .i64 0] 55 := d0
  have B1 := B1.calm hw (by simp; omega)
  have B2 := B2.calm hw (by simp; omega)
  have xx := Ext.calm_trans xx hw (by simp; omega)
  clear k0 l0 d0 u0 e0' hw
  go_wp2_with fail
  rw [rounds_succ]
  go_upto_region 11 with fail
  apply wp_region_vars [false, false, false, false, false, false, false, false, false, false, false, false, true] [k4] [⟨none, 0, k4, some 12, 55, #[.int .i64 (q0 + 100), .int .i64 (q1 + 100), .int .i64 (q2 + 100), .int .i64 (q3 + 100), .int .i64 (q4 + 100), .int .i64 (q5 + 100), .int .i64 e0, .int .i64 e1, .int .i64 e2, .int .i64 (1 + m0), .int .i64 (1 + m1), .int .i64 (1 + m2), .int .i64 a0, .int .i64 a1, .int .i64 a2, .int .i64 a3, .int .i64 b0, .int .i64 b1, .int .i64 b2, .int .i64 b3, .int .i64 c0, .int .i64 c1, .int .i64 c2, .int .i64 0], #[.int .i64 (q0 + 100), .int .i64 (q1 + 100), .int .i64 (q2 + 100), .int .i64 (q3 + 100), .int .i64 (q4 + 100), .int .i64 (q5 + 100), .int .i64 e0, .int .i64 e1, .int .i64 e2, .int .i64 (1 + m0), .int .i64 (1 + m1), .int .i64 (1 + m2), .int .i64 a0, .int .i64 a1, .int .i64 a2, .int .i64 a3, .int .i64 b0, .int .i64 b1, .int .i64 b2, .int .i64 b3, .int .i64 c0, .int .i64 c1, .int .i64 c2, .int .i64 c3]⟩] _ (by kernel_rfl) (by kernel_rfl) (by kernel_rfl)
  case H =>
    intro x0 hx
    have hne : Nonempty (Wx x0) := ⟨⟨x0, Ext.refl x0⟩⟩
    have qB1 := fun (y : Wx x0) => ((B1.calm hx (by simp <;> omega)).ext y.ext).cell
    simp only [eraseM]
    repeat (go_big_quiet_step (fail))
    exact wpQuiet_nil rfl
  case hok =>
    simp only [List.forall_mem_cons, List.not_mem_nil, false_implies, implies_true, and_true]
    exact tgt_mine (v := .int .i64 c3) (off := 23) (by simp) B4 rfl rfl rfl rfl rfl rfl (by kernel_rfl) (by kernel_rfl) (of_decide_eq_true (by kernel_rfl)) rfl
  case hdis =>
    intro k k' t t' hk hk' hkk ha ha'
    exfalso
    have h1 : k < 1 := (List.getElem?_eq_some_iff.1 hk).1
    have h2 : k' < 1 := (List.getElem?_eq_some_iff.1 hk').1
    omega
  rintro w7_23 f hw ⟨k0, l0, d0, u0, -⟩
  have e0' : f 0 = k4 := k0
  rw [e0'] at d0
  simp only [pairs, putAll, Option.isSome_none, Bool.false_eq_true, if_false]
  have B4 : Blk w7_23 k4 #[.int .i64 (q0 + 100), .int .i64 (q1 + 100), .int .i64 (q2 + 100), .int .i64 (q3 + 100), .int .i64 (q4 + 100), .int .i64 (q5 + 100), .int .i64 e0, .int .i64 e1, .int .i64 e2, .int .i64 (1 + m0), .int .i64 (1 + m1), .int .i64 (1 + m2), .int .i64 a0, .int .i64 a1, .int .i64 a2, .int .i64 a3, .int .i64 b0, .int .i64 b1, .int .i64 b2, .int .i64 b3, .int .i64 c0, .int .i64 c1, .int .i64 c2, .int .i64 c3] 55 := d0
  have B1 := B1.calm hw (by simp; omega)
  have B2 := B2.calm hw (by simp; omega)
  have xx := Ext.calm_trans xx hw (by simp; omega)
  clear k0 l0 d0 u0 e0' hw
  go_wp2_with fail
  rw [rounds_succ]
  go_wp2_with fail
  rw [rounds_succ]
  have hn : ¬ ar < 0 := by omega
  have R := Lib.hid (B4.mid13 0 [.int .i64 (q0 + 100), .int .i64 (q1 + 100), .int .i64 (q2 + 100), .int .i64 (q3 + 100), .int .i64 (q4 + 100), .int .i64 (q5 + 100)] rfl)
  go_wp2_with (first
    | ((with_reducible refine wpList_load_mid (op := ⟨some 80, _, _, _, _, _⟩) ?_ 52 (.tmp 79) ?_ k4 0 ?_ [.int .i64 (q0 + 100), .int .i64 (q1 + 100), .int .i64 (q2 + 100), .int .i64 (q3 + 100), .int .i64 (q4 + 100), .int .i64 (q5 + 100)] _ R.out Try.underlying52 ?_ ?_ ?_); rfl; rfl; rfl; rfl; kernel_rfl)
    | fail)
  refine (HA.out _).mono ?_
  rintro e w8 ⟨rfl, x8⟩
  have xx := xx.trans x8
  have B2 := B2.ext x8
  have B4 := B4.ext x8
  clear x8 R B1
  go_upto_region 16 with fail
  apply wp_region_vars [false, false, false, false, false, true, false] [w.heap.size + 1] [⟨none, 0, w.heap.size + 1, some 5, 55, #[.int .i64 0, .int .i64 0, .int .i64 0, .int .i64 0, .int .i64 0, .int .i64 0, .int .i64 0, .int .i64 0, .int .i64 0, .int .i64 0, .int .i64 0, .int .i64 0, .int .i64 0, .int .i64 0, .int .i64 0, .int .i64 0, .int .i64 0, .int .i64 0, .int .i64 0, .int .i64 0, .int .i64 0, .int .i64 0, .int .i64 0, .int .i64 0], #[.int .i64 (q0 + 100), .int .i64 (q1 + 100), .int .i64 (q2 + 100), .int .i64 (q3 + 100), .int .i64 (q4 + 100), .int .i64 (q5 + 100), .int .i64 e0, .int .i64 e1, .int .i64 e2, .int .i64 (1 + m0), .int .i64 (1 + m1), .int .i64 (1 + m2), .int .i64 a0, .int .i64 a1, .int .i64 a2, .int .i64 a3, .int .i64 b0, .int .i64 b1, .int .i64 b2, .int .i64 b3, .int .i64 c0, .int .i64 c1, .int .i64 c2, .int .i64 c3]⟩] _ (by kernel_rfl) (by kernel_rfl) (by kernel_rfl)
  case H =>
    intro x0 hx
    have hne : Nonempty (Wx x0) := ⟨⟨x0, Ext.refl x0⟩⟩
    have kB4 := fun (y : Wx x0) => (B4.calm hx (by simp <;> omega)).ext y.ext
    have qB4 := fun (y : Wx x0) => ((B4.calm hx (by simp <;> omega)).ext y.ext).cell
    simp only [eraseM]
    repeat (first
      | (go_big_quiet_want; (with_reducible refine quiet_load_blk (op := ⟨some 87, _, _, _, _, _⟩) 55 (.tmp 4) ?_ k4 ?_ (z := #[.int .i64 (q0 + 100), .int .i64 (q1 + 100), .int .i64 (q2 + 100), .int .i64 (q3 + 100), .int .i64 (q4 + 100), .int .i64 (q5 + 100), .int .i64 e0, .int .i64 e1, .int .i64 e2, .int .i64 (1 + m0), .int .i64 (1 + m1), .int .i64 (1 + m2), .int .i64 a0, .int .i64 a1, .int .i64 a2, .int .i64 a3, .int .i64 b0, .int .i64 b1, .int .i64 b2, .int .i64 b3, .int .i64 c0, .int .i64 c1, .int .i64 c2, .int .i64 c3]) (T := 55) ?_ Try.underlying55 ?_ ?_ ?_); rfl; rfl; exact (fun u hu => by obtain ⟨y, rfl⟩ := hu; exact kB4 y); rfl; kernel_rfl; simp only [Act.put, List.setIfInBounds_toArray, List.set_cons_succ, List.set_cons_zero]; go_big_quiet_on)
      | go_big_quiet_step ((go_at_call 37; with_reducible exact calm_of (HA.out _))))
    exact wpQuiet_nil rfl
  case hok =>
    simp only [List.forall_mem_cons, List.not_mem_nil, false_implies, implies_true, and_true]
    exact tgt_mine (v := .agg #[.int .i64 (q0 + 100), .int .i64 (q1 + 100), .int .i64 (q2 + 100), .int .i64 (q3 + 100), .int .i64 (q4 + 100), .int .i64 (q5 + 100), .int .i64 e0, .int .i64 e1, .int .i64 e2, .int .i64 (1 + m0), .int .i64 (1 + m1), .int .i64 (1 + m2), .int .i64 a0, .int .i64 a1, .int .i64 a2, .int .i64 a3, .int .i64 b0, .int .i64 b1, .int .i64 b2, .int .i64 b3, .int .i64 c0, .int .i64 c1, .int .i64 c2, .int .i64 c3]) (off := 0) (by simp) B2 rfl rfl rfl rfl rfl rfl (by kernel_rfl) (by kernel_rfl) (of_decide_eq_true (by kernel_rfl)) rfl
  case hdis =>
    intro k k' t t' hk hk' hkk ha ha'
    exfalso
    have h1 : k < 1 := (List.getElem?_eq_some_iff.1 hk).1
    have h2 : k' < 1 := (List.getElem?_eq_some_iff.1 hk').1
    omega
  rintro w11 f hw ⟨k0, l0, d0, u0, -⟩
  have e0' : f 0 = w.heap.size + 1 := k0
  rw [e0'] at d0
  simp only [pairs, putAll, Option.isSome_none, Bool.false_eq_true, if_false]
  have Ef := Ext.calm_trans xx hw (by simp)
  clear k0 l0 u0 e0' hw
  have hn2 : ¬ 0 < ar := by omega
  go_wp2_with fail
  refine bodyPost_ret (v := .tuple #[.agg #[.int .i64 (q0 + 100), .int .i64 (q1 + 100), .int .i64 (q2 + 100), .int .i64 (q3 + 100), .int .i64 (q4 + 100), .int .i64 (q5 + 100), .int .i64 e0, .int .i64 e1, .int .i64 e2, .int .i64 (1 + m0), .int .i64 (1 + m1), .int .i64 (1 + m2), .int .i64 a0, .int .i64 a1, .int .i64 a2, .int .i64 a3, .int .i64 b0, .int .i64 b1, .int .i64 b2, .int .i64 b3, .int .i64 c0, .int .i64 c1, .int .i64 c2, .int .i64 c3], .bool false]) (results_blk2 (b := w.heap.size + 1) (t := 2) (s := 3) (ty := 55) rfl rfl d0 Try.underlying55 rfl (by kernel_rfl) ?_) rfl ⟨rfl, Ef⟩
  first | rfl | (simp; omega) | simp [hs]
end Go.Proofs.Ytglehnmkdapnpaa

