/-
  DERIVED. THE LAW VmColours: whatever a painter does, a colour is from 0 to 1, a place within bounds (made by mkvm.py).
-/
import Derived.Test.YtellfhnfifgpoaaPkRun
import Derived.Test.YtellfhnfifgpoaaPkProg
import Derived.Test.YtellfhnfifgpoaaPkIsa
namespace Go.Proofs.Ytellfhnfifgpoaa
open Go.RowKit
set_option linter.unusedVariables false
theorem limI_idem (hi n : Int) (h : 0 ≤ hi) : limI 0 hi (limI 0 hi n) = limI 0 hi n := by rw [limI_eq h, limI_eq h]; omega
theorem shadeR_idem (c : V4) (x y d : Int) : shadeR (c.lim 0 65536) x y (limI 0 65535 d) = shadeR c x y d := by
  unfold shadeR V4.lim
  simp only [limI_idem 65536 _ (by omega), limI_idem 65535 _ (by omega)]
theorem lim_no (lo hi : Int) (h : lo ≤ hi) (v : V4) : (¬ (v.lim lo hi).c0 < lo ∧ ¬ hi < (v.lim lo hi).c0) ∧ (¬ (v.lim lo hi).c1 < lo ∧ ¬ hi < (v.lim lo hi).c1) ∧ (¬ (v.lim lo hi).c2 < lo ∧ ¬ hi < (v.lim lo hi).c2) ∧ (¬ (v.lim lo hi).c3 < lo ∧ ¬ hi < (v.lim lo hi).c3) := by
  have h : ∀ n : Int, ¬ limI lo hi n < lo ∧ ¬ hi < limI lo hi n := fun n => by rw [limI_eq h]; omega
  exact ⟨h _, h _, h _, h _⟩
set_option maxRecDepth 100000 in
set_option maxHeartbeats 4000000 in
theorem vmColours_main {w : World} (u : Value) (sl : List Sm) (p c : V4) (m0 m1 m2 m3 : V4) (x y d : Int) (h0 : SArr w u sl) (b0 : -9223372036854775808 ≤ p.c0 ∧ p.c0 ≤ 9223372036854775807) (b1 : -9223372036854775808 ≤ p.c1 ∧ p.c1 ≤ 9223372036854775807) (b2 : -9223372036854775808 ≤ p.c2 ∧ p.c2 ≤ 9223372036854775807) (b3 : -9223372036854775808 ≤ p.c3 ∧ p.c3 ≤ 9223372036854775807) (g0 : -9223372036854775808 ≤ c.c0 ∧ c.c0 ≤ 9223372036854775807) (g1 : -9223372036854775808 ≤ c.c1 ∧ c.c1 ≤ 9223372036854775807) (g2 : -9223372036854775808 ≤ c.c2 ∧ c.c2 ≤ 9223372036854775807) (g3 : -9223372036854775808 ≤ c.c3 ∧ c.c3 ≤ 9223372036854775807) (d00 : -9223372036854775808 ≤ m0.c0 ∧ m0.c0 ≤ 9223372036854775807) (d01 : -9223372036854775808 ≤ m0.c1 ∧ m0.c1 ≤ 9223372036854775807) (d02 : -9223372036854775808 ≤ m0.c2 ∧ m0.c2 ≤ 9223372036854775807) (d03 : -9223372036854775808 ≤ m0.c3 ∧ m0.c3 ≤ 9223372036854775807) (d10 : -9223372036854775808 ≤ m1.c0 ∧ m1.c0 ≤ 9223372036854775807) (d11 : -9223372036854775808 ≤ m1.c1 ∧ m1.c1 ≤ 9223372036854775807) (d12 : -9223372036854775808 ≤ m1.c2 ∧ m1.c2 ≤ 9223372036854775807) (d13 : -9223372036854775808 ≤ m1.c3 ∧ m1.c3 ≤ 9223372036854775807) (d20 : -9223372036854775808 ≤ m2.c0 ∧ m2.c0 ≤ 9223372036854775807) (d21 : -9223372036854775808 ≤ m2.c1 ∧ m2.c1 ≤ 9223372036854775807) (d22 : -9223372036854775808 ≤ m2.c2 ∧ m2.c2 ≤ 9223372036854775807) (d23 : -9223372036854775808 ≤ m2.c3 ∧ m2.c3 ≤ 9223372036854775807) (d30 : -9223372036854775808 ≤ m3.c0 ∧ m3.c0 ≤ 9223372036854775807) (d31 : -9223372036854775808 ≤ m3.c1 ∧ m3.c1 ≤ 9223372036854775807) (d32 : -9223372036854775808 ≤ m3.c2 ∧ m3.c2 ≤ 9223372036854775807) (d33 : -9223372036854775808 ≤ m3.c3 ∧ m3.c3 ≤ 9223372036854775807) (hx : -9223372036854775808 ≤ x ∧ x ≤ 9223372036854775807) (hy : -9223372036854775808 ≤ y ∧ y ≤ 9223372036854775807) (hd : -9223372036854775808 ≤ d ∧ d ≤ 9223372036854775807) (l0 : sl.length ≤ 40) :
    Calls Try.prog 8 #[u, .agg #[.int .i64 p.c0, .int .i64 p.c1, .int .i64 p.c2, .int .i64 p.c3], .agg #[.int .i64 c.c0, .int .i64 c.c1, .int .i64 c.c2, .int .i64 c.c3], .agg #[.int .i64 m0.c0, .int .i64 m0.c1, .int .i64 m0.c2, .int .i64 m0.c3, .int .i64 m1.c0, .int .i64 m1.c1, .int .i64 m1.c2, .int .i64 m1.c3, .int .i64 m2.c0, .int .i64 m2.c1, .int .i64 m2.c2, .int .i64 m2.c3, .int .i64 m3.c0, .int .i64 m3.c1, .int .i64 m3.c2, .int .i64 m3.c3], .int .i64 x, .int .i64 y, .int .i64 d] w fun e w' => e = .returned (.bool true) ∧ Ext w w' := by
  have hS := Lib.hid h0
  obtain ⟨⟨a0, c0, rfl, -⟩, -, -⟩ := h0
  have i0 : (sl.length : Int) ≤ 40 := by omega
  have P0 := ((Blk.new w #[.int .i64 p.c0, .int .i64 p.c1, .int .i64 p.c2, .int .i64 p.c3] 29).alloc (.cells #[.int .i64 c.c0, .int .i64 c.c1, .int .i64 c.c2, .int .i64 c.c3] 29)).alloc (.cells #[.int .i64 m0.c0, .int .i64 m0.c1, .int .i64 m0.c2, .int .i64 m0.c3, .int .i64 m1.c0, .int .i64 m1.c1, .int .i64 m1.c2, .int .i64 m1.c3, .int .i64 m2.c0, .int .i64 m2.c1, .int .i64 m2.c2, .int .i64 m2.c3, .int .i64 m3.c0, .int .i64 m3.c1, .int .i64 m3.c2, .int .i64 m3.c3] 50)
  have C0 := (Blk.new' (w := w.alloc (.cells #[.int .i64 p.c0, .int .i64 p.c1, .int .i64 p.c2, .int .i64 p.c3] 29)) (b := w.heap.size + 1) (by simp) #[.int .i64 c.c0, .int .i64 c.c1, .int .i64 c.c2, .int .i64 c.c3] 29).alloc (.cells #[.int .i64 m0.c0, .int .i64 m0.c1, .int .i64 m0.c2, .int .i64 m0.c3, .int .i64 m1.c0, .int .i64 m1.c1, .int .i64 m1.c2, .int .i64 m1.c3, .int .i64 m2.c0, .int .i64 m2.c1, .int .i64 m2.c2, .int .i64 m2.c3, .int .i64 m3.c0, .int .i64 m3.c1, .int .i64 m3.c2, .int .i64 m3.c3] 50)
  have M0 := Blk.new' (w := (w.alloc (.cells #[.int .i64 p.c0, .int .i64 p.c1, .int .i64 p.c2, .int .i64 p.c3] 29)).alloc (.cells #[.int .i64 c.c0, .int .i64 c.c1, .int .i64 c.c2, .int .i64 c.c3] 29)) (b := w.heap.size + 1 + 1) (by simp) #[.int .i64 m0.c0, .int .i64 m0.c1, .int .i64 m0.c2, .int .i64 m0.c3, .int .i64 m1.c0, .int .i64 m1.c1, .int .i64 m1.c2, .int .i64 m1.c3, .int .i64 m2.c0, .int .i64 m2.c1, .int .i64 m2.c2, .int .i64 m2.c3, .int .i64 m3.c0, .int .i64 m3.c1, .int .i64 m3.c2, .int .i64 m3.c3] 50
  have E0 := (((Ext.refl w).alloc #[.int .i64 p.c0, .int .i64 p.c1, .int .i64 p.c2, .int .i64 p.c3] 29).alloc #[.int .i64 c.c0, .int .i64 c.c1, .int .i64 c.c2, .int .i64 c.c3] 29).alloc #[.int .i64 m0.c0, .int .i64 m0.c1, .int .i64 m0.c2, .int .i64 m0.c3, .int .i64 m1.c0, .int .i64 m1.c1, .int .i64 m1.c2, .int .i64 m1.c3, .int .i64 m2.c0, .int .i64 m2.c1, .int .i64 m2.c2, .int .i64 m2.c3, .int .i64 m3.c0, .int .i64 m3.c1, .int .i64 m3.c2, .int .i64 m3.c3] 50
  have HP0 := Lib.hid P0
  have HC0 := Lib.hid C0
  have HM0 := Lib.hid M0
  have HE0 := Lib.hid E0
  clear P0 C0 M0 E0
  have Hb := Lib.hid (And.intro b0 (And.intro b1 (And.intro b2 b3)))
  have Hg := Lib.hid (And.intro g0 (And.intro g1 (And.intro g2 g3)))
  have Hd := Lib.hid (fun v => placeR_bd p c m0 m1 m2 m3 b0 b1 b2 b3 g0 g1 g2 g3 d00 d01 d02 d03 d10 d11 d12 d13 d20 d21 d22 d23 d30 d31 d32 d33 v)
  have Dd00 := Lib.hid d00
  have Dd01 := Lib.hid d01
  have Dd02 := Lib.hid d02
  have Dd03 := Lib.hid d03
  have Dd10 := Lib.hid d10
  have Dd11 := Lib.hid d11
  have Dd12 := Lib.hid d12
  have Dd13 := Lib.hid d13
  have Dd20 := Lib.hid d20
  have Dd21 := Lib.hid d21
  have Dd22 := Lib.hid d22
  have Dd23 := Lib.hid d23
  have Dd30 := Lib.hid d30
  have Dd31 := Lib.hid d31
  have Dd32 := Lib.hid d32
  have Dd33 := Lib.hid d33
  clear b0 b1 b2 b3 g0 g1 g2 g3 d00 d01 d02 d03 d10 d11 d12 d13 d20 d21 d22 d23 d30 d31 d32 d33 Hd
  go_enter Try.func8, Try.ntmps8
  go_upto_region 1 with fail
  generalize ((w.alloc (.cells #[.int .i64 p.c0, .int .i64 p.c1, .int .i64 p.c2, .int .i64 p.c3] 29)).alloc (.cells #[.int .i64 c.c0, .int .i64 c.c1, .int .i64 c.c2, .int .i64 c.c3] 29)).alloc (.cells #[.int .i64 m0.c0, .int .i64 m0.c1, .int .i64 m0.c2, .int .i64 m0.c3, .int .i64 m1.c0, .int .i64 m1.c1, .int .i64 m1.c2, .int .i64 m1.c3, .int .i64 m2.c0, .int .i64 m2.c1, .int .i64 m2.c2, .int .i64 m2.c3, .int .i64 m3.c0, .int .i64 m3.c1, .int .i64 m3.c2, .int .i64 m3.c3] 50) = w0 at *
  go_wp2_with fail
  refine (awake8_any _).mono ?_
  rintro e w1 ⟨rfl, x1⟩
  have HE1 := Lib.hid (HE0.out.trans x1)
  have HB1 := Lib.hid x1
  clear x1
  go_wp2_with fail
  refine (program_any true _ _ sl (hS.out.ext HE1.out) l0).mono ?_
  rintro e w2 ⟨v2, xs, rfl, o2, hok, hxl, hck, x2⟩
  have hx20 : xs.length ≤ 20 := by omega
  obtain ⟨ao2, cc2, rfl, -, -⟩ := o2.slice
  have HO2 := Lib.hid o2
  have HOK := Lib.hid hok
  have HCK := Lib.hid hck
  have HE2 := Lib.hid (HE1.out.trans x2)
  have HB2 := Lib.hid (HB1.out.trans x2)
  clear hxl o2 hok hck x2 HE1 HB1
  go_wp2_with fail
  refine (program_any false _ _ sl (hS.out.ext HE2.out) l0).mono ?_
  rintro e w3 ⟨v3, ys, rfl, o3, hok3, hyl, hck3, x3⟩
  have hy20 : ys.length ≤ 20 := by omega
  obtain ⟨ao3, cc3, rfl, -, -⟩ := o3.slice
  have HO3 := Lib.hid (HO2.out.ext x3)
  have HQ3 := Lib.hid o3
  have HOK3 := Lib.hid hok3
  have HE3 := Lib.hid (HE2.out.trans x3)
  have HB3 := Lib.hid (HB2.out.trans x3)
  clear hyl o3 hok3 hck3 x3 HE2 HB2 HO2 hS
  have cC := (HC0.out.ext HB3.out).cell
  go_wp2_with fail
  refine (shade_any w3 _ xs HO3.out.parr HOK.out (by omega) c Hg.out.1 Hg.out.2.1 Hg.out.2.2.1 Hg.out.2.2.2 x y d hx hy hd).mono ?_
  rintro e w4 ⟨rfl, x4⟩
  have hfu : (runV xs (shadeR c x y d)).steps ≤ fuelL xs := by
    unfold runV
    rw [if_pos HCK.out]
    have := run_fuel_bound HOK.out (chk_zero HCK.out).2.1 (xs.length - 0) (st0 (shadeR c x y d))
    unfold run
    have h0 : (st0 (shadeR c x y d)).steps = 0 := rfl
    omega
  obtain ⟨s1, hs1⟩ : ∃ s1, (runV xs (shadeR c x y d)) = s1 := ⟨_, rfl⟩
  rw [hs1] at hfu ⊢
  have HS1 := Lib.hid hs1
  have HFU := Lib.hid hfu
  obtain ⟨⟨q0, q1⟩, ⟨q2, q3⟩, ⟨q4, q5⟩, ⟨q6, q7⟩⟩ := lim_no 0 65536 (by omega) (regAt s1.rs 0)
  obtain ⟨r, hr⟩ : ∃ r, (regAt s1.rs 0).lim 0 65536 = r := ⟨_, rfl⟩
  rw [hr] at q0 q1 q2 q3 q4 q5 q6 q7 ⊢
  have HRR := Lib.hid hr
  have R5 := Blk.new w4 #[.int .i64 r.c0, .int .i64 r.c1, .int .i64 r.c2, .int .i64 r.c3] 29
  have E5 := x4.alloc #[.int .i64 r.c0, .int .i64 r.c1, .int .i64 r.c2, .int .i64 r.c3] 29
  have HR5 := Lib.hid R5
  have HX5 := Lib.hid E5
  clear hs1 hfu hr x4 cC R5 E5
  go_upto_region 7 with fail
  generalize w4.alloc (.cells #[.int .i64 r.c0, .int .i64 r.c1, .int .i64 r.c2, .int .i64 r.c3] 29) = w5 at *
  have HE5 := Lib.hid (HE3.out.trans HX5.out)
  have HB5 := Lib.hid (HB3.out.trans HX5.out)
  have HO5 := Lib.hid (HO3.out.ext HX5.out)
  have HQ5 := Lib.hid (HQ3.out.ext HX5.out)
  clear HE3 HB3 HO3 HQ3 HX5
  have cC := (HC0.out.ext HB5.out).cell
  have hmx := maxI_fold
  have hmn := minI_fold
  have hlm : minI (maxI d 0) 65535 = limI 0 65535 d := by rw [maxI_eq, minI_eq, limI_eq (by omega)]; omega
  go_wp2_with fail
  refine (colour_any c Hg.out.1 Hg.out.2.1 Hg.out.2.2.1 Hg.out.2.2.2 _).mono ?_
  rintro e w6 ⟨rfl, x6⟩
  have HO6 := Lib.hid (HO5.out.ext x6)
  have hl64 : ∀ n, -9223372036854775808 ≤ limI 0 65536 n ∧ limI 0 65536 n ≤ 9223372036854775807 := fun n => by rw [limI_eq (by omega)]; omega
  have HL64 := Lib.hid hl64
  have hlb : -9223372036854775808 ≤ limI 0 65535 d ∧ limI 0 65535 d ≤ 9223372036854775807 := by rw [limI_eq (by omega)]; omega
  have HLB := Lib.hid hlb
  clear hl64 hlb
  go_wp2_with fail
  refine (shade_any w6 _ xs HO6.out.parr HOK.out (by omega) (c.lim 0 65536) (HL64.out _) (HL64.out _) (HL64.out _) (HL64.out _) x y (limI 0 65535 d) hx hy HLB.out).mono ?_
  rintro e w7 ⟨rfl, x7⟩
  rw [shadeR_idem, HS1.out, HRR.out]
  have R8 := Blk.new w7 #[.int .i64 r.c0, .int .i64 r.c1, .int .i64 r.c2, .int .i64 r.c3] 29
  have E8 := (x6.trans x7).alloc #[.int .i64 r.c0, .int .i64 r.c1, .int .i64 r.c2, .int .i64 r.c3] 29
  have HR8 := Lib.hid R8
  have HX8 := Lib.hid E8
  clear x6 x7 R8 E8 cC hmx hmn hlm HO6 HLB HL64
  go_upto_region 8 with fail
  generalize w7.alloc (.cells #[.int .i64 r.c0, .int .i64 r.c1, .int .i64 r.c2, .int .i64 r.c3] 29) = w8 at *
  have HE8 := Lib.hid (HE5.out.trans HX8.out)
  have HB8 := Lib.hid (HB5.out.trans HX8.out)
  have HO8 := Lib.hid (HO5.out.ext HX8.out)
  have HQ8 := Lib.hid (HQ5.out.ext HX8.out)
  have HR58 := Lib.hid (HR5.out.ext HX8.out)
  clear HE5 HB5 HO5 HQ5 HX8 HR5
  have cC := (HC0.out.ext HB8.out).cell
  have cP := (HP0.out.ext HB8.out).cell
  have cM := (HM0.out.ext HB8.out).cell
  go_wp2_with fail
  refine (place_any w8 _ ys HQ8.out.parr HOK3.out (by omega) p c m0 m1 m2 m3 Hb.out.1 Hb.out.2.1 Hb.out.2.2.1 Hb.out.2.2.2 Hg.out.1 Hg.out.2.1 Hg.out.2.2.1 Hg.out.2.2.2 Dd00.out Dd01.out Dd02.out Dd03.out Dd10.out Dd11.out Dd12.out Dd13.out Dd20.out Dd21.out Dd22.out Dd23.out Dd30.out Dd31.out Dd32.out Dd33.out).mono ?_
  rintro e w9 ⟨rfl, x9⟩
  generalize runV ys (placeR p c m0 m1 m2 m3) = s2
  obtain ⟨⟨t0, t1⟩, ⟨t2, t3⟩, ⟨t4, t5⟩, ⟨t6, t7⟩⟩ := lim_no (-4194304) 4194304 (by omega) (regAt s2.rs 0)
  obtain ⟨⟨k0, k1⟩, ⟨k2, k3⟩, ⟨k4, k5⟩, ⟨k6, k7⟩⟩ := lim_no 0 65536 (by omega) (regAt s2.rs 1)
  generalize (regAt s2.rs 0).lim (-4194304) 4194304 = pp at *
  generalize (regAt s2.rs 1).lim 0 65536 = kk at *
  have PP := (Blk.new w9 #[.int .i64 pp.c0, .int .i64 pp.c1, .int .i64 pp.c2, .int .i64 pp.c3] 29).alloc (.cells #[.int .i64 kk.c0, .int .i64 kk.c1, .int .i64 kk.c2, .int .i64 kk.c3] 29)
  have KK := Blk.new' (w := w9.alloc (.cells #[.int .i64 pp.c0, .int .i64 pp.c1, .int .i64 pp.c2, .int .i64 pp.c3] 29)) (b := w9.heap.size + 1) (by simp) #[.int .i64 kk.c0, .int .i64 kk.c1, .int .i64 kk.c2, .int .i64 kk.c3] 29
  have E10 := (x9.alloc #[.int .i64 pp.c0, .int .i64 pp.c1, .int .i64 pp.c2, .int .i64 pp.c3] 29).alloc #[.int .i64 kk.c0, .int .i64 kk.c1, .int .i64 kk.c2, .int .i64 kk.c3] 29
  have HPP := Lib.hid PP
  have HKK := Lib.hid KK
  have HX10 := Lib.hid E10
  clear x9 PP KK E10 cC cP cM s2
  go_upto_region 9 with fail
  generalize (w9.alloc (.cells #[.int .i64 pp.c0, .int .i64 pp.c1, .int .i64 pp.c2, .int .i64 pp.c3] 29)).alloc (.cells #[.int .i64 kk.c0, .int .i64 kk.c1, .int .i64 kk.c2, .int .i64 kk.c3] 29) = w10 at *
  have HE10 := Lib.hid (HE8.out.trans HX10.out)
  have HO10 := Lib.hid (HO8.out.ext HX10.out)
  have c1 := (HR58.out.ext HX10.out).cell
  have c2 := (HR8.out.ext HX10.out).cell
  have c3 := HPP.out.cell
  have c4 := HKK.out.cell
  have f1 := HFU.out
  have hE := eqV
  clear HE8 HO8 HX10 HR58 HR8 HPP HKK
  go_wp2_with fail
  refine wp_loop_rounds 5 ?_
  rw [rounds_succ]
  go_wp2
  rw [rounds_succ]
  go_wp2
  rw [rounds_succ]
  go_wp2
  rw [rounds_succ]
  go_wp2
  rw [rounds_succ]
  go_wp2_with fail
  refine (fuelP_any w10 _ xs HO10.out.parr HOK.out (by omega)).mono ?_
  rintro e w11 ⟨rfl, x11⟩
  go_wp2
  go_ret
  exact ⟨rfl, HE10.out.trans x11⟩
theorem vmColours_row {w : World} (u : Value) (sl : List Sm) (p0 p1 p2 p3 c0 c1 c2 c3 m0 m1 m2 m3 m4 m5 m6 m7 m8 m9 m10 m11 m12 m13 m14 m15 x y d : Int) (h0 : SArr w u sl) (hp0 : -9223372036854775808 ≤ p0 ∧ p0 ≤ 9223372036854775807) (hp1 : -9223372036854775808 ≤ p1 ∧ p1 ≤ 9223372036854775807) (hp2 : -9223372036854775808 ≤ p2 ∧ p2 ≤ 9223372036854775807) (hp3 : -9223372036854775808 ≤ p3 ∧ p3 ≤ 9223372036854775807) (hc0 : -9223372036854775808 ≤ c0 ∧ c0 ≤ 9223372036854775807) (hc1 : -9223372036854775808 ≤ c1 ∧ c1 ≤ 9223372036854775807) (hc2 : -9223372036854775808 ≤ c2 ∧ c2 ≤ 9223372036854775807) (hc3 : -9223372036854775808 ≤ c3 ∧ c3 ≤ 9223372036854775807) (hm0 : -9223372036854775808 ≤ m0 ∧ m0 ≤ 9223372036854775807) (hm1 : -9223372036854775808 ≤ m1 ∧ m1 ≤ 9223372036854775807) (hm2 : -9223372036854775808 ≤ m2 ∧ m2 ≤ 9223372036854775807) (hm3 : -9223372036854775808 ≤ m3 ∧ m3 ≤ 9223372036854775807) (hm4 : -9223372036854775808 ≤ m4 ∧ m4 ≤ 9223372036854775807) (hm5 : -9223372036854775808 ≤ m5 ∧ m5 ≤ 9223372036854775807) (hm6 : -9223372036854775808 ≤ m6 ∧ m6 ≤ 9223372036854775807) (hm7 : -9223372036854775808 ≤ m7 ∧ m7 ≤ 9223372036854775807) (hm8 : -9223372036854775808 ≤ m8 ∧ m8 ≤ 9223372036854775807) (hm9 : -9223372036854775808 ≤ m9 ∧ m9 ≤ 9223372036854775807) (hm10 : -9223372036854775808 ≤ m10 ∧ m10 ≤ 9223372036854775807) (hm11 : -9223372036854775808 ≤ m11 ∧ m11 ≤ 9223372036854775807) (hm12 : -9223372036854775808 ≤ m12 ∧ m12 ≤ 9223372036854775807) (hm13 : -9223372036854775808 ≤ m13 ∧ m13 ≤ 9223372036854775807) (hm14 : -9223372036854775808 ≤ m14 ∧ m14 ≤ 9223372036854775807) (hm15 : -9223372036854775808 ≤ m15 ∧ m15 ≤ 9223372036854775807) (hx : -9223372036854775808 ≤ x ∧ x ≤ 9223372036854775807) (hy : -9223372036854775808 ≤ y ∧ y ≤ 9223372036854775807) (hd : -9223372036854775808 ≤ d ∧ d ≤ 9223372036854775807) :
    Calls Try.prog 8 #[u, .agg #[.int .i64 p0, .int .i64 p1, .int .i64 p2, .int .i64 p3], .agg #[.int .i64 c0, .int .i64 c1, .int .i64 c2, .int .i64 c3], .agg #[.int .i64 m0, .int .i64 m1, .int .i64 m2, .int .i64 m3, .int .i64 m4, .int .i64 m5, .int .i64 m6, .int .i64 m7, .int .i64 m8, .int .i64 m9, .int .i64 m10, .int .i64 m11, .int .i64 m12, .int .i64 m13, .int .i64 m14, .int .i64 m15], .int .i64 x, .int .i64 y, .int .i64 d] w fun e w' => e = .returned (.bool true) ∧ Ext w w' := by
  by_cases l0 : sl.length ≤ 40
  · exact vmColours_main u sl ⟨p0, p1, p2, p3⟩ ⟨c0, c1, c2, c3⟩ ⟨m0, m1, m2, m3⟩ ⟨m4, m5, m6, m7⟩ ⟨m8, m9, m10, m11⟩ ⟨m12, m13, m14, m15⟩ x y d h0 hp0 hp1 hp2 hp3 hc0 hc1 hc2 hc3 hm0 hm1 hm2 hm3 hm4 hm5 hm6 hm7 hm8 hm9 hm10 hm11 hm12 hm13 hm14 hm15 hx hy hd l0
  · obtain ⟨⟨a0, cc0, rfl, -⟩, -, -⟩ := h0
    have hb : 40 < (sl.length : Int) := by omega
    go_enter Try.func8, Try.ntmps8
    go_wp2_with fail
    refine (awake8_any _).mono ?_
    rintro e w1 ⟨rfl, x1⟩
    have e1 := Ext.trans ((((Ext.refl w).alloc _ _).alloc _ _).alloc _ _) x1
    clear x1
    go_wp2
    go_ret
    exact ⟨rfl, e1⟩
end Go.Proofs.Ytellfhnfifgpoaa

