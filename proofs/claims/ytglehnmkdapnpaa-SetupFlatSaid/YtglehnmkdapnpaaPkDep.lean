/-
  DERIVED. The landed setup's depth, colour (made by mksetreal.py). · The landed setup's At (made by mksetreal.py). · The landed setup's Make and At, in plain numbers (made by mksetreal.py). · Layer 13: Awake (made by mklaw13.py).
-/
import Derived.Test.YtglehnmkdapnpaaPkLim
import Derived.Test.YtglehnmkdapnpaaPkEdge
import Derived.Test.YtglehnmkdapnpaaPkEdgeC
import Derived.Test.YtglehnmkdapnpaaPkClipL
import Derived.Test.YtglehnmkdapnpaaPkGs
import Derived.Test.YtglehnmkdapnpaaPkRefC
import Derived.Test.YtglehnmkdapnpaaPkOf
import Derived.Test.YtglehnmkdapnpaaPkRef3
import Derived.Test.YtglehnmkdapnpaaPkLaw1
namespace Go.Proofs.Ytglehnmkdapnpaa
open Go.RowKit
set_option linter.unusedVariables false
set_option maxRecDepth 100000 in
set_option maxHeartbeats 4000000 in
theorem depth_main (g0 g1 g2 g3 g4 g5 e0 e1 e2 n0 n1 n2 a0 a1 a2 a3 b0 b1 b2 b3 c0 c1 c2 c3 u0 u1 u2 PD0 PD1 PD2 ar dd : Int) (pd0 : u0 * e0 = PD0) (bd0 : -1152921504606846976 ≤ PD0 ∧ PD0 ≤ 1152921504606846976) (pd1 : u1 * e1 = PD1) (bd1 : -1152921504606846976 ≤ PD1 ∧ PD1 ≤ 1152921504606846976) (pd2 : u2 * e2 = PD2) (bd2 : -1152921504606846976 ≤ PD2 ∧ PD2 ≤ 1152921504606846976) (hA : ∀ u : World, Calls Try.prog 37 #[.agg #[.int .i64 g0, .int .i64 g1, .int .i64 g2, .int .i64 g3, .int .i64 g4, .int .i64 g5]] u fun e w' => e = .returned (.int .i64 ar) ∧ Ext u w') (hF : ∀ u : World, Calls Try.prog 35 #[.int .i64 (PD0 + PD1 + PD2), .int .i64 ar] u fun e w' => e = .returned (.int .i64 dd) ∧ Ext u w') (w : World) :
    Calls Try.prog 41 #[.agg #[.int .i64 g0, .int .i64 g1, .int .i64 g2, .int .i64 g3, .int .i64 g4, .int .i64 g5, .int .i64 e0, .int .i64 e1, .int .i64 e2, .int .i64 n0, .int .i64 n1, .int .i64 n2, .int .i64 a0, .int .i64 a1, .int .i64 a2, .int .i64 a3, .int .i64 b0, .int .i64 b1, .int .i64 b2, .int .i64 b3, .int .i64 c0, .int .i64 c1, .int .i64 c2, .int .i64 c3], .agg #[.int .i64 u0, .int .i64 u1, .int .i64 u2]] w fun e w' => e = .returned (.int .i64 dd) ∧ Ext w w' := by
  have HA := Lib.hid hA
  have HF := Lib.hid hF
  clear hA hF
  have xx : Ext w ((w.alloc (.cells #[.int .i64 g0, .int .i64 g1, .int .i64 g2, .int .i64 g3, .int .i64 g4, .int .i64 g5, .int .i64 e0, .int .i64 e1, .int .i64 e2, .int .i64 n0, .int .i64 n1, .int .i64 n2, .int .i64 a0, .int .i64 a1, .int .i64 a2, .int .i64 a3, .int .i64 b0, .int .i64 b1, .int .i64 b2, .int .i64 b3, .int .i64 c0, .int .i64 c1, .int .i64 c2, .int .i64 c3] 55)).alloc (.cells #[.int .i64 u0, .int .i64 u1, .int .i64 u2] 39)) := ((Ext.refl w).alloc _ _).alloc _ _
  have B2 := (Blk.new w #[.int .i64 g0, .int .i64 g1, .int .i64 g2, .int .i64 g3, .int .i64 g4, .int .i64 g5, .int .i64 e0, .int .i64 e1, .int .i64 e2, .int .i64 n0, .int .i64 n1, .int .i64 n2, .int .i64 a0, .int .i64 a1, .int .i64 a2, .int .i64 a3, .int .i64 b0, .int .i64 b1, .int .i64 b2, .int .i64 b3, .int .i64 c0, .int .i64 c1, .int .i64 c2, .int .i64 c3] 55).alloc (.cells #[.int .i64 u0, .int .i64 u1, .int .i64 u2] 39)
  have B3 := Blk.new (w.alloc (.cells #[.int .i64 g0, .int .i64 g1, .int .i64 g2, .int .i64 g3, .int .i64 g4, .int .i64 g5, .int .i64 e0, .int .i64 e1, .int .i64 e2, .int .i64 n0, .int .i64 n1, .int .i64 n2, .int .i64 a0, .int .i64 a1, .int .i64 a2, .int .i64 a3, .int .i64 b0, .int .i64 b1, .int .i64 b2, .int .i64 b3, .int .i64 c0, .int .i64 c1, .int .i64 c2, .int .i64 c3] 55)) #[.int .i64 u0, .int .i64 u1, .int .i64 u2] 39
  go_enter Try.func41, Try.ntmps41
  go_upto_region 1 with fail
  simp only [World.size_alloc] at B3
  generalize ((w.alloc (.cells #[.int .i64 g0, .int .i64 g1, .int .i64 g2, .int .i64 g3, .int .i64 g4, .int .i64 g5, .int .i64 e0, .int .i64 e1, .int .i64 e2, .int .i64 n0, .int .i64 n1, .int .i64 n2, .int .i64 a0, .int .i64 a1, .int .i64 a2, .int .i64 a3, .int .i64 b0, .int .i64 b1, .int .i64 b2, .int .i64 b3, .int .i64 c0, .int .i64 c1, .int .i64 c2, .int .i64 c3] 55)).alloc (.cells #[.int .i64 u0, .int .i64 u1, .int .i64 u2] 39)) = w1 at *
  have hX := fun u => idxR (.int .i64 u0) (.int .i64 u1) (.int .i64 u2) u
  have kc2 := B2.cell
  have kc3 := B3.cell
  go_wp2_with fail
  clear kc3
  refine wp_loop_rounds 4 ?_
  rw [rounds_succ]
  go_wp2_with fail
  rw [rounds_succ]
  go_wp2_with fail
  rw [rounds_succ]
  go_wp2_with fail
  rw [rounds_succ]
  have R := Lib.hid (B2.mid13 0 [.int .i64 g0, .int .i64 g1, .int .i64 g2, .int .i64 g3, .int .i64 g4, .int .i64 g5] rfl)
  clear kc2
  go_wp2_with (first
    | ((with_reducible refine wpList_load_mid (op := ⟨some 24, _, _, _, _, _⟩) ?_ 52 (.tmp 23) ?_ w.heap.size 0 ?_ [.int .i64 g0, .int .i64 g1, .int .i64 g2, .int .i64 g3, .int .i64 g4, .int .i64 g5] _ R.out Try.underlying52 ?_ ?_ ?_); rfl; rfl; rfl; rfl; kernel_rfl)
    | fail)
  refine (HA.out _).mono ?_
  rintro e w3 ⟨rfl, x3⟩
  have xx := xx.trans x3
  clear x3 R B2 B3
  go_wp2_with fail
  refine (HF.out _).mono ?_
  rintro e w4 ⟨rfl, x4⟩
  have xx := xx.trans x4
  clear x4
  go_wp2
  go_ret
  exact ⟨rfl, xx⟩
set_option maxRecDepth 100000 in
set_option maxHeartbeats 4000000 in
theorem col_r9 (f0 f1 f3 f5 f10 f11 f12 f13 f14 f15 f16 f17 f18 f19 f20 f21 f22 f23 f24 f25 f26 f27 f28 f29 f30 f31 f32 f33 f34 f35 f36 f37 f38 f39 f40 f41 f42 f43 f44 f45 f46 f47 f48 f49 f50 f51 f52 f53 f54 f55 f56 f57 f58 f59 : Value) (b2 b4 i j : Nat) (cur wt nr1 col new : Int) (z2 z4 : Array Value) (w : World) (B2 : Blk w b2 z2 55) (B4 : Blk w b4 z4 30) (hne : b2 ≠ b4) (hi : i < 3) (hj : j < 4) (e1 : z2[9 + i]? = some (.int .i64 nr1)) (e3 : z4[j]? = some (.int .i64 cur))
    (w1 : IntKind.i64.wrap (wt * nr1) = wt * nr1) (w2 : IntKind.i64.wrap (wt * nr1 * col) = wt * nr1 * col) (w3 : IntKind.i64.wrap (cur + wt * nr1 * col) = new) {Q : Exit → Act → World → Prop}
    (hQ : ∀ (d33 d34 d35 d36 d37 d38 d39 d40 d41 d42 d43 d44 d45 : Value) (wx : World), Calm [b4] w wx → Blk wx b4 (z4.setIfInBounds j (.int .i64 new)) 30 → Q .normal ⟨(f0 :: f1 :: Value.pointer (some ⟨b2, 0, none⟩) :: f3 :: Value.pointer (some ⟨b4, 0, none⟩) :: f5 :: Value.int .i64 (i : Int) :: Value.int .i64 wt :: Value.int .i64 (j : Int) :: Value.int .i64 col :: f10 :: f11 :: f12 :: f13 :: f14 :: f15 :: f16 :: f17 :: f18 :: f19 :: f20 :: f21 :: f22 :: f23 :: f24 :: f25 :: f26 :: f27 :: f28 :: f29 :: f30 :: f31 :: f32 :: d33 :: d34 :: d35 :: d36 :: d37 :: d38 :: d39 :: d40 :: d41 :: d42 :: d43 :: d44 :: d45 :: f46 :: f47 :: f48 :: f49 :: f50 :: f51 :: f52 :: f53 :: f54 :: f55 :: f56 :: f57 :: f58 :: f59 :: List.nil).toArray, []⟩ wx) :
    Code.wp Try.prog (regionOf Try.f42 9) Q ⟨(f0 :: f1 :: Value.pointer (some ⟨b2, 0, none⟩) :: f3 :: Value.pointer (some ⟨b4, 0, none⟩) :: f5 :: Value.int .i64 (i : Int) :: Value.int .i64 wt :: Value.int .i64 (j : Int) :: Value.int .i64 col :: f10 :: f11 :: f12 :: f13 :: f14 :: f15 :: f16 :: f17 :: f18 :: f19 :: f20 :: f21 :: f22 :: f23 :: f24 :: f25 :: f26 :: f27 :: f28 :: f29 :: f30 :: f31 :: f32 :: f33 :: f34 :: f35 :: f36 :: f37 :: f38 :: f39 :: f40 :: f41 :: f42 :: f43 :: f44 :: f45 :: f46 :: f47 :: f48 :: f49 :: f50 :: f51 :: f52 :: f53 :: f54 :: f55 :: f56 :: f57 :: f58 :: f59 :: List.nil).toArray, []⟩ w := by
  have hiI : (i : Int) < 3 := by omega
  have hjI : (j : Int) < 4 := by omega
  have HQ := Lib.hid hQ
  clear hQ
  change Code.wp Try.prog (Code.region _ _ true) _ _ _
  apply wp_region_last 30 [false, false, false, false, false, false, false, false, false, false, false, false, false, true] [] [] [b4] _ (by kernel_rfl) (by kernel_rfl) (by kernel_rfl) (by kernel_rfl)
  case H =>
    intro y0 hy0
    have hne : Nonempty (Wx y0) := ⟨⟨y0, Ext.refl y0⟩⟩
    have q1 := fun (t : Wx y0) => by
      have := ((B2.calm hy0 (by simp)).ext t.ext).cell (9 + i)
      rw [e1] at this
      exact this
    have q3 := fun (t : Wx y0) => by
      have := ((B4.calm hy0 (by simp)).ext t.ext).cell j
      rw [e3] at this
      exact this
    simp only [eraseM]
    repeat (go_big_quiet_step (fail))
    exact wpQuiet_nil rfl
  case hF => rfl
  case T =>
    change tailL _ _ _ _ _ [_] _ _
    intro u1 x1 hc
    have B4n := B4.calm hc (by simp)
    have c9 := B4n.cell j
    rw [e3] at c9
    have f9 := B4n.frozen
    refine gives_skip (u' := u1.setCell ⟨b4, j, none⟩ (.int .i64 new)) (by simp [go_sem, c9, f9]) ⟨(hc.wide (by simp)).trans (calm_put u1 b4 j _), fun h => absurd rfl h, ?_⟩
    intro u2 x2 hc2
    exact HQ.out _ _ _ _ _ _ _ _ _ _ _ _ _ _ hc2 ((B4n.set j _).ext x2)
set_option maxRecDepth 100000 in
set_option maxHeartbeats 4000000 in
theorem colour_main13 (g0 g1 g2 g3 g4 g5 e0 e1 e2 n0 n1 n2 a0 a1 a2 a3 b0 b1 b2 b3 c0 c1 c2 c3 u0 u1 u2 PN0 PN1 PN2 C0 C1 C2 C3 s1_0 s1_1 s1_2 s1_3 s2_0 s2_1 s2_2 s2_3 s3_0 s3_1 s3_2 s3_3 : Int)
    (pn0 : u0 * n0 = PN0) (bn0 : -1152921504606846976 ≤ PN0 ∧ PN0 ≤ 1152921504606846976) (wn0 : IntKind.i64.wrap (u0 * n0) = u0 * n0)
    (wc00 : IntKind.i64.wrap (u0 * n0 * a0) = u0 * n0 * a0) (qc00 : IntKind.i64.wrap (0 + u0 * n0 * a0) = s1_0)
    (wc01 : IntKind.i64.wrap (u0 * n0 * a1) = u0 * n0 * a1) (qc01 : IntKind.i64.wrap (0 + u0 * n0 * a1) = s1_1)
    (wc02 : IntKind.i64.wrap (u0 * n0 * a2) = u0 * n0 * a2) (qc02 : IntKind.i64.wrap (0 + u0 * n0 * a2) = s1_2)
    (wc03 : IntKind.i64.wrap (u0 * n0 * a3) = u0 * n0 * a3) (qc03 : IntKind.i64.wrap (0 + u0 * n0 * a3) = s1_3)
    (pn1 : u1 * n1 = PN1) (bn1 : -1152921504606846976 ≤ PN1 ∧ PN1 ≤ 1152921504606846976) (wn1 : IntKind.i64.wrap (u1 * n1) = u1 * n1)
    (wc10 : IntKind.i64.wrap (u1 * n1 * b0) = u1 * n1 * b0) (qc10 : IntKind.i64.wrap (s1_0 + u1 * n1 * b0) = s2_0)
    (wc11 : IntKind.i64.wrap (u1 * n1 * b1) = u1 * n1 * b1) (qc11 : IntKind.i64.wrap (s1_1 + u1 * n1 * b1) = s2_1)
    (wc12 : IntKind.i64.wrap (u1 * n1 * b2) = u1 * n1 * b2) (qc12 : IntKind.i64.wrap (s1_2 + u1 * n1 * b2) = s2_2)
    (wc13 : IntKind.i64.wrap (u1 * n1 * b3) = u1 * n1 * b3) (qc13 : IntKind.i64.wrap (s1_3 + u1 * n1 * b3) = s2_3)
    (pn2 : u2 * n2 = PN2) (bn2 : -1152921504606846976 ≤ PN2 ∧ PN2 ≤ 1152921504606846976) (wn2 : IntKind.i64.wrap (u2 * n2) = u2 * n2)
    (wc20 : IntKind.i64.wrap (u2 * n2 * c0) = u2 * n2 * c0) (qc20 : IntKind.i64.wrap (s2_0 + u2 * n2 * c0) = s3_0)
    (wc21 : IntKind.i64.wrap (u2 * n2 * c1) = u2 * n2 * c1) (qc21 : IntKind.i64.wrap (s2_1 + u2 * n2 * c1) = s3_1)
    (wc22 : IntKind.i64.wrap (u2 * n2 * c2) = u2 * n2 * c2) (qc22 : IntKind.i64.wrap (s2_2 + u2 * n2 * c2) = s3_2)
    (wc23 : IntKind.i64.wrap (u2 * n2 * c3) = u2 * n2 * c3) (qc23 : IntKind.i64.wrap (s2_3 + u2 * n2 * c3) = s3_3)
    (hF0 : ∀ u : World, Calls Try.prog 35 #[.int .i64 s3_0, .int .i64 (PN0 + PN1 + PN2)] u fun e w' => e = .returned (.int .i64 C0) ∧ Ext u w') (hF1 : ∀ u : World, Calls Try.prog 35 #[.int .i64 s3_1, .int .i64 (PN0 + PN1 + PN2)] u fun e w' => e = .returned (.int .i64 C1) ∧ Ext u w') (hF2 : ∀ u : World, Calls Try.prog 35 #[.int .i64 s3_2, .int .i64 (PN0 + PN1 + PN2)] u fun e w' => e = .returned (.int .i64 C2) ∧ Ext u w') (hF3 : ∀ u : World, Calls Try.prog 35 #[.int .i64 s3_3, .int .i64 (PN0 + PN1 + PN2)] u fun e w' => e = .returned (.int .i64 C3) ∧ Ext u w') (w : World) :
    Calls Try.prog 42 #[.agg #[.int .i64 g0, .int .i64 g1, .int .i64 g2, .int .i64 g3, .int .i64 g4, .int .i64 g5, .int .i64 e0, .int .i64 e1, .int .i64 e2, .int .i64 n0, .int .i64 n1, .int .i64 n2, .int .i64 a0, .int .i64 a1, .int .i64 a2, .int .i64 a3, .int .i64 b0, .int .i64 b1, .int .i64 b2, .int .i64 b3, .int .i64 c0, .int .i64 c1, .int .i64 c2, .int .i64 c3], .agg #[.int .i64 u0, .int .i64 u1, .int .i64 u2]] w fun e w' => e = .returned (.agg #[.int .i64 C0, .int .i64 C1, .int .i64 C2, .int .i64 C3]) ∧ Ext w w' := by
  have HQ00 := Lib.hid (And.intro wn0 (And.intro wc00 qc00))
  have HQ01 := Lib.hid (And.intro wn0 (And.intro wc01 qc01))
  have HQ02 := Lib.hid (And.intro wn0 (And.intro wc02 qc02))
  have HQ03 := Lib.hid (And.intro wn0 (And.intro wc03 qc03))
  have HQ10 := Lib.hid (And.intro wn1 (And.intro wc10 qc10))
  have HQ11 := Lib.hid (And.intro wn1 (And.intro wc11 qc11))
  have HQ12 := Lib.hid (And.intro wn1 (And.intro wc12 qc12))
  have HQ13 := Lib.hid (And.intro wn1 (And.intro wc13 qc13))
  have HQ20 := Lib.hid (And.intro wn2 (And.intro wc20 qc20))
  have HQ21 := Lib.hid (And.intro wn2 (And.intro wc21 qc21))
  have HQ22 := Lib.hid (And.intro wn2 (And.intro wc22 qc22))
  have HQ23 := Lib.hid (And.intro wn2 (And.intro wc23 qc23))
  clear wn0 wn1 wn2
  clear wc00 qc00 wc01 qc01 wc02 qc02 wc03 qc03 wc10 qc10 wc11 qc11 wc12 qc12 wc13 qc13 wc20 qc20 wc21 qc21 wc22 qc22 wc23 qc23
  have HF0 := Lib.hid hF0
  have HF1 := Lib.hid hF1
  have HF2 := Lib.hid hF2
  have HF3 := Lib.hid hF3
  clear hF0 hF1 hF2 hF3
  have xx : Ext w (((w.alloc (.cells #[.int .i64 g0, .int .i64 g1, .int .i64 g2, .int .i64 g3, .int .i64 g4, .int .i64 g5, .int .i64 e0, .int .i64 e1, .int .i64 e2, .int .i64 n0, .int .i64 n1, .int .i64 n2, .int .i64 a0, .int .i64 a1, .int .i64 a2, .int .i64 a3, .int .i64 b0, .int .i64 b1, .int .i64 b2, .int .i64 b3, .int .i64 c0, .int .i64 c1, .int .i64 c2, .int .i64 c3] 55)).alloc (.cells #[.int .i64 u0, .int .i64 u1, .int .i64 u2] 39)).alloc (.cells #[.int .i64 0, .int .i64 0, .int .i64 0, .int .i64 0] 30)) := (((Ext.refl w).alloc _ _).alloc _ _).alloc _ _
  have B2 := ((Blk.new w #[.int .i64 g0, .int .i64 g1, .int .i64 g2, .int .i64 g3, .int .i64 g4, .int .i64 g5, .int .i64 e0, .int .i64 e1, .int .i64 e2, .int .i64 n0, .int .i64 n1, .int .i64 n2, .int .i64 a0, .int .i64 a1, .int .i64 a2, .int .i64 a3, .int .i64 b0, .int .i64 b1, .int .i64 b2, .int .i64 b3, .int .i64 c0, .int .i64 c1, .int .i64 c2, .int .i64 c3] 55).alloc (.cells #[.int .i64 u0, .int .i64 u1, .int .i64 u2] 39)).alloc (.cells #[.int .i64 0, .int .i64 0, .int .i64 0, .int .i64 0] 30)
  have B3 := (Blk.new (w.alloc (.cells #[.int .i64 g0, .int .i64 g1, .int .i64 g2, .int .i64 g3, .int .i64 g4, .int .i64 g5, .int .i64 e0, .int .i64 e1, .int .i64 e2, .int .i64 n0, .int .i64 n1, .int .i64 n2, .int .i64 a0, .int .i64 a1, .int .i64 a2, .int .i64 a3, .int .i64 b0, .int .i64 b1, .int .i64 b2, .int .i64 b3, .int .i64 c0, .int .i64 c1, .int .i64 c2, .int .i64 c3] 55)) #[.int .i64 u0, .int .i64 u1, .int .i64 u2] 39).alloc (.cells #[.int .i64 0, .int .i64 0, .int .i64 0, .int .i64 0] 30)
  have B4 := Blk.new ((w.alloc (.cells #[.int .i64 g0, .int .i64 g1, .int .i64 g2, .int .i64 g3, .int .i64 g4, .int .i64 g5, .int .i64 e0, .int .i64 e1, .int .i64 e2, .int .i64 n0, .int .i64 n1, .int .i64 n2, .int .i64 a0, .int .i64 a1, .int .i64 a2, .int .i64 a3, .int .i64 b0, .int .i64 b1, .int .i64 b2, .int .i64 b3, .int .i64 c0, .int .i64 c1, .int .i64 c2, .int .i64 c3] 55)).alloc (.cells #[.int .i64 u0, .int .i64 u1, .int .i64 u2] 39)) #[.int .i64 0, .int .i64 0, .int .i64 0, .int .i64 0] 30
  go_enter Try.func42, Try.ntmps42
  go_upto_region 1 with fail
  simp only [World.size_alloc] at B3 B4
  generalize (((w.alloc (.cells #[.int .i64 g0, .int .i64 g1, .int .i64 g2, .int .i64 g3, .int .i64 g4, .int .i64 g5, .int .i64 e0, .int .i64 e1, .int .i64 e2, .int .i64 n0, .int .i64 n1, .int .i64 n2, .int .i64 a0, .int .i64 a1, .int .i64 a2, .int .i64 a3, .int .i64 b0, .int .i64 b1, .int .i64 b2, .int .i64 b3, .int .i64 c0, .int .i64 c1, .int .i64 c2, .int .i64 c3] 55)).alloc (.cells #[.int .i64 u0, .int .i64 u1, .int .i64 u2] 39)).alloc (.cells #[.int .i64 0, .int .i64 0, .int .i64 0, .int .i64 0] 30)) = w1 at *
  have hX := fun u => idxR (.int .i64 u0) (.int .i64 u1) (.int .i64 u2) u
  have kc3 := B3.cell
  go_wp2_with fail
  clear kc3
  refine wp_loop_rounds 4 ?_
  rw [rounds_succ]
  have kc2 := B2.cell
  have hY := fun u => idx4 (.int .i64 a0) (.int .i64 a1) (.int .i64 a2) (.int .i64 a3) u
  go_wp2_with fail
  clear kc2
  refine wp_loop_rounds 5 ?_
  rw [rounds_succ]
  go_upto_region 9 with fail
  refine col_r9 _ _ _ _ _ _ _ _ _ _ _ _ _ _ _ _ _ _ _ _ _ _ _ _ _ _ _ _ _ _ _ _ _ _ _ _ _ _ _ _ _ _ _ _ _ _ _ _ _ _ _ _ _ _ w.heap.size (w.heap.size + 1 + 1) 0 0 0 u0 n0 a0 s1_0 #[.int .i64 g0, .int .i64 g1, .int .i64 g2, .int .i64 g3, .int .i64 g4, .int .i64 g5, .int .i64 e0, .int .i64 e1, .int .i64 e2, .int .i64 n0, .int .i64 n1, .int .i64 n2, .int .i64 a0, .int .i64 a1, .int .i64 a2, .int .i64 a3, .int .i64 b0, .int .i64 b1, .int .i64 b2, .int .i64 b3, .int .i64 c0, .int .i64 c1, .int .i64 c2, .int .i64 c3] #[.int .i64 0, .int .i64 0, .int .i64 0, .int .i64 0] _ B2 B4 (by omega) (by omega) (by omega) rfl rfl HQ00.out.1 HQ00.out.2.1 HQ00.out.2.2 ?_
  intro d33 d34 d35 d36 d37 d38 d39 d40 d41 d42 d43 d44 d45 w7_00 cx B4'
  have B4 : Blk w7_00 (w.heap.size + 1 + 1) #[.int .i64 s1_0, .int .i64 0, .int .i64 0, .int .i64 0] 30 := by simpa using B4'
  have B2 := B2.calm cx (by simp; omega)
  have xx := Ext.calm_trans xx cx (by simp; omega)
  clear B4' cx
  go_wp2_with fail
  rw [rounds_succ]
  go_upto_region 9 with fail
  refine col_r9 _ _ _ _ _ _ _ _ _ _ _ _ _ _ _ _ _ _ _ _ _ _ _ _ _ _ _ _ _ _ _ _ _ _ _ _ _ _ _ _ _ _ _ _ _ _ _ _ _ _ _ _ _ _ w.heap.size (w.heap.size + 1 + 1) 0 1 0 u0 n0 a1 s1_1 #[.int .i64 g0, .int .i64 g1, .int .i64 g2, .int .i64 g3, .int .i64 g4, .int .i64 g5, .int .i64 e0, .int .i64 e1, .int .i64 e2, .int .i64 n0, .int .i64 n1, .int .i64 n2, .int .i64 a0, .int .i64 a1, .int .i64 a2, .int .i64 a3, .int .i64 b0, .int .i64 b1, .int .i64 b2, .int .i64 b3, .int .i64 c0, .int .i64 c1, .int .i64 c2, .int .i64 c3] #[.int .i64 s1_0, .int .i64 0, .int .i64 0, .int .i64 0] _ B2 B4 (by omega) (by omega) (by omega) rfl rfl HQ01.out.1 HQ01.out.2.1 HQ01.out.2.2 ?_
  intro d33 d34 d35 d36 d37 d38 d39 d40 d41 d42 d43 d44 d45 w7_01 cx B4'
  have B4 : Blk w7_01 (w.heap.size + 1 + 1) #[.int .i64 s1_0, .int .i64 s1_1, .int .i64 0, .int .i64 0] 30 := by simpa using B4'
  have B2 := B2.calm cx (by simp; omega)
  have xx := Ext.calm_trans xx cx (by simp; omega)
  clear B4' cx
  go_wp2_with fail
  rw [rounds_succ]
  go_upto_region 9 with fail
  refine col_r9 _ _ _ _ _ _ _ _ _ _ _ _ _ _ _ _ _ _ _ _ _ _ _ _ _ _ _ _ _ _ _ _ _ _ _ _ _ _ _ _ _ _ _ _ _ _ _ _ _ _ _ _ _ _ w.heap.size (w.heap.size + 1 + 1) 0 2 0 u0 n0 a2 s1_2 #[.int .i64 g0, .int .i64 g1, .int .i64 g2, .int .i64 g3, .int .i64 g4, .int .i64 g5, .int .i64 e0, .int .i64 e1, .int .i64 e2, .int .i64 n0, .int .i64 n1, .int .i64 n2, .int .i64 a0, .int .i64 a1, .int .i64 a2, .int .i64 a3, .int .i64 b0, .int .i64 b1, .int .i64 b2, .int .i64 b3, .int .i64 c0, .int .i64 c1, .int .i64 c2, .int .i64 c3] #[.int .i64 s1_0, .int .i64 s1_1, .int .i64 0, .int .i64 0] _ B2 B4 (by omega) (by omega) (by omega) rfl rfl HQ02.out.1 HQ02.out.2.1 HQ02.out.2.2 ?_
  intro d33 d34 d35 d36 d37 d38 d39 d40 d41 d42 d43 d44 d45 w7_02 cx B4'
  have B4 : Blk w7_02 (w.heap.size + 1 + 1) #[.int .i64 s1_0, .int .i64 s1_1, .int .i64 s1_2, .int .i64 0] 30 := by simpa using B4'
  have B2 := B2.calm cx (by simp; omega)
  have xx := Ext.calm_trans xx cx (by simp; omega)
  clear B4' cx
  go_wp2_with fail
  rw [rounds_succ]
  go_upto_region 9 with fail
  refine col_r9 _ _ _ _ _ _ _ _ _ _ _ _ _ _ _ _ _ _ _ _ _ _ _ _ _ _ _ _ _ _ _ _ _ _ _ _ _ _ _ _ _ _ _ _ _ _ _ _ _ _ _ _ _ _ w.heap.size (w.heap.size + 1 + 1) 0 3 0 u0 n0 a3 s1_3 #[.int .i64 g0, .int .i64 g1, .int .i64 g2, .int .i64 g3, .int .i64 g4, .int .i64 g5, .int .i64 e0, .int .i64 e1, .int .i64 e2, .int .i64 n0, .int .i64 n1, .int .i64 n2, .int .i64 a0, .int .i64 a1, .int .i64 a2, .int .i64 a3, .int .i64 b0, .int .i64 b1, .int .i64 b2, .int .i64 b3, .int .i64 c0, .int .i64 c1, .int .i64 c2, .int .i64 c3] #[.int .i64 s1_0, .int .i64 s1_1, .int .i64 s1_2, .int .i64 0] _ B2 B4 (by omega) (by omega) (by omega) rfl rfl HQ03.out.1 HQ03.out.2.1 HQ03.out.2.2 ?_
  intro d33 d34 d35 d36 d37 d38 d39 d40 d41 d42 d43 d44 d45 w7_03 cx B4'
  have B4 : Blk w7_03 (w.heap.size + 1 + 1) #[.int .i64 s1_0, .int .i64 s1_1, .int .i64 s1_2, .int .i64 s1_3] 30 := by simpa using B4'
  have B2 := B2.calm cx (by simp; omega)
  have xx := Ext.calm_trans xx cx (by simp; omega)
  clear B4' cx
  go_wp2_with fail
  rw [rounds_succ]
  go_wp2_with fail
  clear hY
  rw [rounds_succ]
  have kc2 := B2.cell
  have hY := fun u => idx4 (.int .i64 b0) (.int .i64 b1) (.int .i64 b2) (.int .i64 b3) u
  go_wp2_with fail
  clear kc2
  refine wp_loop_rounds 5 ?_
  rw [rounds_succ]
  go_upto_region 9 with fail
  refine col_r9 _ _ _ _ _ _ _ _ _ _ _ _ _ _ _ _ _ _ _ _ _ _ _ _ _ _ _ _ _ _ _ _ _ _ _ _ _ _ _ _ _ _ _ _ _ _ _ _ _ _ _ _ _ _ w.heap.size (w.heap.size + 1 + 1) 1 0 s1_0 u1 n1 b0 s2_0 #[.int .i64 g0, .int .i64 g1, .int .i64 g2, .int .i64 g3, .int .i64 g4, .int .i64 g5, .int .i64 e0, .int .i64 e1, .int .i64 e2, .int .i64 n0, .int .i64 n1, .int .i64 n2, .int .i64 a0, .int .i64 a1, .int .i64 a2, .int .i64 a3, .int .i64 b0, .int .i64 b1, .int .i64 b2, .int .i64 b3, .int .i64 c0, .int .i64 c1, .int .i64 c2, .int .i64 c3] #[.int .i64 s1_0, .int .i64 s1_1, .int .i64 s1_2, .int .i64 s1_3] _ B2 B4 (by omega) (by omega) (by omega) rfl rfl HQ10.out.1 HQ10.out.2.1 HQ10.out.2.2 ?_
  intro d33 d34 d35 d36 d37 d38 d39 d40 d41 d42 d43 d44 d45 w7_10 cx B4'
  have B4 : Blk w7_10 (w.heap.size + 1 + 1) #[.int .i64 s2_0, .int .i64 s1_1, .int .i64 s1_2, .int .i64 s1_3] 30 := by simpa using B4'
  have B2 := B2.calm cx (by simp; omega)
  have xx := Ext.calm_trans xx cx (by simp; omega)
  clear B4' cx
  go_wp2_with fail
  rw [rounds_succ]
  go_upto_region 9 with fail
  refine col_r9 _ _ _ _ _ _ _ _ _ _ _ _ _ _ _ _ _ _ _ _ _ _ _ _ _ _ _ _ _ _ _ _ _ _ _ _ _ _ _ _ _ _ _ _ _ _ _ _ _ _ _ _ _ _ w.heap.size (w.heap.size + 1 + 1) 1 1 s1_1 u1 n1 b1 s2_1 #[.int .i64 g0, .int .i64 g1, .int .i64 g2, .int .i64 g3, .int .i64 g4, .int .i64 g5, .int .i64 e0, .int .i64 e1, .int .i64 e2, .int .i64 n0, .int .i64 n1, .int .i64 n2, .int .i64 a0, .int .i64 a1, .int .i64 a2, .int .i64 a3, .int .i64 b0, .int .i64 b1, .int .i64 b2, .int .i64 b3, .int .i64 c0, .int .i64 c1, .int .i64 c2, .int .i64 c3] #[.int .i64 s2_0, .int .i64 s1_1, .int .i64 s1_2, .int .i64 s1_3] _ B2 B4 (by omega) (by omega) (by omega) rfl rfl HQ11.out.1 HQ11.out.2.1 HQ11.out.2.2 ?_
  intro d33 d34 d35 d36 d37 d38 d39 d40 d41 d42 d43 d44 d45 w7_11 cx B4'
  have B4 : Blk w7_11 (w.heap.size + 1 + 1) #[.int .i64 s2_0, .int .i64 s2_1, .int .i64 s1_2, .int .i64 s1_3] 30 := by simpa using B4'
  have B2 := B2.calm cx (by simp; omega)
  have xx := Ext.calm_trans xx cx (by simp; omega)
  clear B4' cx
  go_wp2_with fail
  rw [rounds_succ]
  go_upto_region 9 with fail
  refine col_r9 _ _ _ _ _ _ _ _ _ _ _ _ _ _ _ _ _ _ _ _ _ _ _ _ _ _ _ _ _ _ _ _ _ _ _ _ _ _ _ _ _ _ _ _ _ _ _ _ _ _ _ _ _ _ w.heap.size (w.heap.size + 1 + 1) 1 2 s1_2 u1 n1 b2 s2_2 #[.int .i64 g0, .int .i64 g1, .int .i64 g2, .int .i64 g3, .int .i64 g4, .int .i64 g5, .int .i64 e0, .int .i64 e1, .int .i64 e2, .int .i64 n0, .int .i64 n1, .int .i64 n2, .int .i64 a0, .int .i64 a1, .int .i64 a2, .int .i64 a3, .int .i64 b0, .int .i64 b1, .int .i64 b2, .int .i64 b3, .int .i64 c0, .int .i64 c1, .int .i64 c2, .int .i64 c3] #[.int .i64 s2_0, .int .i64 s2_1, .int .i64 s1_2, .int .i64 s1_3] _ B2 B4 (by omega) (by omega) (by omega) rfl rfl HQ12.out.1 HQ12.out.2.1 HQ12.out.2.2 ?_
  intro d33 d34 d35 d36 d37 d38 d39 d40 d41 d42 d43 d44 d45 w7_12 cx B4'
  have B4 : Blk w7_12 (w.heap.size + 1 + 1) #[.int .i64 s2_0, .int .i64 s2_1, .int .i64 s2_2, .int .i64 s1_3] 30 := by simpa using B4'
  have B2 := B2.calm cx (by simp; omega)
  have xx := Ext.calm_trans xx cx (by simp; omega)
  clear B4' cx
  go_wp2_with fail
  rw [rounds_succ]
  go_upto_region 9 with fail
  refine col_r9 _ _ _ _ _ _ _ _ _ _ _ _ _ _ _ _ _ _ _ _ _ _ _ _ _ _ _ _ _ _ _ _ _ _ _ _ _ _ _ _ _ _ _ _ _ _ _ _ _ _ _ _ _ _ w.heap.size (w.heap.size + 1 + 1) 1 3 s1_3 u1 n1 b3 s2_3 #[.int .i64 g0, .int .i64 g1, .int .i64 g2, .int .i64 g3, .int .i64 g4, .int .i64 g5, .int .i64 e0, .int .i64 e1, .int .i64 e2, .int .i64 n0, .int .i64 n1, .int .i64 n2, .int .i64 a0, .int .i64 a1, .int .i64 a2, .int .i64 a3, .int .i64 b0, .int .i64 b1, .int .i64 b2, .int .i64 b3, .int .i64 c0, .int .i64 c1, .int .i64 c2, .int .i64 c3] #[.int .i64 s2_0, .int .i64 s2_1, .int .i64 s2_2, .int .i64 s1_3] _ B2 B4 (by omega) (by omega) (by omega) rfl rfl HQ13.out.1 HQ13.out.2.1 HQ13.out.2.2 ?_
  intro d33 d34 d35 d36 d37 d38 d39 d40 d41 d42 d43 d44 d45 w7_13 cx B4'
  have B4 : Blk w7_13 (w.heap.size + 1 + 1) #[.int .i64 s2_0, .int .i64 s2_1, .int .i64 s2_2, .int .i64 s2_3] 30 := by simpa using B4'
  have B2 := B2.calm cx (by simp; omega)
  have xx := Ext.calm_trans xx cx (by simp; omega)
  clear B4' cx
  go_wp2_with fail
  rw [rounds_succ]
  go_wp2_with fail
  clear hY
  rw [rounds_succ]
  have kc2 := B2.cell
  have hY := fun u => idx4 (.int .i64 c0) (.int .i64 c1) (.int .i64 c2) (.int .i64 c3) u
  go_wp2_with fail
  clear kc2
  refine wp_loop_rounds 5 ?_
  rw [rounds_succ]
  go_upto_region 9 with fail
  refine col_r9 _ _ _ _ _ _ _ _ _ _ _ _ _ _ _ _ _ _ _ _ _ _ _ _ _ _ _ _ _ _ _ _ _ _ _ _ _ _ _ _ _ _ _ _ _ _ _ _ _ _ _ _ _ _ w.heap.size (w.heap.size + 1 + 1) 2 0 s2_0 u2 n2 c0 s3_0 #[.int .i64 g0, .int .i64 g1, .int .i64 g2, .int .i64 g3, .int .i64 g4, .int .i64 g5, .int .i64 e0, .int .i64 e1, .int .i64 e2, .int .i64 n0, .int .i64 n1, .int .i64 n2, .int .i64 a0, .int .i64 a1, .int .i64 a2, .int .i64 a3, .int .i64 b0, .int .i64 b1, .int .i64 b2, .int .i64 b3, .int .i64 c0, .int .i64 c1, .int .i64 c2, .int .i64 c3] #[.int .i64 s2_0, .int .i64 s2_1, .int .i64 s2_2, .int .i64 s2_3] _ B2 B4 (by omega) (by omega) (by omega) rfl rfl HQ20.out.1 HQ20.out.2.1 HQ20.out.2.2 ?_
  intro d33 d34 d35 d36 d37 d38 d39 d40 d41 d42 d43 d44 d45 w7_20 cx B4'
  have B4 : Blk w7_20 (w.heap.size + 1 + 1) #[.int .i64 s3_0, .int .i64 s2_1, .int .i64 s2_2, .int .i64 s2_3] 30 := by simpa using B4'
  have B2 := B2.calm cx (by simp; omega)
  have xx := Ext.calm_trans xx cx (by simp; omega)
  clear B4' cx
  go_wp2_with fail
  rw [rounds_succ]
  go_upto_region 9 with fail
  refine col_r9 _ _ _ _ _ _ _ _ _ _ _ _ _ _ _ _ _ _ _ _ _ _ _ _ _ _ _ _ _ _ _ _ _ _ _ _ _ _ _ _ _ _ _ _ _ _ _ _ _ _ _ _ _ _ w.heap.size (w.heap.size + 1 + 1) 2 1 s2_1 u2 n2 c1 s3_1 #[.int .i64 g0, .int .i64 g1, .int .i64 g2, .int .i64 g3, .int .i64 g4, .int .i64 g5, .int .i64 e0, .int .i64 e1, .int .i64 e2, .int .i64 n0, .int .i64 n1, .int .i64 n2, .int .i64 a0, .int .i64 a1, .int .i64 a2, .int .i64 a3, .int .i64 b0, .int .i64 b1, .int .i64 b2, .int .i64 b3, .int .i64 c0, .int .i64 c1, .int .i64 c2, .int .i64 c3] #[.int .i64 s3_0, .int .i64 s2_1, .int .i64 s2_2, .int .i64 s2_3] _ B2 B4 (by omega) (by omega) (by omega) rfl rfl HQ21.out.1 HQ21.out.2.1 HQ21.out.2.2 ?_
  intro d33 d34 d35 d36 d37 d38 d39 d40 d41 d42 d43 d44 d45 w7_21 cx B4'
  have B4 : Blk w7_21 (w.heap.size + 1 + 1) #[.int .i64 s3_0, .int .i64 s3_1, .int .i64 s2_2, .int .i64 s2_3] 30 := by simpa using B4'
  have B2 := B2.calm cx (by simp; omega)
  have xx := Ext.calm_trans xx cx (by simp; omega)
  clear B4' cx
  go_wp2_with fail
  rw [rounds_succ]
  go_upto_region 9 with fail
  refine col_r9 _ _ _ _ _ _ _ _ _ _ _ _ _ _ _ _ _ _ _ _ _ _ _ _ _ _ _ _ _ _ _ _ _ _ _ _ _ _ _ _ _ _ _ _ _ _ _ _ _ _ _ _ _ _ w.heap.size (w.heap.size + 1 + 1) 2 2 s2_2 u2 n2 c2 s3_2 #[.int .i64 g0, .int .i64 g1, .int .i64 g2, .int .i64 g3, .int .i64 g4, .int .i64 g5, .int .i64 e0, .int .i64 e1, .int .i64 e2, .int .i64 n0, .int .i64 n1, .int .i64 n2, .int .i64 a0, .int .i64 a1, .int .i64 a2, .int .i64 a3, .int .i64 b0, .int .i64 b1, .int .i64 b2, .int .i64 b3, .int .i64 c0, .int .i64 c1, .int .i64 c2, .int .i64 c3] #[.int .i64 s3_0, .int .i64 s3_1, .int .i64 s2_2, .int .i64 s2_3] _ B2 B4 (by omega) (by omega) (by omega) rfl rfl HQ22.out.1 HQ22.out.2.1 HQ22.out.2.2 ?_
  intro d33 d34 d35 d36 d37 d38 d39 d40 d41 d42 d43 d44 d45 w7_22 cx B4'
  have B4 : Blk w7_22 (w.heap.size + 1 + 1) #[.int .i64 s3_0, .int .i64 s3_1, .int .i64 s3_2, .int .i64 s2_3] 30 := by simpa using B4'
  have B2 := B2.calm cx (by simp; omega)
  have xx := Ext.calm_trans xx cx (by simp; omega)
  clear B4' cx
  go_wp2_with fail
  rw [rounds_succ]
  go_upto_region 9 with fail
  refine col_r9 _ _ _ _ _ _ _ _ _ _ _ _ _ _ _ _ _ _ _ _ _ _ _ _ _ _ _ _ _ _ _ _ _ _ _ _ _ _ _ _ _ _ _ _ _ _ _ _ _ _ _ _ _ _ w.heap.size (w.heap.size + 1 + 1) 2 3 s2_3 u2 n2 c3 s3_3 #[.int .i64 g0, .int .i64 g1, .int .i64 g2, .int .i64 g3, .int .i64 g4, .int .i64 g5, .int .i64 e0, .int .i64 e1, .int .i64 e2, .int .i64 n0, .int .i64 n1, .int .i64 n2, .int .i64 a0, .int .i64 a1, .int .i64 a2, .int .i64 a3, .int .i64 b0, .int .i64 b1, .int .i64 b2, .int .i64 b3, .int .i64 c0, .int .i64 c1, .int .i64 c2, .int .i64 c3] #[.int .i64 s3_0, .int .i64 s3_1, .int .i64 s3_2, .int .i64 s2_3] _ B2 B4 (by omega) (by omega) (by omega) rfl rfl HQ23.out.1 HQ23.out.2.1 HQ23.out.2.2 ?_
  intro d33 d34 d35 d36 d37 d38 d39 d40 d41 d42 d43 d44 d45 w7_23 cx B4'
  have B4 : Blk w7_23 (w.heap.size + 1 + 1) #[.int .i64 s3_0, .int .i64 s3_1, .int .i64 s3_2, .int .i64 s3_3] 30 := by simpa using B4'
  have B2 := B2.calm cx (by simp; omega)
  have xx := Ext.calm_trans xx cx (by simp; omega)
  clear B4' cx
  go_wp2_with fail
  rw [rounds_succ]
  go_wp2_with fail
  clear hY
  rw [rounds_succ]
  have kc4 := B4.cell
  have hY := fun u => idx4 (.int .i64 s3_0) (.int .i64 s3_1) (.int .i64 s3_2) (.int .i64 s3_3) u
  go_wp2_with fail
  clear kc4
  refine wp_loop_rounds 5 ?_
  rw [rounds_succ]
  go_wp2_with fail
  refine (HF0.out _).mono ?_
  rintro e w8_0 ⟨rfl, x8⟩
  have xx := xx.trans x8
  have B4 := B4.ext x8
  clear x8
  have cc4 := B4.cell
  have ff4 := B4.frozen
  go_upto_region 16 with fail
  have B4 : Blk (w8_0.setCell ⟨w.heap.size + 1 + 1, 0, none⟩ (.int .i64 C0)) (w.heap.size + 1 + 1) #[.int .i64 C0, .int .i64 s3_1, .int .i64 s3_2, .int .i64 s3_3] 30 := by simpa using B4.set 0 (.int .i64 C0)
  have xx := xx.setCell (p := ⟨w.heap.size + 1 + 1, 0, none⟩) (by simp only; omega) (.int .i64 C0)
  clear cc4 ff4
  generalize w8_0.setCell ⟨w.heap.size + 1 + 1, 0, none⟩ (.int .i64 C0) = w9_0 at *
  go_wp2_with fail
  rw [rounds_succ]
  go_wp2_with fail
  refine (HF1.out _).mono ?_
  rintro e w8_1 ⟨rfl, x8⟩
  have xx := xx.trans x8
  have B4 := B4.ext x8
  clear x8
  have cc4 := B4.cell
  have ff4 := B4.frozen
  go_upto_region 16 with fail
  have B4 : Blk (w8_1.setCell ⟨w.heap.size + 1 + 1, 1, none⟩ (.int .i64 C1)) (w.heap.size + 1 + 1) #[.int .i64 C0, .int .i64 C1, .int .i64 s3_2, .int .i64 s3_3] 30 := by simpa using B4.set 1 (.int .i64 C1)
  have xx := xx.setCell (p := ⟨w.heap.size + 1 + 1, 1, none⟩) (by simp only; omega) (.int .i64 C1)
  clear cc4 ff4
  generalize w8_1.setCell ⟨w.heap.size + 1 + 1, 1, none⟩ (.int .i64 C1) = w9_1 at *
  go_wp2_with fail
  rw [rounds_succ]
  go_wp2_with fail
  refine (HF2.out _).mono ?_
  rintro e w8_2 ⟨rfl, x8⟩
  have xx := xx.trans x8
  have B4 := B4.ext x8
  clear x8
  have cc4 := B4.cell
  have ff4 := B4.frozen
  go_upto_region 16 with fail
  have B4 : Blk (w8_2.setCell ⟨w.heap.size + 1 + 1, 2, none⟩ (.int .i64 C2)) (w.heap.size + 1 + 1) #[.int .i64 C0, .int .i64 C1, .int .i64 C2, .int .i64 s3_3] 30 := by simpa using B4.set 2 (.int .i64 C2)
  have xx := xx.setCell (p := ⟨w.heap.size + 1 + 1, 2, none⟩) (by simp only; omega) (.int .i64 C2)
  clear cc4 ff4
  generalize w8_2.setCell ⟨w.heap.size + 1 + 1, 2, none⟩ (.int .i64 C2) = w9_2 at *
  go_wp2_with fail
  rw [rounds_succ]
  go_wp2_with fail
  refine (HF3.out _).mono ?_
  rintro e w8_3 ⟨rfl, x8⟩
  have xx := xx.trans x8
  have B4 := B4.ext x8
  clear x8
  have cc4 := B4.cell
  have ff4 := B4.frozen
  go_upto_region 16 with fail
  have B4 : Blk (w8_3.setCell ⟨w.heap.size + 1 + 1, 3, none⟩ (.int .i64 C3)) (w.heap.size + 1 + 1) #[.int .i64 C0, .int .i64 C1, .int .i64 C2, .int .i64 C3] 30 := by simpa using B4.set 3 (.int .i64 C3)
  have xx := xx.setCell (p := ⟨w.heap.size + 1 + 1, 3, none⟩) (by simp only; omega) (.int .i64 C3)
  clear cc4 ff4
  generalize w8_3.setCell ⟨w.heap.size + 1 + 1, 3, none⟩ (.int .i64 C3) = w9_3 at *
  go_wp2_with fail
  rw [rounds_succ]
  have Bf := B4.setRow #[.int .i64 C0, .int .i64 C1, .int .i64 C2, .int .i64 C3]
  have Ef := xx.setRow (g := w.heap.size + 1 + 1) (by omega) #[.int .i64 C0, .int .i64 C1, .int .i64 C2, .int .i64 C3]
  go_wp2_with (first
    | ((with_reducible refine wpList_load_blk (op := ⟨some 59, _, _, _, _, _⟩) ?_ 30 (.tmp 4) ?_ (w.heap.size + 1 + 1) ?_ (z := _) (T := 30) B4 Try.underlying30 ?_ ?_ ?_); rfl; rfl; rfl; rfl; kernel_rfl)
    | ((with_reducible refine wpList_store_blk (op := ⟨none, .store 30 (.tmp 4) (.tmp 59), _, _, _, _⟩) ?_ 30 (.tmp 4) (.tmp 59) ?_ (w.heap.size + 1 + 1) ?_ (cs := #[.int .i64 C0, .int .i64 C1, .int .i64 C2, .int .i64 C3]) ?_ (z := #[.int .i64 C0, .int .i64 C1, .int .i64 C2, .int .i64 C3]) (T := 30) ?_ ?_ ?_ ?_ ?_); rfl; rfl; rfl; rfl; exact B4; kernel_rfl; kernel_rfl; kernel_rfl)
    | fail)
  exact bodyPost_ret (v := .agg #[.int .i64 C0, .int .i64 C1, .int .i64 C2, .int .i64 C3]) (results_blk (b := w.heap.size + 1 + 1) (t := 4) (ty := 30) rfl rfl Bf Try.underlying30 rfl (by kernel_rfl)) rfl ⟨rfl, Ef⟩
end Go.Proofs.Ytglehnmkdapnpaa

namespace Go.Proofs.Ytglehnmkdapnpaa
open Go.RowKit
set_option linter.unusedVariables false
set_option maxRecDepth 100000 in
set_option maxHeartbeats 4000000 in
theorem sat_chk2 (g0 g1 g2 g3 g4 g5 e0 e1 e2 n0 n1 n2 a0 a1 a2 a3 b0 b1 b2 b3 c0 c1 c2 c3 x y px py : Int) (hP : ∀ u : World, Calls Try.prog 21 #[.int .i64 x, .int .i64 y] u fun e w' => e = .returned (.agg #[.int .i64 px, .int .i64 py]) ∧ Ext u w') (hK : ∀ u : World, Calls Try.prog 17 #[.agg #[.int .i64 g0, .int .i64 g1, .int .i64 g2, .int .i64 g3, .int .i64 g4, .int .i64 g5, .int .i64 e0, .int .i64 e1, .int .i64 e2, .int .i64 n0, .int .i64 n1, .int .i64 n2, .int .i64 a0, .int .i64 a1, .int .i64 a2, .int .i64 a3, .int .i64 b0, .int .i64 b1, .int .i64 b2, .int .i64 b3, .int .i64 c0, .int .i64 c1, .int .i64 c2, .int .i64 c3]] u fun e w' => e = .returned (.int .i64 2) ∧ Ext u w') (w : World) : Calls Try.prog 19 #[.agg #[.int .i64 g0, .int .i64 g1, .int .i64 g2, .int .i64 g3, .int .i64 g4, .int .i64 g5, .int .i64 e0, .int .i64 e1, .int .i64 e2, .int .i64 n0, .int .i64 n1, .int .i64 n2, .int .i64 a0, .int .i64 a1, .int .i64 a2, .int .i64 a3, .int .i64 b0, .int .i64 b1, .int .i64 b2, .int .i64 b3, .int .i64 c0, .int .i64 c1, .int .i64 c2, .int .i64 c3], .int .i64 x, .int .i64 y] w fun e w' => e = .returned (.tuple #[.int .i64 0, .agg #[.int .i64 0, .int .i64 0, .int .i64 0, .int .i64 0], .bool false]) ∧ Ext w w' := by
  have HP := Lib.hid hP
  have HK := Lib.hid hK
  clear hP hK
  have xx : Ext w ((w.alloc (.cells #[.int .i64 g0, .int .i64 g1, .int .i64 g2, .int .i64 g3, .int .i64 g4, .int .i64 g5, .int .i64 e0, .int .i64 e1, .int .i64 e2, .int .i64 n0, .int .i64 n1, .int .i64 n2, .int .i64 a0, .int .i64 a1, .int .i64 a2, .int .i64 a3, .int .i64 b0, .int .i64 b1, .int .i64 b2, .int .i64 b3, .int .i64 c0, .int .i64 c1, .int .i64 c2, .int .i64 c3] 55)).alloc (.cells #[.int .i64 0, .int .i64 0, .int .i64 0, .int .i64 0] 30)) := ((Ext.refl w).alloc _ _).alloc _ _
  have B3 := (Blk.new w #[.int .i64 g0, .int .i64 g1, .int .i64 g2, .int .i64 g3, .int .i64 g4, .int .i64 g5, .int .i64 e0, .int .i64 e1, .int .i64 e2, .int .i64 n0, .int .i64 n1, .int .i64 n2, .int .i64 a0, .int .i64 a1, .int .i64 a2, .int .i64 a3, .int .i64 b0, .int .i64 b1, .int .i64 b2, .int .i64 b3, .int .i64 c0, .int .i64 c1, .int .i64 c2, .int .i64 c3] 55).alloc (.cells #[.int .i64 0, .int .i64 0, .int .i64 0, .int .i64 0] 30)
  have B7 := Blk.new (w.alloc (.cells #[.int .i64 g0, .int .i64 g1, .int .i64 g2, .int .i64 g3, .int .i64 g4, .int .i64 g5, .int .i64 e0, .int .i64 e1, .int .i64 e2, .int .i64 n0, .int .i64 n1, .int .i64 n2, .int .i64 a0, .int .i64 a1, .int .i64 a2, .int .i64 a3, .int .i64 b0, .int .i64 b1, .int .i64 b2, .int .i64 b3, .int .i64 c0, .int .i64 c1, .int .i64 c2, .int .i64 c3] 55)) #[.int .i64 0, .int .i64 0, .int .i64 0, .int .i64 0] 30
  go_enter Try.func19, Try.ntmps19
  go_upto_region 1 with fail
  simp only [World.size_alloc] at B7
  generalize ((w.alloc (.cells #[.int .i64 g0, .int .i64 g1, .int .i64 g2, .int .i64 g3, .int .i64 g4, .int .i64 g5, .int .i64 e0, .int .i64 e1, .int .i64 e2, .int .i64 n0, .int .i64 n1, .int .i64 n2, .int .i64 a0, .int .i64 a1, .int .i64 a2, .int .i64 a3, .int .i64 b0, .int .i64 b1, .int .i64 b2, .int .i64 b3, .int .i64 c0, .int .i64 c1, .int .i64 c2, .int .i64 c3] 55)).alloc (.cells #[.int .i64 0, .int .i64 0, .int .i64 0, .int .i64 0] 30)) = w1 at *
  go_wp2_with fail
  refine (HP.out _).mono ?_
  rintro e w2 ⟨rfl, x2⟩
  have xx := xx.trans x2
  have B3 := B3.ext x2
  have B7 := B7.ext x2
  clear x2
  have hb9 := B7.lt
  have y9 : Ext w2 ((w2.alloc (.cells #[.int .i64 0, .int .i64 0] 50)).setRow w2.heap.size #[.int .i64 px, .int .i64 py]) := ((Ext.refl _).alloc _ _).setRow (Nat.le_refl _) _
  have B9 := (Blk.new w2 #[.int .i64 0, .int .i64 0] 50).setRow #[.int .i64 px, .int .i64 py]
  go_upto_region 2 with (first
    | ((with_reducible refine wpList_store_blk (op := ⟨none, .store 50 (.tmp 9) (.tmp 13), _, _, _, _⟩) ?_ 50 (.tmp 9) (.tmp 13) ?_ (w2.heap.size) ?_ (cs := #[.int .i64 px, .int .i64 py]) ?_ (z := #[.int .i64 0, .int .i64 0]) (T := 50) ?_ ?_ ?_ ?_ ?_); rfl; rfl; rfl; rfl; exact Blk.new w2 _ _; kernel_rfl; kernel_rfl; kernel_rfl)
    | fail)
  try simp only [Act.put]
  have xx := xx.trans y9
  have B3 := B3.ext y9
  have B7 := B7.ext y9
  clear y9
  generalize (w2.alloc (.cells #[.int .i64 0, .int .i64 0] 50)).setRow w2.heap.size #[.int .i64 px, .int .i64 py] = w3 at *
  generalize w2.heap.size = k9 at *
  go_wp2_with (first
    | ((with_reducible refine wpList_load_blk (op := ⟨some 14, _, _, _, _, _⟩) ?_ 55 (.tmp 3) ?_ (w.heap.size) ?_ (z := _) (T := 55) B3 Try.underlying55 ?_ ?_ ?_); rfl; rfl; rfl; rfl; kernel_rfl)
    | fail)
  refine (HK.out _).mono ?_
  rintro e w4 ⟨rfl, x4⟩
  have xx := xx.trans x4
  have B3 := B3.ext x4
  have B7 := B7.ext x4
  have B9 := B9.ext x4
  clear x4 HP HK
  have Bf := B7.setRow #[.int .i64 0, .int .i64 0, .int .i64 0, .int .i64 0]
  have Ef := xx.setRow (g := w.heap.size + 1) (by omega) #[.int .i64 0, .int .i64 0, .int .i64 0, .int .i64 0]
  go_wp2_with (first
    | ((with_reducible refine wpList_build13 (o := ⟨some 24, _, _, _, _, _⟩) ?_ 30 #[] ?_ #[.int .i64 0, .int .i64 0, .int .i64 0, .int .i64 0] ?_ ?_); rfl; rfl; kernel_rfl)
    | ((with_reducible refine wpList_store_blk (op := ⟨none, .store 30 (.tmp 7) (.tmp 24), _, _, _, _⟩) ?_ 30 (.tmp 7) (.tmp 24) ?_ (w.heap.size + 1) ?_ (cs := #[.int .i64 0, .int .i64 0, .int .i64 0, .int .i64 0]) ?_ (z := #[.int .i64 0, .int .i64 0, .int .i64 0, .int .i64 0]) (T := 30) ?_ ?_ ?_ ?_ ?_); rfl; rfl; rfl; rfl; exact B7; kernel_rfl; kernel_rfl; kernel_rfl)
    | fail)
  exact bodyPost_ret (v := .tuple #[.int .i64 0, .agg #[.int .i64 0, .int .i64 0, .int .i64 0, .int .i64 0], .bool false]) (results_blk3 (b := w.heap.size + 1) (r := 6) (t := 7) (s := 8) (ty := 30) rfl rfl Bf Try.underlying30 rfl (by kernel_rfl) rfl rfl) rfl ⟨rfl, Ef⟩
set_option maxRecDepth 100000 in
set_option maxHeartbeats 4000000 in
theorem sat_chk4 (g0 g1 g2 g3 g4 g5 e0 e1 e2 n0 n1 n2 a0 a1 a2 a3 b0 b1 b2 b3 c0 c1 c2 c3 x y px py : Int) (hP : ∀ u : World, Calls Try.prog 21 #[.int .i64 x, .int .i64 y] u fun e w' => e = .returned (.agg #[.int .i64 px, .int .i64 py]) ∧ Ext u w') (hK : ∀ u : World, Calls Try.prog 17 #[.agg #[.int .i64 g0, .int .i64 g1, .int .i64 g2, .int .i64 g3, .int .i64 g4, .int .i64 g5, .int .i64 e0, .int .i64 e1, .int .i64 e2, .int .i64 n0, .int .i64 n1, .int .i64 n2, .int .i64 a0, .int .i64 a1, .int .i64 a2, .int .i64 a3, .int .i64 b0, .int .i64 b1, .int .i64 b2, .int .i64 b3, .int .i64 c0, .int .i64 c1, .int .i64 c2, .int .i64 c3]] u fun e w' => e = .returned (.int .i64 4) ∧ Ext u w') (w : World) : Calls Try.prog 19 #[.agg #[.int .i64 g0, .int .i64 g1, .int .i64 g2, .int .i64 g3, .int .i64 g4, .int .i64 g5, .int .i64 e0, .int .i64 e1, .int .i64 e2, .int .i64 n0, .int .i64 n1, .int .i64 n2, .int .i64 a0, .int .i64 a1, .int .i64 a2, .int .i64 a3, .int .i64 b0, .int .i64 b1, .int .i64 b2, .int .i64 b3, .int .i64 c0, .int .i64 c1, .int .i64 c2, .int .i64 c3], .int .i64 x, .int .i64 y] w fun e w' => e = .returned (.tuple #[.int .i64 0, .agg #[.int .i64 0, .int .i64 0, .int .i64 0, .int .i64 0], .bool false]) ∧ Ext w w' := by
  have HP := Lib.hid hP
  have HK := Lib.hid hK
  clear hP hK
  have xx : Ext w ((w.alloc (.cells #[.int .i64 g0, .int .i64 g1, .int .i64 g2, .int .i64 g3, .int .i64 g4, .int .i64 g5, .int .i64 e0, .int .i64 e1, .int .i64 e2, .int .i64 n0, .int .i64 n1, .int .i64 n2, .int .i64 a0, .int .i64 a1, .int .i64 a2, .int .i64 a3, .int .i64 b0, .int .i64 b1, .int .i64 b2, .int .i64 b3, .int .i64 c0, .int .i64 c1, .int .i64 c2, .int .i64 c3] 55)).alloc (.cells #[.int .i64 0, .int .i64 0, .int .i64 0, .int .i64 0] 30)) := ((Ext.refl w).alloc _ _).alloc _ _
  have B3 := (Blk.new w #[.int .i64 g0, .int .i64 g1, .int .i64 g2, .int .i64 g3, .int .i64 g4, .int .i64 g5, .int .i64 e0, .int .i64 e1, .int .i64 e2, .int .i64 n0, .int .i64 n1, .int .i64 n2, .int .i64 a0, .int .i64 a1, .int .i64 a2, .int .i64 a3, .int .i64 b0, .int .i64 b1, .int .i64 b2, .int .i64 b3, .int .i64 c0, .int .i64 c1, .int .i64 c2, .int .i64 c3] 55).alloc (.cells #[.int .i64 0, .int .i64 0, .int .i64 0, .int .i64 0] 30)
  have B7 := Blk.new (w.alloc (.cells #[.int .i64 g0, .int .i64 g1, .int .i64 g2, .int .i64 g3, .int .i64 g4, .int .i64 g5, .int .i64 e0, .int .i64 e1, .int .i64 e2, .int .i64 n0, .int .i64 n1, .int .i64 n2, .int .i64 a0, .int .i64 a1, .int .i64 a2, .int .i64 a3, .int .i64 b0, .int .i64 b1, .int .i64 b2, .int .i64 b3, .int .i64 c0, .int .i64 c1, .int .i64 c2, .int .i64 c3] 55)) #[.int .i64 0, .int .i64 0, .int .i64 0, .int .i64 0] 30
  go_enter Try.func19, Try.ntmps19
  go_upto_region 1 with fail
  simp only [World.size_alloc] at B7
  generalize ((w.alloc (.cells #[.int .i64 g0, .int .i64 g1, .int .i64 g2, .int .i64 g3, .int .i64 g4, .int .i64 g5, .int .i64 e0, .int .i64 e1, .int .i64 e2, .int .i64 n0, .int .i64 n1, .int .i64 n2, .int .i64 a0, .int .i64 a1, .int .i64 a2, .int .i64 a3, .int .i64 b0, .int .i64 b1, .int .i64 b2, .int .i64 b3, .int .i64 c0, .int .i64 c1, .int .i64 c2, .int .i64 c3] 55)).alloc (.cells #[.int .i64 0, .int .i64 0, .int .i64 0, .int .i64 0] 30)) = w1 at *
  go_wp2_with fail
  refine (HP.out _).mono ?_
  rintro e w2 ⟨rfl, x2⟩
  have xx := xx.trans x2
  have B3 := B3.ext x2
  have B7 := B7.ext x2
  clear x2
  have hb9 := B7.lt
  have y9 : Ext w2 ((w2.alloc (.cells #[.int .i64 0, .int .i64 0] 50)).setRow w2.heap.size #[.int .i64 px, .int .i64 py]) := ((Ext.refl _).alloc _ _).setRow (Nat.le_refl _) _
  have B9 := (Blk.new w2 #[.int .i64 0, .int .i64 0] 50).setRow #[.int .i64 px, .int .i64 py]
  go_upto_region 2 with (first
    | ((with_reducible refine wpList_store_blk (op := ⟨none, .store 50 (.tmp 9) (.tmp 13), _, _, _, _⟩) ?_ 50 (.tmp 9) (.tmp 13) ?_ (w2.heap.size) ?_ (cs := #[.int .i64 px, .int .i64 py]) ?_ (z := #[.int .i64 0, .int .i64 0]) (T := 50) ?_ ?_ ?_ ?_ ?_); rfl; rfl; rfl; rfl; exact Blk.new w2 _ _; kernel_rfl; kernel_rfl; kernel_rfl)
    | fail)
  try simp only [Act.put]
  have xx := xx.trans y9
  have B3 := B3.ext y9
  have B7 := B7.ext y9
  clear y9
  generalize (w2.alloc (.cells #[.int .i64 0, .int .i64 0] 50)).setRow w2.heap.size #[.int .i64 px, .int .i64 py] = w3 at *
  generalize w2.heap.size = k9 at *
  go_wp2_with (first
    | ((with_reducible refine wpList_load_blk (op := ⟨some 14, _, _, _, _, _⟩) ?_ 55 (.tmp 3) ?_ (w.heap.size) ?_ (z := _) (T := 55) B3 Try.underlying55 ?_ ?_ ?_); rfl; rfl; rfl; rfl; kernel_rfl)
    | fail)
  refine (HK.out _).mono ?_
  rintro e w4 ⟨rfl, x4⟩
  have xx := xx.trans x4
  have B3 := B3.ext x4
  have B7 := B7.ext x4
  have B9 := B9.ext x4
  clear x4 HP HK
  have Bf := B7.setRow #[.int .i64 0, .int .i64 0, .int .i64 0, .int .i64 0]
  have Ef := xx.setRow (g := w.heap.size + 1) (by omega) #[.int .i64 0, .int .i64 0, .int .i64 0, .int .i64 0]
  go_wp2_with (first
    | ((with_reducible refine wpList_build13 (o := ⟨some 24, _, _, _, _, _⟩) ?_ 30 #[] ?_ #[.int .i64 0, .int .i64 0, .int .i64 0, .int .i64 0] ?_ ?_); rfl; rfl; kernel_rfl)
    | ((with_reducible refine wpList_store_blk (op := ⟨none, .store 30 (.tmp 7) (.tmp 24), _, _, _, _⟩) ?_ 30 (.tmp 7) (.tmp 24) ?_ (w.heap.size + 1) ?_ (cs := #[.int .i64 0, .int .i64 0, .int .i64 0, .int .i64 0]) ?_ (z := #[.int .i64 0, .int .i64 0, .int .i64 0, .int .i64 0]) (T := 30) ?_ ?_ ?_ ?_ ?_); rfl; rfl; rfl; rfl; exact B7; kernel_rfl; kernel_rfl; kernel_rfl)
    | fail)
  exact bodyPost_ret (v := .tuple #[.int .i64 0, .agg #[.int .i64 0, .int .i64 0, .int .i64 0, .int .i64 0], .bool false]) (results_blk3 (b := w.heap.size + 1) (r := 6) (t := 7) (s := 8) (ty := 30) rfl rfl Bf Try.underlying30 rfl (by kernel_rfl) rfl rfl) rfl ⟨rfl, Ef⟩
set_option maxRecDepth 100000 in
set_option maxHeartbeats 4000000 in
theorem sat_cov (g0 g1 g2 g3 g4 g5 e0 e1 e2 n0 n1 n2 a0 a1 a2 a3 b0 b1 b2 b3 c0 c1 c2 c3 x y px py : Int) (hP : ∀ u : World, Calls Try.prog 21 #[.int .i64 x, .int .i64 y] u fun e w' => e = .returned (.agg #[.int .i64 px, .int .i64 py]) ∧ Ext u w') (hK : ∀ u : World, Calls Try.prog 17 #[.agg #[.int .i64 g0, .int .i64 g1, .int .i64 g2, .int .i64 g3, .int .i64 g4, .int .i64 g5, .int .i64 e0, .int .i64 e1, .int .i64 e2, .int .i64 n0, .int .i64 n1, .int .i64 n2, .int .i64 a0, .int .i64 a1, .int .i64 a2, .int .i64 a3, .int .i64 b0, .int .i64 b1, .int .i64 b2, .int .i64 b3, .int .i64 c0, .int .i64 c1, .int .i64 c2, .int .i64 c3]] u fun e w' => e = .returned (.int .i64 0) ∧ Ext u w') (hV : ∀ u : World, Calls Try.prog 23 #[.agg #[.int .i64 g0, .int .i64 g1, .int .i64 g2, .int .i64 g3, .int .i64 g4, .int .i64 g5], .agg #[.int .i64 px, .int .i64 py]] u fun e w' => e = .returned (.bool false) ∧ Ext u w') (w : World) : Calls Try.prog 19 #[.agg #[.int .i64 g0, .int .i64 g1, .int .i64 g2, .int .i64 g3, .int .i64 g4, .int .i64 g5, .int .i64 e0, .int .i64 e1, .int .i64 e2, .int .i64 n0, .int .i64 n1, .int .i64 n2, .int .i64 a0, .int .i64 a1, .int .i64 a2, .int .i64 a3, .int .i64 b0, .int .i64 b1, .int .i64 b2, .int .i64 b3, .int .i64 c0, .int .i64 c1, .int .i64 c2, .int .i64 c3], .int .i64 x, .int .i64 y] w fun e w' => e = .returned (.tuple #[.int .i64 0, .agg #[.int .i64 0, .int .i64 0, .int .i64 0, .int .i64 0], .bool false]) ∧ Ext w w' := by
  have HP := Lib.hid hP
  have HK := Lib.hid hK
  have HV := Lib.hid hV
  clear hP hK hV
  have xx : Ext w ((w.alloc (.cells #[.int .i64 g0, .int .i64 g1, .int .i64 g2, .int .i64 g3, .int .i64 g4, .int .i64 g5, .int .i64 e0, .int .i64 e1, .int .i64 e2, .int .i64 n0, .int .i64 n1, .int .i64 n2, .int .i64 a0, .int .i64 a1, .int .i64 a2, .int .i64 a3, .int .i64 b0, .int .i64 b1, .int .i64 b2, .int .i64 b3, .int .i64 c0, .int .i64 c1, .int .i64 c2, .int .i64 c3] 55)).alloc (.cells #[.int .i64 0, .int .i64 0, .int .i64 0, .int .i64 0] 30)) := ((Ext.refl w).alloc _ _).alloc _ _
  have B3 := (Blk.new w #[.int .i64 g0, .int .i64 g1, .int .i64 g2, .int .i64 g3, .int .i64 g4, .int .i64 g5, .int .i64 e0, .int .i64 e1, .int .i64 e2, .int .i64 n0, .int .i64 n1, .int .i64 n2, .int .i64 a0, .int .i64 a1, .int .i64 a2, .int .i64 a3, .int .i64 b0, .int .i64 b1, .int .i64 b2, .int .i64 b3, .int .i64 c0, .int .i64 c1, .int .i64 c2, .int .i64 c3] 55).alloc (.cells #[.int .i64 0, .int .i64 0, .int .i64 0, .int .i64 0] 30)
  have B7 := Blk.new (w.alloc (.cells #[.int .i64 g0, .int .i64 g1, .int .i64 g2, .int .i64 g3, .int .i64 g4, .int .i64 g5, .int .i64 e0, .int .i64 e1, .int .i64 e2, .int .i64 n0, .int .i64 n1, .int .i64 n2, .int .i64 a0, .int .i64 a1, .int .i64 a2, .int .i64 a3, .int .i64 b0, .int .i64 b1, .int .i64 b2, .int .i64 b3, .int .i64 c0, .int .i64 c1, .int .i64 c2, .int .i64 c3] 55)) #[.int .i64 0, .int .i64 0, .int .i64 0, .int .i64 0] 30
  go_enter Try.func19, Try.ntmps19
  go_upto_region 1 with fail
  simp only [World.size_alloc] at B7
  generalize ((w.alloc (.cells #[.int .i64 g0, .int .i64 g1, .int .i64 g2, .int .i64 g3, .int .i64 g4, .int .i64 g5, .int .i64 e0, .int .i64 e1, .int .i64 e2, .int .i64 n0, .int .i64 n1, .int .i64 n2, .int .i64 a0, .int .i64 a1, .int .i64 a2, .int .i64 a3, .int .i64 b0, .int .i64 b1, .int .i64 b2, .int .i64 b3, .int .i64 c0, .int .i64 c1, .int .i64 c2, .int .i64 c3] 55)).alloc (.cells #[.int .i64 0, .int .i64 0, .int .i64 0, .int .i64 0] 30)) = w1 at *
  go_wp2_with fail
  refine (HP.out _).mono ?_
  rintro e w2 ⟨rfl, x2⟩
  have xx := xx.trans x2
  have B3 := B3.ext x2
  have B7 := B7.ext x2
  clear x2
  have hb9 := B7.lt
  have y9 : Ext w2 ((w2.alloc (.cells #[.int .i64 0, .int .i64 0] 50)).setRow w2.heap.size #[.int .i64 px, .int .i64 py]) := ((Ext.refl _).alloc _ _).setRow (Nat.le_refl _) _
  have B9 := (Blk.new w2 #[.int .i64 0, .int .i64 0] 50).setRow #[.int .i64 px, .int .i64 py]
  go_upto_region 2 with (first
    | ((with_reducible refine wpList_store_blk (op := ⟨none, .store 50 (.tmp 9) (.tmp 13), _, _, _, _⟩) ?_ 50 (.tmp 9) (.tmp 13) ?_ (w2.heap.size) ?_ (cs := #[.int .i64 px, .int .i64 py]) ?_ (z := #[.int .i64 0, .int .i64 0]) (T := 50) ?_ ?_ ?_ ?_ ?_); rfl; rfl; rfl; rfl; exact Blk.new w2 _ _; kernel_rfl; kernel_rfl; kernel_rfl)
    | fail)
  try simp only [Act.put]
  have xx := xx.trans y9
  have B3 := B3.ext y9
  have B7 := B7.ext y9
  clear y9
  generalize (w2.alloc (.cells #[.int .i64 0, .int .i64 0] 50)).setRow w2.heap.size #[.int .i64 px, .int .i64 py] = w3 at *
  generalize w2.heap.size = k9 at *
  go_wp2_with (first
    | ((with_reducible refine wpList_load_blk (op := ⟨some 14, _, _, _, _, _⟩) ?_ 55 (.tmp 3) ?_ (w.heap.size) ?_ (z := _) (T := 55) B3 Try.underlying55 ?_ ?_ ?_); rfl; rfl; rfl; rfl; kernel_rfl)
    | fail)
  refine (HK.out _).mono ?_
  rintro e w4 ⟨rfl, x4⟩
  have xx := xx.trans x4
  have B3 := B3.ext x4
  have B7 := B7.ext x4
  have B9 := B9.ext x4
  clear x4 HP HK
  have kc3 := B3.cell
  have kc9 := B9.cell
  go_wp2_with fail
  refine (HV.out _).mono ?_
  rintro e w5 ⟨rfl, x5⟩
  have xx := xx.trans x5
  have B3 := B3.ext x5
  have B7 := B7.ext x5
  have B9 := B9.ext x5
  clear x5
  clear kc3 kc9 HV
  have Bf := B7.setRow #[.int .i64 0, .int .i64 0, .int .i64 0, .int .i64 0]
  have Ef := xx.setRow (g := w.heap.size + 1) (by omega) #[.int .i64 0, .int .i64 0, .int .i64 0, .int .i64 0]
  go_wp2_with (first
    | ((with_reducible refine wpList_build13 (o := ⟨some 24, _, _, _, _, _⟩) ?_ 30 #[] ?_ #[.int .i64 0, .int .i64 0, .int .i64 0, .int .i64 0] ?_ ?_); rfl; rfl; kernel_rfl)
    | ((with_reducible refine wpList_store_blk (op := ⟨none, .store 30 (.tmp 7) (.tmp 24), _, _, _, _⟩) ?_ 30 (.tmp 7) (.tmp 24) ?_ (w.heap.size + 1) ?_ (cs := #[.int .i64 0, .int .i64 0, .int .i64 0, .int .i64 0]) ?_ (z := #[.int .i64 0, .int .i64 0, .int .i64 0, .int .i64 0]) (T := 30) ?_ ?_ ?_ ?_ ?_); rfl; rfl; rfl; rfl; exact B7; kernel_rfl; kernel_rfl; kernel_rfl)
    | fail)
  exact bodyPost_ret (v := .tuple #[.int .i64 0, .agg #[.int .i64 0, .int .i64 0, .int .i64 0, .int .i64 0], .bool false]) (results_blk3 (b := w.heap.size + 1) (r := 6) (t := 7) (s := 8) (ty := 30) rfl rfl Bf Try.underlying30 rfl (by kernel_rfl) rfl rfl) rfl ⟨rfl, Ef⟩
set_option maxRecDepth 100000 in
set_option maxHeartbeats 4000000 in
theorem sat_yes (g0 g1 g2 g3 g4 g5 e0 e1 e2 n0 n1 n2 a0 a1 a2 a3 b0 b1 b2 b3 c0 c1 c2 c3 x y px py u0 u1 u2 dd C0 C1 C2 C3 : Int) (hP : ∀ u : World, Calls Try.prog 21 #[.int .i64 x, .int .i64 y] u fun e w' => e = .returned (.agg #[.int .i64 px, .int .i64 py]) ∧ Ext u w') (hK : ∀ u : World, Calls Try.prog 17 #[.agg #[.int .i64 g0, .int .i64 g1, .int .i64 g2, .int .i64 g3, .int .i64 g4, .int .i64 g5, .int .i64 e0, .int .i64 e1, .int .i64 e2, .int .i64 n0, .int .i64 n1, .int .i64 n2, .int .i64 a0, .int .i64 a1, .int .i64 a2, .int .i64 a3, .int .i64 b0, .int .i64 b1, .int .i64 b2, .int .i64 b3, .int .i64 c0, .int .i64 c1, .int .i64 c2, .int .i64 c3]] u fun e w' => e = .returned (.int .i64 0) ∧ Ext u w') (hV : ∀ u : World, Calls Try.prog 23 #[.agg #[.int .i64 g0, .int .i64 g1, .int .i64 g2, .int .i64 g3, .int .i64 g4, .int .i64 g5], .agg #[.int .i64 px, .int .i64 py]] u fun e w' => e = .returned (.bool true) ∧ Ext u w') (hW : ∀ u : World, Calls Try.prog 40 #[.agg #[.int .i64 g0, .int .i64 g1, .int .i64 g2, .int .i64 g3, .int .i64 g4, .int .i64 g5], .agg #[.int .i64 px, .int .i64 py]] u fun e w' => e = .returned (.agg #[.int .i64 u0, .int .i64 u1, .int .i64 u2]) ∧ Ext u w')
    (hD : ∀ u : World, Calls Try.prog 41 #[.agg #[.int .i64 g0, .int .i64 g1, .int .i64 g2, .int .i64 g3, .int .i64 g4, .int .i64 g5, .int .i64 e0, .int .i64 e1, .int .i64 e2, .int .i64 n0, .int .i64 n1, .int .i64 n2, .int .i64 a0, .int .i64 a1, .int .i64 a2, .int .i64 a3, .int .i64 b0, .int .i64 b1, .int .i64 b2, .int .i64 b3, .int .i64 c0, .int .i64 c1, .int .i64 c2, .int .i64 c3], .agg #[.int .i64 u0, .int .i64 u1, .int .i64 u2]] u fun e w' => e = .returned (.int .i64 dd) ∧ Ext u w') (hC : ∀ u : World, Calls Try.prog 42 #[.agg #[.int .i64 g0, .int .i64 g1, .int .i64 g2, .int .i64 g3, .int .i64 g4, .int .i64 g5, .int .i64 e0, .int .i64 e1, .int .i64 e2, .int .i64 n0, .int .i64 n1, .int .i64 n2, .int .i64 a0, .int .i64 a1, .int .i64 a2, .int .i64 a3, .int .i64 b0, .int .i64 b1, .int .i64 b2, .int .i64 b3, .int .i64 c0, .int .i64 c1, .int .i64 c2, .int .i64 c3], .agg #[.int .i64 u0, .int .i64 u1, .int .i64 u2]] u fun e w' => e = .returned (.agg #[.int .i64 C0, .int .i64 C1, .int .i64 C2, .int .i64 C3]) ∧ Ext u w') (w : World) : Calls Try.prog 19 #[.agg #[.int .i64 g0, .int .i64 g1, .int .i64 g2, .int .i64 g3, .int .i64 g4, .int .i64 g5, .int .i64 e0, .int .i64 e1, .int .i64 e2, .int .i64 n0, .int .i64 n1, .int .i64 n2, .int .i64 a0, .int .i64 a1, .int .i64 a2, .int .i64 a3, .int .i64 b0, .int .i64 b1, .int .i64 b2, .int .i64 b3, .int .i64 c0, .int .i64 c1, .int .i64 c2, .int .i64 c3], .int .i64 x, .int .i64 y] w fun e w' => e = .returned (.tuple #[.int .i64 dd, .agg #[.int .i64 C0, .int .i64 C1, .int .i64 C2, .int .i64 C3], .bool true]) ∧ Ext w w' := by
  have HP := Lib.hid hP
  have HK := Lib.hid hK
  have HV := Lib.hid hV
  have HW := Lib.hid hW
  have HD := Lib.hid hD
  have HC := Lib.hid hC
  clear hP hK hV hW hD hC
  have xx : Ext w ((w.alloc (.cells #[.int .i64 g0, .int .i64 g1, .int .i64 g2, .int .i64 g3, .int .i64 g4, .int .i64 g5, .int .i64 e0, .int .i64 e1, .int .i64 e2, .int .i64 n0, .int .i64 n1, .int .i64 n2, .int .i64 a0, .int .i64 a1, .int .i64 a2, .int .i64 a3, .int .i64 b0, .int .i64 b1, .int .i64 b2, .int .i64 b3, .int .i64 c0, .int .i64 c1, .int .i64 c2, .int .i64 c3] 55)).alloc (.cells #[.int .i64 0, .int .i64 0, .int .i64 0, .int .i64 0] 30)) := ((Ext.refl w).alloc _ _).alloc _ _
  have B3 := (Blk.new w #[.int .i64 g0, .int .i64 g1, .int .i64 g2, .int .i64 g3, .int .i64 g4, .int .i64 g5, .int .i64 e0, .int .i64 e1, .int .i64 e2, .int .i64 n0, .int .i64 n1, .int .i64 n2, .int .i64 a0, .int .i64 a1, .int .i64 a2, .int .i64 a3, .int .i64 b0, .int .i64 b1, .int .i64 b2, .int .i64 b3, .int .i64 c0, .int .i64 c1, .int .i64 c2, .int .i64 c3] 55).alloc (.cells #[.int .i64 0, .int .i64 0, .int .i64 0, .int .i64 0] 30)
  have B7 := Blk.new (w.alloc (.cells #[.int .i64 g0, .int .i64 g1, .int .i64 g2, .int .i64 g3, .int .i64 g4, .int .i64 g5, .int .i64 e0, .int .i64 e1, .int .i64 e2, .int .i64 n0, .int .i64 n1, .int .i64 n2, .int .i64 a0, .int .i64 a1, .int .i64 a2, .int .i64 a3, .int .i64 b0, .int .i64 b1, .int .i64 b2, .int .i64 b3, .int .i64 c0, .int .i64 c1, .int .i64 c2, .int .i64 c3] 55)) #[.int .i64 0, .int .i64 0, .int .i64 0, .int .i64 0] 30
  go_enter Try.func19, Try.ntmps19
  go_upto_region 1 with fail
  simp only [World.size_alloc] at B7
  generalize ((w.alloc (.cells #[.int .i64 g0, .int .i64 g1, .int .i64 g2, .int .i64 g3, .int .i64 g4, .int .i64 g5, .int .i64 e0, .int .i64 e1, .int .i64 e2, .int .i64 n0, .int .i64 n1, .int .i64 n2, .int .i64 a0, .int .i64 a1, .int .i64 a2, .int .i64 a3, .int .i64 b0, .int .i64 b1, .int .i64 b2, .int .i64 b3, .int .i64 c0, .int .i64 c1, .int .i64 c2, .int .i64 c3] 55)).alloc (.cells #[.int .i64 0, .int .i64 0, .int .i64 0, .int .i64 0] 30)) = w1 at *
  go_wp2_with fail
  refine (HP.out _).mono ?_
  rintro e w2 ⟨rfl, x2⟩
  have xx := xx.trans x2
  have B3 := B3.ext x2
  have B7 := B7.ext x2
  clear x2
  have hb9 := B7.lt
  have y9 : Ext w2 ((w2.alloc (.cells #[.int .i64 0, .int .i64 0] 50)).setRow w2.heap.size #[.int .i64 px, .int .i64 py]) := ((Ext.refl _).alloc _ _).setRow (Nat.le_refl _) _
  have B9 := (Blk.new w2 #[.int .i64 0, .int .i64 0] 50).setRow #[.int .i64 px, .int .i64 py]
  go_upto_region 2 with (first
    | ((with_reducible refine wpList_store_blk (op := ⟨none, .store 50 (.tmp 9) (.tmp 13), _, _, _, _⟩) ?_ 50 (.tmp 9) (.tmp 13) ?_ (w2.heap.size) ?_ (cs := #[.int .i64 px, .int .i64 py]) ?_ (z := #[.int .i64 0, .int .i64 0]) (T := 50) ?_ ?_ ?_ ?_ ?_); rfl; rfl; rfl; rfl; exact Blk.new w2 _ _; kernel_rfl; kernel_rfl; kernel_rfl)
    | fail)
  try simp only [Act.put]
  have xx := xx.trans y9
  have B3 := B3.ext y9
  have B7 := B7.ext y9
  clear y9
  generalize (w2.alloc (.cells #[.int .i64 0, .int .i64 0] 50)).setRow w2.heap.size #[.int .i64 px, .int .i64 py] = w3 at *
  generalize w2.heap.size = k9 at *
  go_wp2_with (first
    | ((with_reducible refine wpList_load_blk (op := ⟨some 14, _, _, _, _, _⟩) ?_ 55 (.tmp 3) ?_ (w.heap.size) ?_ (z := _) (T := 55) B3 Try.underlying55 ?_ ?_ ?_); rfl; rfl; rfl; rfl; kernel_rfl)
    | fail)
  refine (HK.out _).mono ?_
  rintro e w4 ⟨rfl, x4⟩
  have xx := xx.trans x4
  have B3 := B3.ext x4
  have B7 := B7.ext x4
  have B9 := B9.ext x4
  clear x4 HP HK
  have kc3 := B3.cell
  have kc9 := B9.cell
  go_wp2_with fail
  refine (HV.out _).mono ?_
  rintro e w5 ⟨rfl, x5⟩
  have xx := xx.trans x5
  have B3 := B3.ext x5
  have B7 := B7.ext x5
  have B9 := B9.ext x5
  clear x5
  clear kc3 kc9 HV
  have R := Lib.hid (B3.mid13 0 [.int .i64 g0, .int .i64 g1, .int .i64 g2, .int .i64 g3, .int .i64 g4, .int .i64 g5] rfl)
  go_wp2_with (first
    | ((with_reducible refine wpList_load_mid (op := ⟨some 26, _, _, _, _, _⟩) ?_ 52 (.tmp 25) ?_ w.heap.size 0 ?_ [.int .i64 g0, .int .i64 g1, .int .i64 g2, .int .i64 g3, .int .i64 g4, .int .i64 g5] _ R.out Try.underlying52 ?_ ?_ ?_); rfl; rfl; rfl; rfl; kernel_rfl)
    | ((with_reducible refine wpList_load_blk (op := ⟨some 27, _, _, _, _, _⟩) ?_ 50 (.tmp 9) ?_ (k9) ?_ (z := _) (T := 50) B9 Try.underlying50 ?_ ?_ ?_); rfl; rfl; rfl; rfl; kernel_rfl)
    | fail)
  refine (HW.out _).mono ?_
  rintro e w6 ⟨rfl, x6⟩
  have xx := xx.trans x6
  have B3 := B3.ext x6
  have B7 := B7.ext x6
  have B9 := B9.ext x6
  clear x6
  clear R HW
  have y10 : Ext w6 ((w6.alloc (.cells #[.int .i64 0, .int .i64 0, .int .i64 0] 39)).setRow w6.heap.size #[.int .i64 u0, .int .i64 u1, .int .i64 u2]) := ((Ext.refl _).alloc _ _).setRow (Nat.le_refl _) _
  have B10 := (Blk.new w6 #[.int .i64 0, .int .i64 0, .int .i64 0] 39).setRow #[.int .i64 u0, .int .i64 u1, .int .i64 u2]
  have hb10 := B7.lt
  go_upto_region 5 with (first
    | ((with_reducible refine wpList_store_blk (op := ⟨none, .store 39 (.tmp 10) (.tmp 28), _, _, _, _⟩) ?_ 39 (.tmp 10) (.tmp 28) ?_ (w6.heap.size) ?_ (cs := #[.int .i64 u0, .int .i64 u1, .int .i64 u2]) ?_ (z := #[.int .i64 0, .int .i64 0, .int .i64 0]) (T := 39) ?_ ?_ ?_ ?_ ?_); rfl; rfl; rfl; rfl; exact Blk.new w6 _ _; kernel_rfl; kernel_rfl; kernel_rfl)
    | fail)
  try simp only [Act.put]
  have xx := xx.trans y10
  have B3 := B3.ext y10
  have B7 := B7.ext y10
  clear y10
  generalize (w6.alloc (.cells #[.int .i64 0, .int .i64 0, .int .i64 0] 39)).setRow w6.heap.size #[.int .i64 u0, .int .i64 u1, .int .i64 u2] = w7 at *
  generalize w6.heap.size = k10 at *
  apply wp_region_vars [false, false, false, false, false, false, false, true, false] [w.heap.size + 1] [⟨none, 0, w.heap.size + 1, some 7, 30, #[.int .i64 0, .int .i64 0, .int .i64 0, .int .i64 0], #[.int .i64 C0, .int .i64 C1, .int .i64 C2, .int .i64 C3]⟩] _ (by kernel_rfl) (by kernel_rfl) (by kernel_rfl)
  case H =>
    intro x0 hx
    have hne : Nonempty (Wx x0) := ⟨⟨x0, Ext.refl x0⟩⟩
    have kB3 := fun (y : Wx x0) => (B3.calm hx (by simp <;> omega)).ext y.ext
    have qB3 := fun (y : Wx x0) => ((B3.calm hx (by simp <;> omega)).ext y.ext).cell
    have kB10 := fun (y : Wx x0) => (B10.calm hx (by simp <;> omega)).ext y.ext
    have qB10 := fun (y : Wx x0) => ((B10.calm hx (by simp <;> omega)).ext y.ext).cell
    simp only [eraseM]
    repeat (first
      | (go_big_quiet_want; (with_reducible refine quiet_load_blk (op := ⟨some 29, _, _, _, _, _⟩) 55 (.tmp 3) ?_ w.heap.size ?_ (z := #[.int .i64 g0, .int .i64 g1, .int .i64 g2, .int .i64 g3, .int .i64 g4, .int .i64 g5, .int .i64 e0, .int .i64 e1, .int .i64 e2, .int .i64 n0, .int .i64 n1, .int .i64 n2, .int .i64 a0, .int .i64 a1, .int .i64 a2, .int .i64 a3, .int .i64 b0, .int .i64 b1, .int .i64 b2, .int .i64 b3, .int .i64 c0, .int .i64 c1, .int .i64 c2, .int .i64 c3]) (T := 55) ?_ Try.underlying55 ?_ ?_ ?_); rfl; rfl; exact (fun u hu => by obtain ⟨y, rfl⟩ := hu; exact kB3 y); rfl; kernel_rfl; simp only [Act.put, List.setIfInBounds_toArray, List.set_cons_succ, List.set_cons_zero]; go_big_quiet_on)
      | (go_big_quiet_want; (with_reducible refine quiet_load_blk (op := ⟨some 32, _, _, _, _, _⟩) 55 (.tmp 3) ?_ w.heap.size ?_ (z := #[.int .i64 g0, .int .i64 g1, .int .i64 g2, .int .i64 g3, .int .i64 g4, .int .i64 g5, .int .i64 e0, .int .i64 e1, .int .i64 e2, .int .i64 n0, .int .i64 n1, .int .i64 n2, .int .i64 a0, .int .i64 a1, .int .i64 a2, .int .i64 a3, .int .i64 b0, .int .i64 b1, .int .i64 b2, .int .i64 b3, .int .i64 c0, .int .i64 c1, .int .i64 c2, .int .i64 c3]) (T := 55) ?_ Try.underlying55 ?_ ?_ ?_); rfl; rfl; exact (fun u hu => by obtain ⟨y, rfl⟩ := hu; exact kB3 y); rfl; kernel_rfl; simp only [Act.put, List.setIfInBounds_toArray, List.set_cons_succ, List.set_cons_zero]; go_big_quiet_on)
      | go_big_quiet_step (first | (go_at_call 41; with_reducible exact calm_of (HD.out _)) | (go_at_call 42; with_reducible exact calm_of (HC.out _))))
    exact wpQuiet_nil rfl
  case hok =>
    simp only [List.forall_mem_cons, List.not_mem_nil, false_implies, implies_true, and_true]
    exact tgt_mine (v := .agg #[.int .i64 C0, .int .i64 C1, .int .i64 C2, .int .i64 C3]) (off := 0) (by simp) B7 rfl rfl rfl rfl rfl rfl (by kernel_rfl) (by kernel_rfl) (of_decide_eq_true (by kernel_rfl)) rfl
  case hdis =>
    intro k k' t t' hk hk' hkk ha ha'
    exfalso
    have h1 : k < 1 := (List.getElem?_eq_some_iff.1 hk).1
    have h2 : k' < 1 := (List.getElem?_eq_some_iff.1 hk').1
    omega
  rintro w8 f hw ⟨k0, l0, d0, u0, -⟩
  have e0' : f 0 = w.heap.size + 1 := k0
  rw [e0'] at d0
  simp only [pairs, putAll, Option.isSome_none, Bool.false_eq_true, if_false]
  have Ef := Ext.calm_trans xx hw (by simp)
  clear k0 l0 u0 e0' hw
  go_wp2_with fail
  exact bodyPost_ret (v := .tuple #[.int .i64 dd, .agg #[.int .i64 C0, .int .i64 C1, .int .i64 C2, .int .i64 C3], .bool true]) (results_blk3 (b := w.heap.size + 1) (r := 6) (t := 7) (s := 8) (ty := 30) rfl rfl d0 Try.underlying30 rfl (by kernel_rfl) rfl rfl) rfl ⟨rfl, Ef⟩
end Go.Proofs.Ytglehnmkdapnpaa

namespace Go.Proofs.Ytglehnmkdapnpaa
open Go.RowKit
set_option linter.unusedVariables false
theorem smake_any (a b c : Cn) (ha : a.in64) (hb : b.in64) (hc : c.in64) (k : Int) (hk : 0 ≤ k ∧ k ≤ 2) (w : World) : Calls Try.prog 14 #[.agg a.l.toArray, .agg b.l.toArray, .agg c.l.toArray, .int .u8 k] w fun e w' => e = .returned (mkV (makeF a b c k)) ∧ Ext w w' := by
  have hS := fun u => side_any a.x a.y b.x b.y c.x c.y ha.1 ha.2.1 hb.1 hb.2.1 hc.1 hc.2.1 u
  have hA := fun u => slim_any a ha u
  have hB := fun u => slim_any b hb u
  have hC := fun u => slim_any c hc u
  unfold makeF
  by_cases ho : outF (areaC a b c) k
  · rw [if_pos ho]
    rcases ho with h | ⟨h1, h2⟩ | ⟨h1, h2⟩
    · exact make_zero a.x a.y a.d a.f a.c0 a.c1 a.c2 a.c3 b.x b.y b.d b.f b.c0 b.c1 b.c2 b.c3 c.x c.y c.d c.f c.c0 c.c1 c.c2 c.c3 k _ hS h w
    · exact make_back a.x a.y a.d a.f a.c0 a.c1 a.c2 a.c3 b.x b.y b.d b.f b.c0 b.c1 b.c2 b.c3 c.x c.y c.d c.f c.c0 c.c1 c.c2 c.c3 k _ hS h1 h2 w
    · exact make_front a.x a.y a.d a.f a.c0 a.c1 a.c2 a.c3 b.x b.y b.d b.f b.c0 b.c1 b.c2 b.c3 c.x c.y c.d c.f c.c0 c.c1 c.c2 c.c3 k _ hS h1 h2 w
  · rw [if_neg ho]
    have h0 : areaC a b c ≠ 0 := fun h => ho (.inl h)
    by_cases hn : areaC a b c < 0
    · rw [if_pos hn]
      have h1 : k ≠ 1 := fun h => ho (.inr (.inl ⟨hn, h⟩))
      have hJ := fun u => join_any a c b u
      exact make_neg a.x a.y a.d a.f a.c0 a.c1 a.c2 a.c3 b.x b.y b.d b.f b.c0 b.c1 b.c2 b.c3 c.x c.y c.d c.f c.c0 c.c1 c.c2 c.c3 k _ a.lim.x a.lim.y a.lim.d a.lim.f a.lim.c0 a.lim.c1 a.lim.c2 a.lim.c3 b.lim.x b.lim.y b.lim.d b.lim.f b.lim.c0 b.lim.c1 b.lim.c2 b.lim.c3 c.lim.x c.lim.y c.lim.d c.lim.f c.lim.c0 c.lim.c1 c.lim.c2 c.lim.c3 (triF a c b).ax (triF a c b).ay (triF a c b).bx (triF a c b).by' (triF a c b).cx (triF a c b).cy (triF a c b).d0 (triF a c b).d1 (triF a c b).d2 (triF a c b).n0 (triF a c b).n1 (triF a c b).n2 (triF a c b).a0 (triF a c b).a1 (triF a c b).a2 (triF a c b).a3 (triF a c b).b0 (triF a c b).b1 (triF a c b).b2 (triF a c b).b3 (triF a c b).c0 (triF a c b).c1 (triF a c b).c2 (triF a c b).c3 hS hn h1 hA hB hC hJ w
    · rw [if_neg hn]
      have h2 : k ≠ 2 := fun h => ho (.inr (.inr ⟨by omega, h⟩))
      have hJ := fun u => join_any a b c u
      have h3 : 0 < areaC a b c := by omega
      exact make_pos a.x a.y a.d a.f a.c0 a.c1 a.c2 a.c3 b.x b.y b.d b.f b.c0 b.c1 b.c2 b.c3 c.x c.y c.d c.f c.c0 c.c1 c.c2 c.c3 k _ a.lim.x a.lim.y a.lim.d a.lim.f a.lim.c0 a.lim.c1 a.lim.c2 a.lim.c3 b.lim.x b.lim.y b.lim.d b.lim.f b.lim.c0 b.lim.c1 b.lim.c2 b.lim.c3 c.lim.x c.lim.y c.lim.d c.lim.f c.lim.c0 c.lim.c1 c.lim.c2 c.lim.c3 (triF a b c).ax (triF a b c).ay (triF a b c).bx (triF a b c).by' (triF a b c).cx (triF a b c).cy (triF a b c).d0 (triF a b c).d1 (triF a b c).d2 (triF a b c).n0 (triF a b c).n1 (triF a b c).n2 (triF a b c).a0 (triF a b c).a1 (triF a b c).a2 (triF a b c).a3 (triF a b c).b0 (triF a b c).b1 (triF a b c).b2 (triF a b c).b3 (triF a b c).c0 (triF a b c).c1 (triF a b c).c2 (triF a b c).c3 hS h3 h2 hA hB hC hJ w
set_option maxRecDepth 100000 in
set_option maxHeartbeats 4000000 in
theorem depth_any13 (t : Tr) (ht : chkT t = 0) (x y : Int) (hv : t.cov (midI x) (midI y) = true) (w : World) : Calls Try.prog 41 #[.agg t.l.toArray, .agg #[.int .i64 (t.w0 (midI x) (midI y)), .int .i64 (t.w1 (midI x) (midI y)), .int .i64 (t.w2 (midI x) (midI y))]] w fun e w' => e = .returned (.int .i64 (t.dAt (midI x) (midI y))) ∧ Ext w w' := by
  obtain ⟨hr, har⟩ := chk_rng ht
  have h64 := rng_in64 hr
  obtain ⟨-, ⟨d0, d1, d2⟩, -, -, -, -⟩ := hr
  unfold In at d0 d1 d2
  obtain ⟨k0, k1, k2, k3, k4⟩ := cov_weights hv
  obtain ⟨⟨-, u0⟩, ⟨-, u1⟩, ⟨-, u2⟩⟩ := w_bd t (midI x) (midI y)
  have md0 := mul_le2 k0 u0 d0.1 d0.2
  have md1 := mul_le2 k1 u1 d1.1 d1.2
  have md2 := mul_le2 k2 u2 d2.1 d2.2
  have hab := sd_bd t.ax t.ay t.bx t.by' t.cx t.cy
  have hA := fun u => area_any t.ax t.ay t.bx t.by' t.cx t.cy h64.1 h64.2.1 h64.2.2.1 h64.2.2.2.1 h64.2.2.2.2.1 h64.2.2.2.2.2.1 u
  have hF := fun u => floorE (t.w0 (midI x) (midI y) * t.d0 + t.w1 (midI x) (midI y) * t.d1 + t.w2 (midI x) (midI y) * t.d2) t.area (by omega) ⟨k3, by unfold Tr.area; omega⟩ u
  exact depth_main t.ax t.ay t.bx t.by' t.cx t.cy t.d0 t.d1 t.d2 t.n0 t.n1 t.n2 t.a0 t.a1 t.a2 t.a3 t.b0 t.b1 t.b2 t.b3 t.c0 t.c1 t.c2 t.c3 _ _ _ _ _ _ _ _ rfl (by omega) rfl (by omega) rfl (by omega) hA hF w
set_option maxRecDepth 100000 in
set_option maxHeartbeats 4000000 in
theorem colour_any13 (t : Tr) (ht : chkT t = 0) (x y : Int) (hv : t.cov (midI x) (midI y) = true) (w : World) : Calls Try.prog 42 #[.agg t.l.toArray, .agg #[.int .i64 (t.w0 (midI x) (midI y)), .int .i64 (t.w1 (midI x) (midI y)), .int .i64 (t.w2 (midI x) (midI y))]] w fun e w' => e = .returned (.agg #[.int .i64 (t.cAt (midI x) (midI y) t.a0 t.b0 t.c0), .int .i64 (t.cAt (midI x) (midI y) t.a1 t.b1 t.c1), .int .i64 (t.cAt (midI x) (midI y) t.a2 t.b2 t.c2), .int .i64 (t.cAt (midI x) (midI y) t.a3 t.b3 t.c3)]) ∧ Ext w w' := by
  obtain ⟨⟨-, -, ⟨n0, n1, n2⟩, ⟨a0, a1, a2, a3⟩, ⟨b0, b1, b2, b3⟩, ⟨c0, c1, c2, c3⟩⟩, har⟩ := chk_rng ht
  unfold In at n0 n1 n2 a0 a1 a2 a3 b0 b1 b2 b3 c0 c1 c2 c3
  obtain ⟨k0, k1, k2, k3, k4⟩ := cov_weights hv
  obtain ⟨⟨-, u0⟩, ⟨-, u1⟩, ⟨-, u2⟩⟩ := w_bd t (midI x) (midI y)
  obtain ⟨-, -, -, hall⟩ := all_pos hv n0.1 n1.1 n2.1
  have mn0 := mul_le2 k0 u0 (show 0 ≤ t.n0 by omega) n0.2
  have m00 := mul_le2 mn0.1 mn0.2 a0.1 a0.2
  have m01 := mul_le2 mn0.1 mn0.2 a1.1 a1.2
  have m02 := mul_le2 mn0.1 mn0.2 a2.1 a2.2
  have m03 := mul_le2 mn0.1 mn0.2 a3.1 a3.2
  have mn1 := mul_le2 k1 u1 (show 0 ≤ t.n1 by omega) n1.2
  have m10 := mul_le2 mn1.1 mn1.2 b0.1 b0.2
  have m11 := mul_le2 mn1.1 mn1.2 b1.1 b1.2
  have m12 := mul_le2 mn1.1 mn1.2 b2.1 b2.2
  have m13 := mul_le2 mn1.1 mn1.2 b3.1 b3.2
  have mn2 := mul_le2 k2 u2 (show 0 ≤ t.n2 by omega) n2.2
  have m20 := mul_le2 mn2.1 mn2.2 c0.1 c0.2
  have m21 := mul_le2 mn2.1 mn2.2 c1.1 c1.2
  have m22 := mul_le2 mn2.1 mn2.2 c2.1 c2.2
  have m23 := mul_le2 mn2.1 mn2.2 c3.1 c3.2
  have hall' : 0 < t.w0 (midI x) (midI y) * t.n0 + t.w1 (midI x) (midI y) * t.n1 + t.w2 (midI x) (midI y) * t.n2 := hall
  have hF0 := fun u => floorE (t.w0 (midI x) (midI y) * t.n0 * t.a0 + t.w1 (midI x) (midI y) * t.n1 * t.b0 + t.w2 (midI x) (midI y) * t.n2 * t.c0) (t.w0 (midI x) (midI y) * t.n0 + t.w1 (midI x) (midI y) * t.n1 + t.w2 (midI x) (midI y) * t.n2) (by omega) ⟨hall', by omega⟩ u
  have hF1 := fun u => floorE (t.w0 (midI x) (midI y) * t.n0 * t.a1 + t.w1 (midI x) (midI y) * t.n1 * t.b1 + t.w2 (midI x) (midI y) * t.n2 * t.c1) (t.w0 (midI x) (midI y) * t.n0 + t.w1 (midI x) (midI y) * t.n1 + t.w2 (midI x) (midI y) * t.n2) (by omega) ⟨hall', by omega⟩ u
  have hF2 := fun u => floorE (t.w0 (midI x) (midI y) * t.n0 * t.a2 + t.w1 (midI x) (midI y) * t.n1 * t.b2 + t.w2 (midI x) (midI y) * t.n2 * t.c2) (t.w0 (midI x) (midI y) * t.n0 + t.w1 (midI x) (midI y) * t.n1 + t.w2 (midI x) (midI y) * t.n2) (by omega) ⟨hall', by omega⟩ u
  have hF3 := fun u => floorE (t.w0 (midI x) (midI y) * t.n0 * t.a3 + t.w1 (midI x) (midI y) * t.n1 * t.b3 + t.w2 (midI x) (midI y) * t.n2 * t.c3) (t.w0 (midI x) (midI y) * t.n0 + t.w1 (midI x) (midI y) * t.n1 + t.w2 (midI x) (midI y) * t.n2) (by omega) ⟨hall', by omega⟩ u
  exact colour_main13 t.ax t.ay t.bx t.by' t.cx t.cy t.d0 t.d1 t.d2 t.n0 t.n1 t.n2 t.a0 t.a1 t.a2 t.a3 t.b0 t.b1 t.b2 t.b3 t.c0 t.c1 t.c2 t.c3 _ _ _ _ _ _ _ _ _ _ _ _ _ _ _ _ _ _ _ _ _ _
     rfl (by omega) (wr13 (by omega)) (wr13 (by omega)) (wr13z (by omega)) (wr13 (by omega)) (wr13z (by omega)) (wr13 (by omega)) (wr13z (by omega)) (wr13 (by omega)) (wr13z (by omega)) rfl (by omega) (wr13 (by omega)) (wr13 (by omega)) (wr13 (by omega)) (wr13 (by omega)) (wr13 (by omega)) (wr13 (by omega)) (wr13 (by omega)) (wr13 (by omega)) (wr13 (by omega)) rfl (by omega) (wr13 (by omega)) (wr13 (by omega)) (wr13 (by omega)) (wr13 (by omega)) (wr13 (by omega)) (wr13 (by omega)) (wr13 (by omega)) (wr13 (by omega)) (wr13 (by omega)) hF0 hF1 hF2 hF3 w
theorem midI_in (x : Int) : I64 (midI x) := by
  have := bdI_bd x (lo := -1) (hi := 64) (by omega)
  unfold I64 midI
  omega
theorem atT_any (t : Tr) (ht : t.in64) (x y : Int) (hx : I64 x) (hy : I64 y) (w : World) : Calls Try.prog 19 #[.agg t.l.toArray, .int .i64 x, .int .i64 y] w fun e w' => e = .returned (atV (atF t x y)) ∧ Ext w w' := by
  have hP := fun u => middle_any x y hx hy u
  have hK := fun u => checkT_any t ht u
  have h64 := ht
  have hmx := midI_in x
  have hmy := midI_in y
  by_cases hc : chkT t = 0
  · have hV := fun u => covers_any t.ax t.ay t.bx t.by' t.cx t.cy (midI x) (midI y) h64.1 h64.2.1 h64.2.2.1 h64.2.2.2.1 h64.2.2.2.2.1 h64.2.2.2.2.2.1 hmx hmy u
    rw [hc] at hK
    by_cases hv : t.cov (midI x) (midI y) = true
    · have hv' := hv
      unfold Tr.cov at hv'
      rw [hv'] at hV
      have hW := fun u => weights_any t.ax t.ay t.bx t.by' t.cx t.cy (midI x) (midI y) h64.1 h64.2.1 h64.2.2.1 h64.2.2.2.1 h64.2.2.2.2.1 h64.2.2.2.2.2.1 hmx hmy u
      have hD := fun u => depth_any13 t hc x y hv u
      have hC := fun u => colour_any13 t hc x y hv u
      unfold atF
      rw [if_pos ⟨hc, hv⟩]
      exact sat_yes t.ax t.ay t.bx t.by' t.cx t.cy t.d0 t.d1 t.d2 t.n0 t.n1 t.n2 t.a0 t.a1 t.a2 t.a3 t.b0 t.b1 t.b2 t.b3 t.c0 t.c1 t.c2 t.c3 x y (midI x) (midI y) _ _ _ _ _ _ _ _ hP hK hV hW hD hC w
    · have hv' : covB t.ax t.ay t.bx t.by' t.cx t.cy (midI x) (midI y) = false := by
        cases h : covB t.ax t.ay t.bx t.by' t.cx t.cy (midI x) (midI y)
        · rfl
        · exact absurd h hv
      rw [hv'] at hV
      unfold atF
      rw [if_neg (fun h => hv h.2)]
      exact sat_cov t.ax t.ay t.bx t.by' t.cx t.cy t.d0 t.d1 t.d2 t.n0 t.n1 t.n2 t.a0 t.a1 t.a2 t.a3 t.b0 t.b1 t.b2 t.b3 t.c0 t.c1 t.c2 t.c3 x y (midI x) (midI y) hP hK hV w
  · unfold atF
    rw [if_neg (fun h => hc h.1)]
    have h24 : chkT t = 2 ∨ chkT t = 4 := by
      unfold chkT at hc ⊢
      by_cases h : t.rng
      · rw [if_pos h] at hc ⊢
        by_cases h2 : t.area ≤ 0
        · rw [if_pos h2]; exact .inr rfl
        · rw [if_neg h2] at hc; exact absurd rfl hc
      · rw [if_neg h]; exact .inl rfl
    rcases h24 with h | h
    · rw [h] at hK
      exact sat_chk2 t.ax t.ay t.bx t.by' t.cx t.cy t.d0 t.d1 t.d2 t.n0 t.n1 t.n2 t.a0 t.a1 t.a2 t.a3 t.b0 t.b1 t.b2 t.b3 t.c0 t.c1 t.c2 t.c3 x y (midI x) (midI y) hP hK w
    · rw [h] at hK
      exact sat_chk4 t.ax t.ay t.bx t.by' t.cx t.cy t.d0 t.d1 t.d2 t.n0 t.n1 t.n2 t.a0 t.a1 t.a2 t.a3 t.b0 t.b1 t.b2 t.b3 t.c0 t.c1 t.c2 t.c3 x y (midI x) (midI y) hP hK w
end Go.Proofs.Ytglehnmkdapnpaa

namespace Go.Proofs.Ytglehnmkdapnpaa
open Go.RowKit
set_option linter.unusedVariables false
theorem awake_at : atF ⟨0, 0, 64, 0, 0, 64, 7, 7, 7, 9, 9, 9, 1, 2, 3, 4, 1, 2, 3, 4, 1, 2, 3, 4⟩ 0 0 = ⟨7, 1, 2, 3, 4, true⟩ := by kernel_rfl
theorem awake_chk : chkT ⟨0, 0, 64, 0, 0, 64, 7, 7, 7, 9, 9, 9, 1, 2, 3, 4, 1, 2, 3, 4, 1, 2, 3, 4⟩ = 0 := by decide +kernel
theorem awake_rng : ((⟨0, 0, 64, 0, 0, 64, 7, 7, 7, 9, 9, 9, 1, 2, 3, 4, 1, 2, 3, 4, 1, 2, 3, 4⟩ : Tr)).rng := by decide +kernel
set_option maxRecDepth 100000 in
set_option maxHeartbeats 4000000 in
theorem awake13_any (w : World) : Calls Try.prog 9 #[] w fun e w' => e = .returned (.bool true) ∧ Ext w w' := by
  have hA := fun u => atT_any ⟨0, 0, 64, 0, 0, 64, 7, 7, 7, 9, 9, 9, 1, 2, 3, 4, 1, 2, 3, 4, 1, 2, 3, 4⟩ (rng_in64 awake_rng) 0 0 (by unfold I64; omega) (by unfold I64; omega) u
  have hK := fun u => checkT_any ⟨0, 0, 64, 0, 0, 64, 7, 7, 7, 9, 9, 9, 1, 2, 3, 4, 1, 2, 3, 4, 1, 2, 3, 4⟩ (rng_in64 awake_rng) u
  rw [awake_at] at hA
  simp only [atV] at hA
  rw [awake_chk] at hK
  have HA := Lib.hid hA
  have HK := Lib.hid hK
  clear hA hK
  have hE := eqInV
  have xx := Ext.refl w
  go_enter Try.func9, Try.ntmps9
  go_wp2_with fail
  refine (plain_any 0 0 64 0 0 64 1 2 3 4 _).mono ?_
  rintro e w1 ⟨rfl, x1⟩
  have xx := xx.trans x1
  clear x1
  have B1 := (Blk.new w1 #[.int .i64 0, .int .i64 0, .int .i64 0, .int .i64 0, .int .i64 0, .int .i64 0, .int .i64 0, .int .i64 0, .int .i64 0, .int .i64 0, .int .i64 0, .int .i64 0, .int .i64 0, .int .i64 0, .int .i64 0, .int .i64 0, .int .i64 0, .int .i64 0, .int .i64 0, .int .i64 0, .int .i64 0, .int .i64 0, .int .i64 0, .int .i64 0] 55).setRow #[.int .i64 0, .int .i64 0, .int .i64 64, .int .i64 0, .int .i64 0, .int .i64 64, .int .i64 7, .int .i64 7, .int .i64 7, .int .i64 9, .int .i64 9, .int .i64 9, .int .i64 1, .int .i64 2, .int .i64 3, .int .i64 4, .int .i64 1, .int .i64 2, .int .i64 3, .int .i64 4, .int .i64 1, .int .i64 2, .int .i64 3, .int .i64 4]
  have y1 : Ext w1 ((w1.alloc (.cells #[.int .i64 0, .int .i64 0, .int .i64 0, .int .i64 0, .int .i64 0, .int .i64 0, .int .i64 0, .int .i64 0, .int .i64 0, .int .i64 0, .int .i64 0, .int .i64 0, .int .i64 0, .int .i64 0, .int .i64 0, .int .i64 0, .int .i64 0, .int .i64 0, .int .i64 0, .int .i64 0, .int .i64 0, .int .i64 0, .int .i64 0, .int .i64 0] 55)).setRow w1.heap.size #[.int .i64 0, .int .i64 0, .int .i64 64, .int .i64 0, .int .i64 0, .int .i64 64, .int .i64 7, .int .i64 7, .int .i64 7, .int .i64 9, .int .i64 9, .int .i64 9, .int .i64 1, .int .i64 2, .int .i64 3, .int .i64 4, .int .i64 1, .int .i64 2, .int .i64 3, .int .i64 4, .int .i64 1, .int .i64 2, .int .i64 3, .int .i64 4]) := ((Ext.refl _).alloc _ _).setRow (Nat.le_refl _) _
  go_upto_region 2 with (first
    | ((with_reducible refine wpList_store_blk (op := ⟨none, .store 55 (.tmp 1) (.tmp 10), _, _, _, _⟩) ?_ 55 (.tmp 1) (.tmp 10) ?_ (w1.heap.size) ?_ (cs := #[.int .i64 0, .int .i64 0, .int .i64 64, .int .i64 0, .int .i64 0, .int .i64 64, .int .i64 7, .int .i64 7, .int .i64 7, .int .i64 9, .int .i64 9, .int .i64 9, .int .i64 1, .int .i64 2, .int .i64 3, .int .i64 4, .int .i64 1, .int .i64 2, .int .i64 3, .int .i64 4, .int .i64 1, .int .i64 2, .int .i64 3, .int .i64 4]) ?_ (z := #[.int .i64 0, .int .i64 0, .int .i64 0, .int .i64 0, .int .i64 0, .int .i64 0, .int .i64 0, .int .i64 0, .int .i64 0, .int .i64 0, .int .i64 0, .int .i64 0, .int .i64 0, .int .i64 0, .int .i64 0, .int .i64 0, .int .i64 0, .int .i64 0, .int .i64 0, .int .i64 0, .int .i64 0, .int .i64 0, .int .i64 0, .int .i64 0]) (T := 55) ?_ ?_ ?_ ?_ ?_); rfl; rfl; rfl; rfl; exact Blk.new w1 _ _; kernel_rfl; kernel_rfl; kernel_rfl)
    | fail)
  try simp only [Act.put]
  have xx := xx.trans y1
  clear y1
  generalize (w1.alloc (.cells #[.int .i64 0, .int .i64 0, .int .i64 0, .int .i64 0, .int .i64 0, .int .i64 0, .int .i64 0, .int .i64 0, .int .i64 0, .int .i64 0, .int .i64 0, .int .i64 0, .int .i64 0, .int .i64 0, .int .i64 0, .int .i64 0, .int .i64 0, .int .i64 0, .int .i64 0, .int .i64 0, .int .i64 0, .int .i64 0, .int .i64 0, .int .i64 0] 55)).setRow w1.heap.size #[.int .i64 0, .int .i64 0, .int .i64 64, .int .i64 0, .int .i64 0, .int .i64 64, .int .i64 7, .int .i64 7, .int .i64 7, .int .i64 9, .int .i64 9, .int .i64 9, .int .i64 1, .int .i64 2, .int .i64 3, .int .i64 4, .int .i64 1, .int .i64 2, .int .i64 3, .int .i64 4, .int .i64 1, .int .i64 2, .int .i64 3, .int .i64 4] = w2 at *
  generalize hbe : w1.heap.size = b1 at *
  clear hbe
  go_wp2_with (first
    | ((with_reducible refine wpList_load_blk (op := ⟨some 12, _, _, _, _, _⟩) ?_ 55 (.tmp 1) ?_ (b1) ?_ (z := _) (T := 55) B1 Try.underlying55 ?_ ?_ ?_); rfl; rfl; rfl; rfl; kernel_rfl)
    | fail)
  refine (HA.out _).mono ?_
  rintro e w3 ⟨rfl, x1⟩
  have xx := xx.trans x1
  have B1 := B1.ext x1
  clear x1
  have B3 := (Blk.new w3 #[.int .i64 0, .int .i64 0, .int .i64 0, .int .i64 0] 30).setRow #[.int .i64 1, .int .i64 2, .int .i64 3, .int .i64 4]
  have y1 : Ext w3 ((w3.alloc (.cells #[.int .i64 0, .int .i64 0, .int .i64 0, .int .i64 0] 30)).setRow w3.heap.size #[.int .i64 1, .int .i64 2, .int .i64 3, .int .i64 4]) := ((Ext.refl _).alloc _ _).setRow (Nat.le_refl _) _
  go_upto_region 3 with (first
    | ((with_reducible refine wpList_store_blk (op := ⟨none, .store 30 (.tmp 3) (.tmp 15), _, _, _, _⟩) ?_ 30 (.tmp 3) (.tmp 15) ?_ (w3.heap.size) ?_ (cs := #[.int .i64 1, .int .i64 2, .int .i64 3, .int .i64 4]) ?_ (z := #[.int .i64 0, .int .i64 0, .int .i64 0, .int .i64 0]) (T := 30) ?_ ?_ ?_ ?_ ?_); rfl; rfl; rfl; rfl; exact Blk.new w3 _ _; kernel_rfl; kernel_rfl; kernel_rfl)
    | fail)
  try simp only [Act.put]
  have xx := xx.trans y1
  have B1 := B1.ext y1
  clear y1
  generalize (w3.alloc (.cells #[.int .i64 0, .int .i64 0, .int .i64 0, .int .i64 0] 30)).setRow w3.heap.size #[.int .i64 1, .int .i64 2, .int .i64 3, .int .i64 4] = w4 at *
  generalize hbe : w3.heap.size = b3 at *
  clear hbe
  go_wp2_with (first
    | ((with_reducible refine wpList_load_blk (op := ⟨some 17, _, _, _, _, _⟩) ?_ 55 (.tmp 1) ?_ (b1) ?_ (z := _) (T := 55) B1 Try.underlying55 ?_ ?_ ?_); rfl; rfl; rfl; rfl; kernel_rfl)
    | fail)
  refine (HK.out _).mono ?_
  rintro e w5 ⟨rfl, x1⟩
  have xx := xx.trans x1
  have B1 := B1.ext x1
  have B3 := B3.ext x1
  clear x1
  have hq := eqV 1 2 3 4 w5
  have c3 := B3.cell
  clear B1
  go_wp2_with fail
  go_ret
  exact ⟨rfl, xx⟩
end Go.Proofs.Ytglehnmkdapnpaa

