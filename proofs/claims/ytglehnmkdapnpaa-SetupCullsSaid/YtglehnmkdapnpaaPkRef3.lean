/-
  DERIVED. azulejoref12's At (made by mkrefset.py). · azulejoref12's Make, in plain numbers (made by mkrefset.py). · azulejoref12's At, in plain numbers (made by mkrefset.py).
-/
import Derived.Test.YtglehnmkdapnpaaPkRef2
import Derived.Test.YtglehnmkdapnpaaPkEdge
import Derived.Test.YtglehnmkdapnpaaPkEdgeR
import Derived.Test.YtglehnmkdapnpaaPkGs
import Derived.Test.YtglehnmkdapnpaaPkRefC
namespace Go.Proofs.Ytglehnmkdapnpaa
open Go.RowKit
set_option linter.unusedVariables false
set_option maxRecDepth 100000 in
set_option maxHeartbeats 4000000 in
theorem rat_r15 (f0 f1 f2 f4 f5 f6 f7 f8 f9 f11 f12 f16 f17 f18 f19 f20 f21 f22 f23 f24 f25 f26 f27 f28 f29 f30 f31 f32 f33 f34 f35 f36 f37 f38 f39 f40 f41 f42 f43 f44 f45 f46 f47 f48 f49 f50 f51 f52 f53 f54 f55 f56 f57 f58 f59 f60 f61 f62 f63 f64 f65 f66 f67 f68 f69 f70 f71 f72 f73 f74 f75 f76 f77 f78 f79 f80 f81 f82 f83 f84 f85 f86 f87 f88 f89 f90 f91 f92 f93 f94 f95 f96 f97 f98 f99 f100 f101 f102 f103 f104 f105 f106 f107 f108 f109 f110 : Value) (b3 b10 j k : Nat) (cur wt nr1 col new : Int) (z3 z10 : Array Value) (w : World) (B3 : Blk w b3 z3 42) (B10 : Blk w b10 z10 29) (hj : j < 3) (hk : k < 4) (e1 : z3[9 + j]? = some (.int .i64 nr1)) (e2 : z3[12 + j * 4 + k]? = some (.int .i64 col)) (e3 : z10[k]? = some (.int .i64 cur))
    (w1 : IntKind.i64.wrap (wt * nr1) = wt * nr1) (w2 : IntKind.i64.wrap (wt * nr1 * col) = wt * nr1 * col) (w3 : IntKind.i64.wrap (cur + wt * nr1 * col) = new) {Q : Exit → Act → World → Prop}
    (hQ : ∀ (d68 d69 d70 d71 d72 d73 d74 d75 d76 d77 d78 d79 d80 d81 d82 d83 d84 d85 d86 : Value) (wx : World), Calm [b10] w wx → Blk wx b10 (z10.setIfInBounds k (.int .i64 new)) 29 → Q .normal ⟨(f0 :: f1 :: f2 :: Value.pointer (some ⟨b3, 0, none⟩) :: f4 :: f5 :: f6 :: f7 :: f8 :: f9 :: Value.pointer (some ⟨b10, 0, none⟩) :: f11 :: f12 :: Value.int .i64 (j : Int) :: Value.int .i64 wt :: Value.int .i64 (k : Int) :: f16 :: f17 :: f18 :: f19 :: f20 :: f21 :: f22 :: f23 :: f24 :: f25 :: f26 :: f27 :: f28 :: f29 :: f30 :: f31 :: f32 :: f33 :: f34 :: f35 :: f36 :: f37 :: f38 :: f39 :: f40 :: f41 :: f42 :: f43 :: f44 :: f45 :: f46 :: f47 :: f48 :: f49 :: f50 :: f51 :: f52 :: f53 :: f54 :: f55 :: f56 :: f57 :: f58 :: f59 :: f60 :: f61 :: f62 :: f63 :: f64 :: f65 :: f66 :: f67 :: d68 :: d69 :: d70 :: d71 :: d72 :: d73 :: d74 :: d75 :: d76 :: d77 :: d78 :: d79 :: d80 :: d81 :: d82 :: d83 :: d84 :: d85 :: d86 :: f87 :: f88 :: f89 :: f90 :: f91 :: f92 :: f93 :: f94 :: f95 :: f96 :: f97 :: f98 :: f99 :: f100 :: f101 :: f102 :: f103 :: f104 :: f105 :: f106 :: f107 :: f108 :: f109 :: f110 :: List.nil).toArray, []⟩ wx) :
    Code.wp Try.prog (regionOf Try.f20 15) Q ⟨(f0 :: f1 :: f2 :: Value.pointer (some ⟨b3, 0, none⟩) :: f4 :: f5 :: f6 :: f7 :: f8 :: f9 :: Value.pointer (some ⟨b10, 0, none⟩) :: f11 :: f12 :: Value.int .i64 (j : Int) :: Value.int .i64 wt :: Value.int .i64 (k : Int) :: f16 :: f17 :: f18 :: f19 :: f20 :: f21 :: f22 :: f23 :: f24 :: f25 :: f26 :: f27 :: f28 :: f29 :: f30 :: f31 :: f32 :: f33 :: f34 :: f35 :: f36 :: f37 :: f38 :: f39 :: f40 :: f41 :: f42 :: f43 :: f44 :: f45 :: f46 :: f47 :: f48 :: f49 :: f50 :: f51 :: f52 :: f53 :: f54 :: f55 :: f56 :: f57 :: f58 :: f59 :: f60 :: f61 :: f62 :: f63 :: f64 :: f65 :: f66 :: f67 :: f68 :: f69 :: f70 :: f71 :: f72 :: f73 :: f74 :: f75 :: f76 :: f77 :: f78 :: f79 :: f80 :: f81 :: f82 :: f83 :: f84 :: f85 :: f86 :: f87 :: f88 :: f89 :: f90 :: f91 :: f92 :: f93 :: f94 :: f95 :: f96 :: f97 :: f98 :: f99 :: f100 :: f101 :: f102 :: f103 :: f104 :: f105 :: f106 :: f107 :: f108 :: f109 :: f110 :: List.nil).toArray, []⟩ w := by
  have hjI : (j : Int) < 3 := by omega
  have hkI : (k : Int) < 4 := by omega
  have HQ := Lib.hid hQ
  clear hQ
  change Code.wp Try.prog (Code.region _ _ true) _ _ _
  apply wp_region_last 30 [false, false, false, false, false, false, false, false, false, false, false, false, false, false, false, false, false, false, false, true] [] [] [b10] _ (by kernel_rfl) (by kernel_rfl) (by kernel_rfl) (by kernel_rfl)
  case H =>
    intro y0 hy0
    have hne : Nonempty (Wx y0) := ⟨⟨y0, Ext.refl y0⟩⟩
    have q1 := fun (t : Wx y0) => by
      have := ((B3.calm hy0 (by simp)).ext t.ext).cell (9 + j)
      rw [e1] at this
      exact this
    have q2 := fun (t : Wx y0) => by
      have := ((B3.calm hy0 (by simp)).ext t.ext).cell (12 + j * 4 + k)
      rw [e2] at this
      exact this
    have q3 := fun (t : Wx y0) => by
      have := ((B10.calm hy0 (by simp)).ext t.ext).cell k
      rw [e3] at this
      exact this
    simp only [eraseM]
    repeat (go_big_quiet_step (fail))
    exact wpQuiet_nil rfl
  case hF => rfl
  case T =>
    change tailL _ _ _ _ _ [_] _ _
    intro u1 x1 hc
    have B10n := B10.calm hc (by simp)
    have c9 := B10n.cell k
    rw [e3] at c9
    have f9 := B10n.frozen
    refine gives_skip (u' := u1.setCell ⟨b10, k, none⟩ (.int .i64 new)) (by simp [go_sem, c9, f9]) ⟨(hc.wide (by simp)).trans (calm_put u1 b10 k _), fun h => absurd rfl h, ?_⟩
    intro u2 x2 hc2
    exact HQ.out _ _ _ _ _ _ _ _ _ _ _ _ _ _ _ _ _ _ _ _ hc2 ((B10n.set k _).ext x2)
set_option maxRecDepth 100000 in
set_option maxHeartbeats 4000000 in
theorem rat_no (g0 g1 g2 g3 g4 g5 e0 e1 e2 n0 n1 n2 a0 a1 a2 a3 b0 b1 b2 b3 c0 c1 c2 c3 x y px py : Int) (cov : Bool) (wx : IntKind.i64.wrap (16 * x) = 16 * x) (wy : IntKind.i64.wrap (16 * y) = 16 * y) (wpx : IntKind.i64.wrap (16 * x + 8) = px) (wpy : IntKind.i64.wrap (16 * y + 8) = py)
    (hC : ∀ u : World, Calls Try.prog 43 #[.agg #[.int .i64 g0, .int .i64 g1, .int .i64 g2, .int .i64 g3, .int .i64 g4, .int .i64 g5], .agg #[.int .i64 px, .int .i64 py]] u fun e w' => e = .returned (.bool cov) ∧ Ext u w') (hcv : cov = false) (w : World) : Calls Try.prog 20 #[.agg #[.int .i64 g0, .int .i64 g1, .int .i64 g2, .int .i64 g3, .int .i64 g4, .int .i64 g5, .int .i64 e0, .int .i64 e1, .int .i64 e2, .int .i64 n0, .int .i64 n1, .int .i64 n2, .int .i64 a0, .int .i64 a1, .int .i64 a2, .int .i64 a3, .int .i64 b0, .int .i64 b1, .int .i64 b2, .int .i64 b3, .int .i64 c0, .int .i64 c1, .int .i64 c2, .int .i64 c3], .int .i64 x, .int .i64 y] w fun e w' => e = .returned (.tuple #[.int .i64 0, .agg #[.int .i64 0, .int .i64 0, .int .i64 0, .int .i64 0], .bool false]) ∧ Ext w w' := by
  subst hcv
  have HC := Lib.hid hC
  clear hC
  have xx : Ext w ((w.alloc (.cells #[.int .i64 g0, .int .i64 g1, .int .i64 g2, .int .i64 g3, .int .i64 g4, .int .i64 g5, .int .i64 e0, .int .i64 e1, .int .i64 e2, .int .i64 n0, .int .i64 n1, .int .i64 n2, .int .i64 a0, .int .i64 a1, .int .i64 a2, .int .i64 a3, .int .i64 b0, .int .i64 b1, .int .i64 b2, .int .i64 b3, .int .i64 c0, .int .i64 c1, .int .i64 c2, .int .i64 c3] 42)).alloc (.cells #[.int .i64 0, .int .i64 0, .int .i64 0, .int .i64 0] 29)) := ((Ext.refl w).alloc _ _).alloc _ _
  have B3 := (Blk.new w #[.int .i64 g0, .int .i64 g1, .int .i64 g2, .int .i64 g3, .int .i64 g4, .int .i64 g5, .int .i64 e0, .int .i64 e1, .int .i64 e2, .int .i64 n0, .int .i64 n1, .int .i64 n2, .int .i64 a0, .int .i64 a1, .int .i64 a2, .int .i64 a3, .int .i64 b0, .int .i64 b1, .int .i64 b2, .int .i64 b3, .int .i64 c0, .int .i64 c1, .int .i64 c2, .int .i64 c3] 42).alloc (.cells #[.int .i64 0, .int .i64 0, .int .i64 0, .int .i64 0] 29)
  have B7 := Blk.new (w.alloc (.cells #[.int .i64 g0, .int .i64 g1, .int .i64 g2, .int .i64 g3, .int .i64 g4, .int .i64 g5, .int .i64 e0, .int .i64 e1, .int .i64 e2, .int .i64 n0, .int .i64 n1, .int .i64 n2, .int .i64 a0, .int .i64 a1, .int .i64 a2, .int .i64 a3, .int .i64 b0, .int .i64 b1, .int .i64 b2, .int .i64 b3, .int .i64 c0, .int .i64 c1, .int .i64 c2, .int .i64 c3] 42)) #[.int .i64 0, .int .i64 0, .int .i64 0, .int .i64 0] 29
  go_enter Try.func20, Try.ntmps20
  go_upto_region 1 with fail
  simp only [World.size_alloc] at B7
  generalize ((w.alloc (.cells #[.int .i64 g0, .int .i64 g1, .int .i64 g2, .int .i64 g3, .int .i64 g4, .int .i64 g5, .int .i64 e0, .int .i64 e1, .int .i64 e2, .int .i64 n0, .int .i64 n1, .int .i64 n2, .int .i64 a0, .int .i64 a1, .int .i64 a2, .int .i64 a3, .int .i64 b0, .int .i64 b1, .int .i64 b2, .int .i64 b3, .int .i64 c0, .int .i64 c1, .int .i64 c2, .int .i64 c3] 42)).alloc (.cells #[.int .i64 0, .int .i64 0, .int .i64 0, .int .i64 0] 29)) = w1 at *
  have B9 := (Blk.new w1 #[.int .i64 0, .int .i64 0] 37).setRow #[.int .i64 px, .int .i64 py]
  have y9 : Ext w1 ((w1.alloc (.cells #[.int .i64 0, .int .i64 0] 37)).setRow w1.heap.size #[.int .i64 px, .int .i64 py]) := ((Ext.refl _).alloc _ _).setRow (Nat.le_refl _) _
  go_upto_region 2 with (first
    | ((with_reducible refine wpList_store_blk (op := ⟨none, .store 37 (.tmp 9) (.tmp 23), _, _, _, _⟩) ?_ 37 (.tmp 9) (.tmp 23) ?_ (w1.heap.size) ?_ (cs := #[.int .i64 px, .int .i64 py]) ?_ (z := #[.int .i64 0, .int .i64 0]) (T := 37) ?_ ?_ ?_ ?_ ?_); rfl; rfl; rfl; rfl; exact Blk.new w1 _ _; kernel_rfl; kernel_rfl; kernel_rfl)
    | fail)
  simp only [Act.put]
  have hb9 := B7.lt
  have xx := xx.trans y9
  have B3 := B3.ext y9
  have B7 := B7.ext y9
  clear y9
  generalize (w1.alloc (.cells #[.int .i64 0, .int .i64 0] 37)).setRow w1.heap.size #[.int .i64 px, .int .i64 py] = w2 at *
  generalize w1.heap.size = k9 at *
  have B10 := Blk.new w2 #[.int .i64 0, .int .i64 0, .int .i64 0, .int .i64 0] 29
  have y10 : Ext w2 (w2.alloc (.cells #[.int .i64 0, .int .i64 0, .int .i64 0, .int .i64 0] 29)) := (Ext.refl _).alloc _ _
  go_upto_region 3 with fail
  have hb10 := B9.lt
  have xx := xx.trans y10
  have B3 := B3.ext y10
  have B7 := B7.ext y10
  have B9 := B9.ext y10
  clear y10
  generalize w2.alloc (.cells #[.int .i64 0, .int .i64 0, .int .i64 0, .int .i64 0] 29) = w3 at *
  generalize w2.heap.size = k10 at *
  have R := Lib.hid (B3.mid13 0 [.int .i64 g0, .int .i64 g1, .int .i64 g2, .int .i64 g3, .int .i64 g4, .int .i64 g5] rfl)
  go_wp2_with (first
    | ((with_reducible refine wpList_load_mid (op := ⟨some 25, _, _, _, _, _⟩) ?_ 38 (.tmp 24) ?_ w.heap.size 0 ?_ [.int .i64 g0, .int .i64 g1, .int .i64 g2, .int .i64 g3, .int .i64 g4, .int .i64 g5] _ R.out Try.underlying38 ?_ ?_ ?_); rfl; rfl; rfl; rfl; kernel_rfl)
    | ((with_reducible refine wpList_load_blk (op := ⟨some 26, _, _, _, _, _⟩) ?_ 37 (.tmp 9) ?_ (k9) ?_ (z := _) (T := 37) B9 Try.underlying37 ?_ ?_ ?_); rfl; rfl; rfl; rfl; kernel_rfl)
    | fail)
  refine (HC.out _).mono ?_
  rintro e w4 ⟨rfl, x4⟩
  have xx := xx.trans x4
  have B3 := B3.ext x4
  have B7 := B7.ext x4
  have B9 := B9.ext x4
  have B10 := B10.ext x4
  clear x4 HC R
  go_upto_region 4 with fail
  apply wp_region_vars [false, false, true, false] [w.heap.size + 1] [⟨none, 0, w.heap.size + 1, some 2, 29, #[.int .i64 0, .int .i64 0, .int .i64 0, .int .i64 0], #[.int .i64 0, .int .i64 0, .int .i64 0, .int .i64 0]⟩] _ (by kernel_rfl) (by kernel_rfl) (by kernel_rfl)
  case H =>
    intro x0 hx
    have hne : Nonempty (Wx x0) := ⟨⟨x0, Ext.refl x0⟩⟩
    have qB10 := fun (y : Wx x0) => ((B10.calm hx (by simp <;> omega)).ext y.ext).cell
    simp only [eraseM]
    repeat (go_big_quiet_step (fail))
    exact wpQuiet_nil rfl
  case hok =>
    simp only [List.forall_mem_cons, List.not_mem_nil, false_implies, implies_true, and_true]
    exact tgt_mine (v := .agg #[.int .i64 0, .int .i64 0, .int .i64 0, .int .i64 0]) (off := 0) (by simp) B7 rfl rfl rfl rfl rfl rfl (by kernel_rfl) (by kernel_rfl) (of_decide_eq_true (by kernel_rfl)) rfl
  case hdis =>
    intro k k' t t' hk hk' hkk ha ha'
    exfalso
    have h1 : k < 1 := (List.getElem?_eq_some_iff.1 hk).1
    have h2 : k' < 1 := (List.getElem?_eq_some_iff.1 hk').1
    omega
  rintro w5 f hw ⟨k0, l0, d0, u0, -⟩
  have e0' : f 0 = w.heap.size + 1 := k0
  rw [e0'] at d0
  have Ef := Ext.calm_trans xx hw (by simp)
  clear k0 l0 u0 e0' hw
  simp only [pairs, putAll, Option.isSome_none, Bool.false_eq_true, if_false]
  go_wp2_with fail
  exact bodyPost_ret (v := .tuple #[.int .i64 0, .agg #[.int .i64 0, .int .i64 0, .int .i64 0, .int .i64 0], .bool false]) (results_blk3 (b := w.heap.size + 1) (r := 6) (t := 7) (s := 8) (ty := 29) rfl rfl d0 Try.underlying29 rfl (by kernel_rfl) rfl rfl) rfl ⟨rfl, Ef⟩
set_option maxRecDepth 100000 in
set_option maxHeartbeats 4000000 in
theorem rat_yes (g0 g1 g2 g3 g4 g5 e0 e1 e2 n0 n1 n2 a0 a1 a2 a3 b0 b1 b2 b3 c0 c1 c2 c3 x y px py : Int) (cov : Bool) (wx : IntKind.i64.wrap (16 * x) = 16 * x) (wy : IntKind.i64.wrap (16 * y) = 16 * y) (wpx : IntKind.i64.wrap (16 * x + 8) = px) (wpy : IntKind.i64.wrap (16 * y + 8) = py)
    (hC : ∀ u : World, Calls Try.prog 43 #[.agg #[.int .i64 g0, .int .i64 g1, .int .i64 g2, .int .i64 g3, .int .i64 g4, .int .i64 g5], .agg #[.int .i64 px, .int .i64 py]] u fun e w' => e = .returned (.bool cov) ∧ Ext u w') (hcv : cov = true) (wt0 wt1 wt2 ar PD0 PD1 PD2 PN0 PN1 PN2 dd C0 C1 C2 C3 s1_0 s1_1 s1_2 s1_3 s2_0 s2_1 s2_2 s2_3 s3_0 s3_1 s3_2 s3_3 : Int)
    (hW0 : ∀ u : World, Calls Try.prog 28 #[.agg #[.int .i64 g2, .int .i64 g3], .agg #[.int .i64 g4, .int .i64 g5], .agg #[.int .i64 px, .int .i64 py]] u fun e w' => e = .returned (.int .i64 wt0) ∧ Ext u w')
    (hW1 : ∀ u : World, Calls Try.prog 28 #[.agg #[.int .i64 g4, .int .i64 g5], .agg #[.int .i64 g0, .int .i64 g1], .agg #[.int .i64 px, .int .i64 py]] u fun e w' => e = .returned (.int .i64 wt1) ∧ Ext u w')
    (hW2 : ∀ u : World, Calls Try.prog 28 #[.agg #[.int .i64 g0, .int .i64 g1], .agg #[.int .i64 g2, .int .i64 g3], .agg #[.int .i64 px, .int .i64 py]] u fun e w' => e = .returned (.int .i64 wt2) ∧ Ext u w')
    (hA : ∀ u : World, Calls Try.prog 28 #[.agg #[.int .i64 g0, .int .i64 g1], .agg #[.int .i64 g2, .int .i64 g3], .agg #[.int .i64 g4, .int .i64 g5]] u fun e w' => e = .returned (.int .i64 ar) ∧ Ext u w')
    (pd0 : wt0 * e0 = PD0) (bd0 : -1152921504606846976 ≤ PD0 ∧ PD0 ≤ 1152921504606846976) (pn0 : wt0 * n0 = PN0) (bn0 : -1152921504606846976 ≤ PN0 ∧ PN0 ≤ 1152921504606846976) (wn0 : IntKind.i64.wrap (wt0 * n0) = wt0 * n0)
    (wc00 : IntKind.i64.wrap (wt0 * n0 * a0) = wt0 * n0 * a0) (qc00 : IntKind.i64.wrap (0 + wt0 * n0 * a0) = s1_0)
    (wc01 : IntKind.i64.wrap (wt0 * n0 * a1) = wt0 * n0 * a1) (qc01 : IntKind.i64.wrap (0 + wt0 * n0 * a1) = s1_1)
    (wc02 : IntKind.i64.wrap (wt0 * n0 * a2) = wt0 * n0 * a2) (qc02 : IntKind.i64.wrap (0 + wt0 * n0 * a2) = s1_2)
    (wc03 : IntKind.i64.wrap (wt0 * n0 * a3) = wt0 * n0 * a3) (qc03 : IntKind.i64.wrap (0 + wt0 * n0 * a3) = s1_3)
    (pd1 : wt1 * e1 = PD1) (bd1 : -1152921504606846976 ≤ PD1 ∧ PD1 ≤ 1152921504606846976) (pn1 : wt1 * n1 = PN1) (bn1 : -1152921504606846976 ≤ PN1 ∧ PN1 ≤ 1152921504606846976) (wn1 : IntKind.i64.wrap (wt1 * n1) = wt1 * n1)
    (wc10 : IntKind.i64.wrap (wt1 * n1 * b0) = wt1 * n1 * b0) (qc10 : IntKind.i64.wrap (s1_0 + wt1 * n1 * b0) = s2_0)
    (wc11 : IntKind.i64.wrap (wt1 * n1 * b1) = wt1 * n1 * b1) (qc11 : IntKind.i64.wrap (s1_1 + wt1 * n1 * b1) = s2_1)
    (wc12 : IntKind.i64.wrap (wt1 * n1 * b2) = wt1 * n1 * b2) (qc12 : IntKind.i64.wrap (s1_2 + wt1 * n1 * b2) = s2_2)
    (wc13 : IntKind.i64.wrap (wt1 * n1 * b3) = wt1 * n1 * b3) (qc13 : IntKind.i64.wrap (s1_3 + wt1 * n1 * b3) = s2_3)
    (pd2 : wt2 * e2 = PD2) (bd2 : -1152921504606846976 ≤ PD2 ∧ PD2 ≤ 1152921504606846976) (pn2 : wt2 * n2 = PN2) (bn2 : -1152921504606846976 ≤ PN2 ∧ PN2 ≤ 1152921504606846976) (wn2 : IntKind.i64.wrap (wt2 * n2) = wt2 * n2)
    (wc20 : IntKind.i64.wrap (wt2 * n2 * c0) = wt2 * n2 * c0) (qc20 : IntKind.i64.wrap (s2_0 + wt2 * n2 * c0) = s3_0)
    (wc21 : IntKind.i64.wrap (wt2 * n2 * c1) = wt2 * n2 * c1) (qc21 : IntKind.i64.wrap (s2_1 + wt2 * n2 * c1) = s3_1)
    (wc22 : IntKind.i64.wrap (wt2 * n2 * c2) = wt2 * n2 * c2) (qc22 : IntKind.i64.wrap (s2_2 + wt2 * n2 * c2) = s3_2)
    (wc23 : IntKind.i64.wrap (wt2 * n2 * c3) = wt2 * n2 * c3) (qc23 : IntKind.i64.wrap (s2_3 + wt2 * n2 * c3) = s3_3)
    (nzA : ¬ PN0 + PN1 + PN2 = 0) (nza : ¬ ar = 0) (qdd : (PD0 + PD1 + PD2).tdiv ar = dd) (bdd : -1152921504606846976 ≤ dd ∧ dd ≤ 1152921504606846976) (qC0 : s3_0.tdiv (PN0 + PN1 + PN2) = C0) (bC0 : -1152921504606846976 ≤ C0 ∧ C0 ≤ 1152921504606846976) (qC1 : s3_1.tdiv (PN0 + PN1 + PN2) = C1) (bC1 : -1152921504606846976 ≤ C1 ∧ C1 ≤ 1152921504606846976) (qC2 : s3_2.tdiv (PN0 + PN1 + PN2) = C2) (bC2 : -1152921504606846976 ≤ C2 ∧ C2 ≤ 1152921504606846976) (qC3 : s3_3.tdiv (PN0 + PN1 + PN2) = C3) (bC3 : -1152921504606846976 ≤ C3 ∧ C3 ≤ 1152921504606846976) (w : World) : Calls Try.prog 20 #[.agg #[.int .i64 g0, .int .i64 g1, .int .i64 g2, .int .i64 g3, .int .i64 g4, .int .i64 g5, .int .i64 e0, .int .i64 e1, .int .i64 e2, .int .i64 n0, .int .i64 n1, .int .i64 n2, .int .i64 a0, .int .i64 a1, .int .i64 a2, .int .i64 a3, .int .i64 b0, .int .i64 b1, .int .i64 b2, .int .i64 b3, .int .i64 c0, .int .i64 c1, .int .i64 c2, .int .i64 c3], .int .i64 x, .int .i64 y] w fun e w' => e = .returned (.tuple #[.int .i64 dd, .agg #[.int .i64 C0, .int .i64 C1, .int .i64 C2, .int .i64 C3], .bool true]) ∧ Ext w w' := by
  subst hcv
  have HW0 := Lib.hid hW0
  have HW1 := Lib.hid hW1
  have HW2 := Lib.hid hW2
  have HA := Lib.hid hA
  clear hW0 hW1 hW2 hA
  have HQ00 := Lib.hid (And.intro wn0 (And.intro wc00 qc00))
  have HQ01 := Lib.hid (And.intro wn0 (And.intro wc01 qc01))
  have HQ02 := Lib.hid (And.intro wn0 (And.intro wc02 qc02))
  have HQ03 := Lib.hid (And.intro wn0 (And.intro wc03 qc03))
  have HQ10 := Lib.hid (And.intro wn1 (And.intro wc10 qc10))
  have HQ11 := Lib.hid (And.intro wn1 (And.intro wc11 qc11))
  have HQ12 := Lib.hid (And.intro wn1 (And.intro wc12 qc12))
  have HQ13 := Lib.hid (And.intro wn1 (And.intro wc13 qc13))
  have HQ20 := Lib.hid (And.intro wn2 (And.intro wc20 qc20))
  have HQ21 := Lib.hid (And.intro wn2 (And.intro wc21 qc21))
  have HQ22 := Lib.hid (And.intro wn2 (And.intro wc22 qc22))
  have HQ23 := Lib.hid (And.intro wn2 (And.intro wc23 qc23))
  clear wn0 wn1 wn2
  clear wc00 qc00 wc01 qc01 wc02 qc02 wc03 qc03 wc10 qc10 wc11 qc11 wc12 qc12 wc13 qc13 wc20 qc20 wc21 qc21 wc22 qc22 wc23 qc23
  have HC := Lib.hid hC
  clear hC
  have xx : Ext w ((w.alloc (.cells #[.int .i64 g0, .int .i64 g1, .int .i64 g2, .int .i64 g3, .int .i64 g4, .int .i64 g5, .int .i64 e0, .int .i64 e1, .int .i64 e2, .int .i64 n0, .int .i64 n1, .int .i64 n2, .int .i64 a0, .int .i64 a1, .int .i64 a2, .int .i64 a3, .int .i64 b0, .int .i64 b1, .int .i64 b2, .int .i64 b3, .int .i64 c0, .int .i64 c1, .int .i64 c2, .int .i64 c3] 42)).alloc (.cells #[.int .i64 0, .int .i64 0, .int .i64 0, .int .i64 0] 29)) := ((Ext.refl w).alloc _ _).alloc _ _
  have B3 := (Blk.new w #[.int .i64 g0, .int .i64 g1, .int .i64 g2, .int .i64 g3, .int .i64 g4, .int .i64 g5, .int .i64 e0, .int .i64 e1, .int .i64 e2, .int .i64 n0, .int .i64 n1, .int .i64 n2, .int .i64 a0, .int .i64 a1, .int .i64 a2, .int .i64 a3, .int .i64 b0, .int .i64 b1, .int .i64 b2, .int .i64 b3, .int .i64 c0, .int .i64 c1, .int .i64 c2, .int .i64 c3] 42).alloc (.cells #[.int .i64 0, .int .i64 0, .int .i64 0, .int .i64 0] 29)
  have B7 := Blk.new (w.alloc (.cells #[.int .i64 g0, .int .i64 g1, .int .i64 g2, .int .i64 g3, .int .i64 g4, .int .i64 g5, .int .i64 e0, .int .i64 e1, .int .i64 e2, .int .i64 n0, .int .i64 n1, .int .i64 n2, .int .i64 a0, .int .i64 a1, .int .i64 a2, .int .i64 a3, .int .i64 b0, .int .i64 b1, .int .i64 b2, .int .i64 b3, .int .i64 c0, .int .i64 c1, .int .i64 c2, .int .i64 c3] 42)) #[.int .i64 0, .int .i64 0, .int .i64 0, .int .i64 0] 29
  go_enter Try.func20, Try.ntmps20
  go_upto_region 1 with fail
  simp only [World.size_alloc] at B7
  generalize ((w.alloc (.cells #[.int .i64 g0, .int .i64 g1, .int .i64 g2, .int .i64 g3, .int .i64 g4, .int .i64 g5, .int .i64 e0, .int .i64 e1, .int .i64 e2, .int .i64 n0, .int .i64 n1, .int .i64 n2, .int .i64 a0, .int .i64 a1, .int .i64 a2, .int .i64 a3, .int .i64 b0, .int .i64 b1, .int .i64 b2, .int .i64 b3, .int .i64 c0, .int .i64 c1, .int .i64 c2, .int .i64 c3] 42)).alloc (.cells #[.int .i64 0, .int .i64 0, .int .i64 0, .int .i64 0] 29)) = w1 at *
  have B9 := (Blk.new w1 #[.int .i64 0, .int .i64 0] 37).setRow #[.int .i64 px, .int .i64 py]
  have y9 : Ext w1 ((w1.alloc (.cells #[.int .i64 0, .int .i64 0] 37)).setRow w1.heap.size #[.int .i64 px, .int .i64 py]) := ((Ext.refl _).alloc _ _).setRow (Nat.le_refl _) _
  go_upto_region 2 with (first
    | ((with_reducible refine wpList_store_blk (op := ⟨none, .store 37 (.tmp 9) (.tmp 23), _, _, _, _⟩) ?_ 37 (.tmp 9) (.tmp 23) ?_ (w1.heap.size) ?_ (cs := #[.int .i64 px, .int .i64 py]) ?_ (z := #[.int .i64 0, .int .i64 0]) (T := 37) ?_ ?_ ?_ ?_ ?_); rfl; rfl; rfl; rfl; exact Blk.new w1 _ _; kernel_rfl; kernel_rfl; kernel_rfl)
    | fail)
  simp only [Act.put]
  have hb9 := B7.lt
  have xx := xx.trans y9
  have B3 := B3.ext y9
  have B7 := B7.ext y9
  clear y9
  generalize (w1.alloc (.cells #[.int .i64 0, .int .i64 0] 37)).setRow w1.heap.size #[.int .i64 px, .int .i64 py] = w2 at *
  generalize w1.heap.size = k9 at *
  have B10 := Blk.new w2 #[.int .i64 0, .int .i64 0, .int .i64 0, .int .i64 0] 29
  have y10 : Ext w2 (w2.alloc (.cells #[.int .i64 0, .int .i64 0, .int .i64 0, .int .i64 0] 29)) := (Ext.refl _).alloc _ _
  go_upto_region 3 with fail
  have hb10 := B9.lt
  have xx := xx.trans y10
  have B3 := B3.ext y10
  have B7 := B7.ext y10
  have B9 := B9.ext y10
  clear y10
  generalize w2.alloc (.cells #[.int .i64 0, .int .i64 0, .int .i64 0, .int .i64 0] 29) = w3 at *
  generalize w2.heap.size = k10 at *
  have R := Lib.hid (B3.mid13 0 [.int .i64 g0, .int .i64 g1, .int .i64 g2, .int .i64 g3, .int .i64 g4, .int .i64 g5] rfl)
  go_wp2_with (first
    | ((with_reducible refine wpList_load_mid (op := ⟨some 25, _, _, _, _, _⟩) ?_ 38 (.tmp 24) ?_ w.heap.size 0 ?_ [.int .i64 g0, .int .i64 g1, .int .i64 g2, .int .i64 g3, .int .i64 g4, .int .i64 g5] _ R.out Try.underlying38 ?_ ?_ ?_); rfl; rfl; rfl; rfl; kernel_rfl)
    | ((with_reducible refine wpList_load_blk (op := ⟨some 26, _, _, _, _, _⟩) ?_ 37 (.tmp 9) ?_ (k9) ?_ (z := _) (T := 37) B9 Try.underlying37 ?_ ?_ ?_); rfl; rfl; rfl; rfl; kernel_rfl)
    | fail)
  refine (HC.out _).mono ?_
  rintro e w4 ⟨rfl, x4⟩
  have xx := xx.trans x4
  have B3 := B3.ext x4
  have B7 := B7.ext x4
  have B9 := B9.ext x4
  have B10 := B10.ext x4
  clear x4 HC R
  go_wp2_with fail
  refine wp_loop_rounds 4 ?_
  rw [rounds_succ]
  go_upto_region 9 with fail
  apply wp_region_reads2 _ (by kernel_rfl) (by kernel_rfl)
  case H =>
    intro y0 hy0
    have hne : Nonempty (Wx y0) := ⟨⟨y0, Ext.refl y0⟩⟩
    have q3 := fun (t : Wx y0) => (B3.ext (hy0.trans t.ext)).cell
    have q4 := fun (t : Wx y0) => (B9.ext (hy0.trans t.ext)).cell
    repeat (go_big_quiet_step ((go_at_call 28; with_reducible exact calm_of (HW0.out _))))
    exact wpQuiet_nil rfl
  intro w6_0 x6
  have xx := xx.trans x6
  have B3 := B3.ext x6
  have B7 := B7.ext x6
  have B9 := B9.ext x6
  have B10 := B10.ext x6
  clear x6
  have cc3 := B3.cell
  go_wp2_with fail
  clear cc3
  refine wp_loop_rounds 5 ?_
  rw [rounds_succ]
  go_upto_region 15 with fail
  refine rat_r15 _ _ _ _ _ _ _ _ _ _ _ _ _ _ _ _ _ _ _ _ _ _ _ _ _ _ _ _ _ _ _ _ _ _ _ _ _ _ _ _ _ _ _ _ _ _ _ _ _ _ _ _ _ _ _ _ _ _ _ _ _ _ _ _ _ _ _ _ _ _ _ _ _ _ _ _ _ _ _ _ _ _ _ _ _ _ _ _ _ _ _ _ _ _ _ _ _ _ _ _ _ _ _ _ _ _ w.heap.size k10 0 0 0 wt0 n0 a0 s1_0 #[.int .i64 g0, .int .i64 g1, .int .i64 g2, .int .i64 g3, .int .i64 g4, .int .i64 g5, .int .i64 e0, .int .i64 e1, .int .i64 e2, .int .i64 n0, .int .i64 n1, .int .i64 n2, .int .i64 a0, .int .i64 a1, .int .i64 a2, .int .i64 a3, .int .i64 b0, .int .i64 b1, .int .i64 b2, .int .i64 b3, .int .i64 c0, .int .i64 c1, .int .i64 c2, .int .i64 c3] #[.int .i64 0, .int .i64 0, .int .i64 0, .int .i64 0] _ B3 B10 (by omega) (by omega) rfl rfl rfl HQ00.out.1 HQ00.out.2.1 HQ00.out.2.2 ?_
  intro d68 d69 d70 d71 d72 d73 d74 d75 d76 d77 d78 d79 d80 d81 d82 d83 d84 d85 d86 w7_00 cx B10'
  have B10 : Blk w7_00 k10 #[.int .i64 s1_0, .int .i64 0, .int .i64 0, .int .i64 0] 29 := by simpa using B10'
  have B3 := B3.calm cx (by simp; omega)
  have B7 := B7.calm cx (by simp; omega)
  have B9 := B9.calm cx (by simp; omega)
  have xx := Ext.calm_trans xx cx (by simp; omega)
  clear B10' cx
  go_wp2_with fail
  rw [rounds_succ]
  go_upto_region 15 with fail
  refine rat_r15 _ _ _ _ _ _ _ _ _ _ _ _ _ _ _ _ _ _ _ _ _ _ _ _ _ _ _ _ _ _ _ _ _ _ _ _ _ _ _ _ _ _ _ _ _ _ _ _ _ _ _ _ _ _ _ _ _ _ _ _ _ _ _ _ _ _ _ _ _ _ _ _ _ _ _ _ _ _ _ _ _ _ _ _ _ _ _ _ _ _ _ _ _ _ _ _ _ _ _ _ _ _ _ _ _ _ w.heap.size k10 0 1 0 wt0 n0 a1 s1_1 #[.int .i64 g0, .int .i64 g1, .int .i64 g2, .int .i64 g3, .int .i64 g4, .int .i64 g5, .int .i64 e0, .int .i64 e1, .int .i64 e2, .int .i64 n0, .int .i64 n1, .int .i64 n2, .int .i64 a0, .int .i64 a1, .int .i64 a2, .int .i64 a3, .int .i64 b0, .int .i64 b1, .int .i64 b2, .int .i64 b3, .int .i64 c0, .int .i64 c1, .int .i64 c2, .int .i64 c3] #[.int .i64 s1_0, .int .i64 0, .int .i64 0, .int .i64 0] _ B3 B10 (by omega) (by omega) rfl rfl rfl HQ01.out.1 HQ01.out.2.1 HQ01.out.2.2 ?_
  intro d68 d69 d70 d71 d72 d73 d74 d75 d76 d77 d78 d79 d80 d81 d82 d83 d84 d85 d86 w7_01 cx B10'
  have B10 : Blk w7_01 k10 #[.int .i64 s1_0, .int .i64 s1_1, .int .i64 0, .int .i64 0] 29 := by simpa using B10'
  have B3 := B3.calm cx (by simp; omega)
  have B7 := B7.calm cx (by simp; omega)
  have B9 := B9.calm cx (by simp; omega)
  have xx := Ext.calm_trans xx cx (by simp; omega)
  clear B10' cx
  go_wp2_with fail
  rw [rounds_succ]
  go_upto_region 15 with fail
  refine rat_r15 _ _ _ _ _ _ _ _ _ _ _ _ _ _ _ _ _ _ _ _ _ _ _ _ _ _ _ _ _ _ _ _ _ _ _ _ _ _ _ _ _ _ _ _ _ _ _ _ _ _ _ _ _ _ _ _ _ _ _ _ _ _ _ _ _ _ _ _ _ _ _ _ _ _ _ _ _ _ _ _ _ _ _ _ _ _ _ _ _ _ _ _ _ _ _ _ _ _ _ _ _ _ _ _ _ _ w.heap.size k10 0 2 0 wt0 n0 a2 s1_2 #[.int .i64 g0, .int .i64 g1, .int .i64 g2, .int .i64 g3, .int .i64 g4, .int .i64 g5, .int .i64 e0, .int .i64 e1, .int .i64 e2, .int .i64 n0, .int .i64 n1, .int .i64 n2, .int .i64 a0, .int .i64 a1, .int .i64 a2, .int .i64 a3, .int .i64 b0, .int .i64 b1, .int .i64 b2, .int .i64 b3, .int .i64 c0, .int .i64 c1, .int .i64 c2, .int .i64 c3] #[.int .i64 s1_0, .int .i64 s1_1, .int .i64 0, .int .i64 0] _ B3 B10 (by omega) (by omega) rfl rfl rfl HQ02.out.1 HQ02.out.2.1 HQ02.out.2.2 ?_
  intro d68 d69 d70 d71 d72 d73 d74 d75 d76 d77 d78 d79 d80 d81 d82 d83 d84 d85 d86 w7_02 cx B10'
  have B10 : Blk w7_02 k10 #[.int .i64 s1_0, .int .i64 s1_1, .int .i64 s1_2, .int .i64 0] 29 := by simpa using B10'
  have B3 := B3.calm cx (by simp; omega)
  have B7 := B7.calm cx (by simp; omega)
  have B9 := B9.calm cx (by simp; omega)
  have xx := Ext.calm_trans xx cx (by simp; omega)
  clear B10' cx
  go_wp2_with fail
  rw [rounds_succ]
  go_upto_region 15 with fail
  refine rat_r15 _ _ _ _ _ _ _ _ _ _ _ _ _ _ _ _ _ _ _ _ _ _ _ _ _ _ _ _ _ _ _ _ _ _ _ _ _ _ _ _ _ _ _ _ _ _ _ _ _ _ _ _ _ _ _ _ _ _ _ _ _ _ _ _ _ _ _ _ _ _ _ _ _ _ _ _ _ _ _ _ _ _ _ _ _ _ _ _ _ _ _ _ _ _ _ _ _ _ _ _ _ _ _ _ _ _ w.heap.size k10 0 3 0 wt0 n0 a3 s1_3 #[.int .i64 g0, .int .i64 g1, .int .i64 g2, .int .i64 g3, .int .i64 g4, .int .i64 g5, .int .i64 e0, .int .i64 e1, .int .i64 e2, .int .i64 n0, .int .i64 n1, .int .i64 n2, .int .i64 a0, .int .i64 a1, .int .i64 a2, .int .i64 a3, .int .i64 b0, .int .i64 b1, .int .i64 b2, .int .i64 b3, .int .i64 c0, .int .i64 c1, .int .i64 c2, .int .i64 c3] #[.int .i64 s1_0, .int .i64 s1_1, .int .i64 s1_2, .int .i64 0] _ B3 B10 (by omega) (by omega) rfl rfl rfl HQ03.out.1 HQ03.out.2.1 HQ03.out.2.2 ?_
  intro d68 d69 d70 d71 d72 d73 d74 d75 d76 d77 d78 d79 d80 d81 d82 d83 d84 d85 d86 w7_03 cx B10'
  have B10 : Blk w7_03 k10 #[.int .i64 s1_0, .int .i64 s1_1, .int .i64 s1_2, .int .i64 s1_3] 29 := by simpa using B10'
  have B3 := B3.calm cx (by simp; omega)
  have B7 := B7.calm cx (by simp; omega)
  have B9 := B9.calm cx (by simp; omega)
  have xx := Ext.calm_trans xx cx (by simp; omega)
  clear B10' cx
  go_wp2_with fail
  rw [rounds_succ]
  go_wp2_with fail
  rw [rounds_succ]
  go_upto_region 9 with fail
  apply wp_region_reads2 _ (by kernel_rfl) (by kernel_rfl)
  case H =>
    intro y0 hy0
    have hne : Nonempty (Wx y0) := ⟨⟨y0, Ext.refl y0⟩⟩
    have q3 := fun (t : Wx y0) => (B3.ext (hy0.trans t.ext)).cell
    have q4 := fun (t : Wx y0) => (B9.ext (hy0.trans t.ext)).cell
    repeat (go_big_quiet_step ((go_at_call 28; with_reducible exact calm_of (HW1.out _))))
    exact wpQuiet_nil rfl
  intro w6_1 x6
  have xx := xx.trans x6
  have B3 := B3.ext x6
  have B7 := B7.ext x6
  have B9 := B9.ext x6
  have B10 := B10.ext x6
  clear x6
  have cc3 := B3.cell
  go_wp2_with fail
  clear cc3
  refine wp_loop_rounds 5 ?_
  rw [rounds_succ]
  go_upto_region 15 with fail
  refine rat_r15 _ _ _ _ _ _ _ _ _ _ _ _ _ _ _ _ _ _ _ _ _ _ _ _ _ _ _ _ _ _ _ _ _ _ _ _ _ _ _ _ _ _ _ _ _ _ _ _ _ _ _ _ _ _ _ _ _ _ _ _ _ _ _ _ _ _ _ _ _ _ _ _ _ _ _ _ _ _ _ _ _ _ _ _ _ _ _ _ _ _ _ _ _ _ _ _ _ _ _ _ _ _ _ _ _ _ w.heap.size k10 1 0 s1_0 wt1 n1 b0 s2_0 #[.int .i64 g0, .int .i64 g1, .int .i64 g2, .int .i64 g3, .int .i64 g4, .int .i64 g5, .int .i64 e0, .int .i64 e1, .int .i64 e2, .int .i64 n0, .int .i64 n1, .int .i64 n2, .int .i64 a0, .int .i64 a1, .int .i64 a2, .int .i64 a3, .int .i64 b0, .int .i64 b1, .int .i64 b2, .int .i64 b3, .int .i64 c0, .int .i64 c1, .int .i64 c2, .int .i64 c3] #[.int .i64 s1_0, .int .i64 s1_1, .int .i64 s1_2, .int .i64 s1_3] _ B3 B10 (by omega) (by omega) rfl rfl rfl HQ10.out.1 HQ10.out.2.1 HQ10.out.2.2 ?_
  intro d68 d69 d70 d71 d72 d73 d74 d75 d76 d77 d78 d79 d80 d81 d82 d83 d84 d85 d86 w7_10 cx B10'
  have B10 : Blk w7_10 k10 #[.int .i64 s2_0, .int .i64 s1_1, .int .i64 s1_2, .int .i64 s1_3] 29 := by simpa using B10'
  have B3 := B3.calm cx (by simp; omega)
  have B7 := B7.calm cx (by simp; omega)
  have B9 := B9.calm cx (by simp; omega)
  have xx := Ext.calm_trans xx cx (by simp; omega)
  clear B10' cx
  go_wp2_with fail
  rw [rounds_succ]
  go_upto_region 15 with fail
  refine rat_r15 _ _ _ _ _ _ _ _ _ _ _ _ _ _ _ _ _ _ _ _ _ _ _ _ _ _ _ _ _ _ _ _ _ _ _ _ _ _ _ _ _ _ _ _ _ _ _ _ _ _ _ _ _ _ _ _ _ _ _ _ _ _ _ _ _ _ _ _ _ _ _ _ _ _ _ _ _ _ _ _ _ _ _ _ _ _ _ _ _ _ _ _ _ _ _ _ _ _ _ _ _ _ _ _ _ _ w.heap.size k10 1 1 s1_1 wt1 n1 b1 s2_1 #[.int .i64 g0, .int .i64 g1, .int .i64 g2, .int .i64 g3, .int .i64 g4, .int .i64 g5, .int .i64 e0, .int .i64 e1, .int .i64 e2, .int .i64 n0, .int .i64 n1, .int .i64 n2, .int .i64 a0, .int .i64 a1, .int .i64 a2, .int .i64 a3, .int .i64 b0, .int .i64 b1, .int .i64 b2, .int .i64 b3, .int .i64 c0, .int .i64 c1, .int .i64 c2, .int .i64 c3] #[.int .i64 s2_0, .int .i64 s1_1, .int .i64 s1_2, .int .i64 s1_3] _ B3 B10 (by omega) (by omega) rfl rfl rfl HQ11.out.1 HQ11.out.2.1 HQ11.out.2.2 ?_
  intro d68 d69 d70 d71 d72 d73 d74 d75 d76 d77 d78 d79 d80 d81 d82 d83 d84 d85 d86 w7_11 cx B10'
  have B10 : Blk w7_11 k10 #[.int .i64 s2_0, .int .i64 s2_1, .int .i64 s1_2, .int .i64 s1_3] 29 := by simpa using B10'
  have B3 := B3.calm cx (by simp; omega)
  have B7 := B7.calm cx (by simp; omega)
  have B9 := B9.calm cx (by simp; omega)
  have xx := Ext.calm_trans xx cx (by simp; omega)
  clear B10' cx
  go_wp2_with fail
  rw [rounds_succ]
  go_upto_region 15 with fail
  refine rat_r15 _ _ _ _ _ _ _ _ _ _ _ _ _ _ _ _ _ _ _ _ _ _ _ _ _ _ _ _ _ _ _ _ _ _ _ _ _ _ _ _ _ _ _ _ _ _ _ _ _ _ _ _ _ _ _ _ _ _ _ _ _ _ _ _ _ _ _ _ _ _ _ _ _ _ _ _ _ _ _ _ _ _ _ _ _ _ _ _ _ _ _ _ _ _ _ _ _ _ _ _ _ _ _ _ _ _ w.heap.size k10 1 2 s1_2 wt1 n1 b2 s2_2 #[.int .i64 g0, .int .i64 g1, .int .i64 g2, .int .i64 g3, .int .i64 g4, .int .i64 g5, .int .i64 e0, .int .i64 e1, .int .i64 e2, .int .i64 n0, .int .i64 n1, .int .i64 n2, .int .i64 a0, .int .i64 a1, .int .i64 a2, .int .i64 a3, .int .i64 b0, .int .i64 b1, .int .i64 b2, .int .i64 b3, .int .i64 c0, .int .i64 c1, .int .i64 c2, .int .i64 c3] #[.int .i64 s2_0, .int .i64 s2_1, .int .i64 s1_2, .int .i64 s1_3] _ B3 B10 (by omega) (by omega) rfl rfl rfl HQ12.out.1 HQ12.out.2.1 HQ12.out.2.2 ?_
  intro d68 d69 d70 d71 d72 d73 d74 d75 d76 d77 d78 d79 d80 d81 d82 d83 d84 d85 d86 w7_12 cx B10'
  have B10 : Blk w7_12 k10 #[.int .i64 s2_0, .int .i64 s2_1, .int .i64 s2_2, .int .i64 s1_3] 29 := by simpa using B10'
  have B3 := B3.calm cx (by simp; omega)
  have B7 := B7.calm cx (by simp; omega)
  have B9 := B9.calm cx (by simp; omega)
  have xx := Ext.calm_trans xx cx (by simp; omega)
  clear B10' cx
  go_wp2_with fail
  rw [rounds_succ]
  go_upto_region 15 with fail
  refine rat_r15 _ _ _ _ _ _ _ _ _ _ _ _ _ _ _ _ _ _ _ _ _ _ _ _ _ _ _ _ _ _ _ _ _ _ _ _ _ _ _ _ _ _ _ _ _ _ _ _ _ _ _ _ _ _ _ _ _ _ _ _ _ _ _ _ _ _ _ _ _ _ _ _ _ _ _ _ _ _ _ _ _ _ _ _ _ _ _ _ _ _ _ _ _ _ _ _ _ _ _ _ _ _ _ _ _ _ w.heap.size k10 1 3 s1_3 wt1 n1 b3 s2_3 #[.int .i64 g0, .int .i64 g1, .int .i64 g2, .int .i64 g3, .int .i64 g4, .int .i64 g5, .int .i64 e0, .int .i64 e1, .int .i64 e2, .int .i64 n0, .int .i64 n1, .int .i64 n2, .int .i64 a0, .int .i64 a1, .int .i64 a2, .int .i64 a3, .int .i64 b0, .int .i64 b1, .int .i64 b2, .int .i64 b3, .int .i64 c0, .int .i64 c1, .int .i64 c2, .int .i64 c3] #[.int .i64 s2_0, .int .i64 s2_1, .int .i64 s2_2, .int .i64 s1_3] _ B3 B10 (by omega) (by omega) rfl rfl rfl HQ13.out.1 HQ13.out.2.1 HQ13.out.2.2 ?_
  intro d68 d69 d70 d71 d72 d73 d74 d75 d76 d77 d78 d79 d80 d81 d82 d83 d84 d85 d86 w7_13 cx B10'
  have B10 : Blk w7_13 k10 #[.int .i64 s2_0, .int .i64 s2_1, .int .i64 s2_2, .int .i64 s2_3] 29 := by simpa using B10'
  have B3 := B3.calm cx (by simp; omega)
  have B7 := B7.calm cx (by simp; omega)
  have B9 := B9.calm cx (by simp; omega)
  have xx := Ext.calm_trans xx cx (by simp; omega)
  clear B10' cx
  go_wp2_with fail
  rw [rounds_succ]
  go_wp2_with fail
  rw [rounds_succ]
  go_upto_region 9 with fail
  apply wp_region_reads2 _ (by kernel_rfl) (by kernel_rfl)
  case H =>
    intro y0 hy0
    have hne : Nonempty (Wx y0) := ⟨⟨y0, Ext.refl y0⟩⟩
    have q3 := fun (t : Wx y0) => (B3.ext (hy0.trans t.ext)).cell
    have q4 := fun (t : Wx y0) => (B9.ext (hy0.trans t.ext)).cell
    repeat (go_big_quiet_step ((go_at_call 28; with_reducible exact calm_of (HW2.out _))))
    exact wpQuiet_nil rfl
  intro w6_2 x6
  have xx := xx.trans x6
  have B3 := B3.ext x6
  have B7 := B7.ext x6
  have B9 := B9.ext x6
  have B10 := B10.ext x6
  clear x6
  have cc3 := B3.cell
  go_wp2_with fail
  clear cc3
  refine wp_loop_rounds 5 ?_
  rw [rounds_succ]
  go_upto_region 15 with fail
  refine rat_r15 _ _ _ _ _ _ _ _ _ _ _ _ _ _ _ _ _ _ _ _ _ _ _ _ _ _ _ _ _ _ _ _ _ _ _ _ _ _ _ _ _ _ _ _ _ _ _ _ _ _ _ _ _ _ _ _ _ _ _ _ _ _ _ _ _ _ _ _ _ _ _ _ _ _ _ _ _ _ _ _ _ _ _ _ _ _ _ _ _ _ _ _ _ _ _ _ _ _ _ _ _ _ _ _ _ _ w.heap.size k10 2 0 s2_0 wt2 n2 c0 s3_0 #[.int .i64 g0, .int .i64 g1, .int .i64 g2, .int .i64 g3, .int .i64 g4, .int .i64 g5, .int .i64 e0, .int .i64 e1, .int .i64 e2, .int .i64 n0, .int .i64 n1, .int .i64 n2, .int .i64 a0, .int .i64 a1, .int .i64 a2, .int .i64 a3, .int .i64 b0, .int .i64 b1, .int .i64 b2, .int .i64 b3, .int .i64 c0, .int .i64 c1, .int .i64 c2, .int .i64 c3] #[.int .i64 s2_0, .int .i64 s2_1, .int .i64 s2_2, .int .i64 s2_3] _ B3 B10 (by omega) (by omega) rfl rfl rfl HQ20.out.1 HQ20.out.2.1 HQ20.out.2.2 ?_
  intro d68 d69 d70 d71 d72 d73 d74 d75 d76 d77 d78 d79 d80 d81 d82 d83 d84 d85 d86 w7_20 cx B10'
  have B10 : Blk w7_20 k10 #[.int .i64 s3_0, .int .i64 s2_1, .int .i64 s2_2, .int .i64 s2_3] 29 := by simpa using B10'
  have B3 := B3.calm cx (by simp; omega)
  have B7 := B7.calm cx (by simp; omega)
  have B9 := B9.calm cx (by simp; omega)
  have xx := Ext.calm_trans xx cx (by simp; omega)
  clear B10' cx
  go_wp2_with fail
  rw [rounds_succ]
  go_upto_region 15 with fail
  refine rat_r15 _ _ _ _ _ _ _ _ _ _ _ _ _ _ _ _ _ _ _ _ _ _ _ _ _ _ _ _ _ _ _ _ _ _ _ _ _ _ _ _ _ _ _ _ _ _ _ _ _ _ _ _ _ _ _ _ _ _ _ _ _ _ _ _ _ _ _ _ _ _ _ _ _ _ _ _ _ _ _ _ _ _ _ _ _ _ _ _ _ _ _ _ _ _ _ _ _ _ _ _ _ _ _ _ _ _ w.heap.size k10 2 1 s2_1 wt2 n2 c1 s3_1 #[.int .i64 g0, .int .i64 g1, .int .i64 g2, .int .i64 g3, .int .i64 g4, .int .i64 g5, .int .i64 e0, .int .i64 e1, .int .i64 e2, .int .i64 n0, .int .i64 n1, .int .i64 n2, .int .i64 a0, .int .i64 a1, .int .i64 a2, .int .i64 a3, .int .i64 b0, .int .i64 b1, .int .i64 b2, .int .i64 b3, .int .i64 c0, .int .i64 c1, .int .i64 c2, .int .i64 c3] #[.int .i64 s3_0, .int .i64 s2_1, .int .i64 s2_2, .int .i64 s2_3] _ B3 B10 (by omega) (by omega) rfl rfl rfl HQ21.out.1 HQ21.out.2.1 HQ21.out.2.2 ?_
  intro d68 d69 d70 d71 d72 d73 d74 d75 d76 d77 d78 d79 d80 d81 d82 d83 d84 d85 d86 w7_21 cx B10'
  have B10 : Blk w7_21 k10 #[.int .i64 s3_0, .int .i64 s3_1, .int .i64 s2_2, .int .i64 s2_3] 29 := by simpa using B10'
  have B3 := B3.calm cx (by simp; omega)
  have B7 := B7.calm cx (by simp; omega)
  have B9 := B9.calm cx (by simp; omega)
  have xx := Ext.calm_trans xx cx (by simp; omega)
  clear B10' cx
  go_wp2_with fail
  rw [rounds_succ]
  go_upto_region 15 with fail
  refine rat_r15 _ _ _ _ _ _ _ _ _ _ _ _ _ _ _ _ _ _ _ _ _ _ _ _ _ _ _ _ _ _ _ _ _ _ _ _ _ _ _ _ _ _ _ _ _ _ _ _ _ _ _ _ _ _ _ _ _ _ _ _ _ _ _ _ _ _ _ _ _ _ _ _ _ _ _ _ _ _ _ _ _ _ _ _ _ _ _ _ _ _ _ _ _ _ _ _ _ _ _ _ _ _ _ _ _ _ w.heap.size k10 2 2 s2_2 wt2 n2 c2 s3_2 #[.int .i64 g0, .int .i64 g1, .int .i64 g2, .int .i64 g3, .int .i64 g4, .int .i64 g5, .int .i64 e0, .int .i64 e1, .int .i64 e2, .int .i64 n0, .int .i64 n1, .int .i64 n2, .int .i64 a0, .int .i64 a1, .int .i64 a2, .int .i64 a3, .int .i64 b0, .int .i64 b1, .int .i64 b2, .int .i64 b3, .int .i64 c0, .int .i64 c1, .int .i64 c2, .int .i64 c3] #[.int .i64 s3_0, .int .i64 s3_1, .int .i64 s2_2, .int .i64 s2_3] _ B3 B10 (by omega) (by omega) rfl rfl rfl HQ22.out.1 HQ22.out.2.1 HQ22.out.2.2 ?_
  intro d68 d69 d70 d71 d72 d73 d74 d75 d76 d77 d78 d79 d80 d81 d82 d83 d84 d85 d86 w7_22 cx B10'
  have B10 : Blk w7_22 k10 #[.int .i64 s3_0, .int .i64 s3_1, .int .i64 s3_2, .int .i64 s2_3] 29 := by simpa using B10'
  have B3 := B3.calm cx (by simp; omega)
  have B7 := B7.calm cx (by simp; omega)
  have B9 := B9.calm cx (by simp; omega)
  have xx := Ext.calm_trans xx cx (by simp; omega)
  clear B10' cx
  go_wp2_with fail
  rw [rounds_succ]
  go_upto_region 15 with fail
  refine rat_r15 _ _ _ _ _ _ _ _ _ _ _ _ _ _ _ _ _ _ _ _ _ _ _ _ _ _ _ _ _ _ _ _ _ _ _ _ _ _ _ _ _ _ _ _ _ _ _ _ _ _ _ _ _ _ _ _ _ _ _ _ _ _ _ _ _ _ _ _ _ _ _ _ _ _ _ _ _ _ _ _ _ _ _ _ _ _ _ _ _ _ _ _ _ _ _ _ _ _ _ _ _ _ _ _ _ _ w.heap.size k10 2 3 s2_3 wt2 n2 c3 s3_3 #[.int .i64 g0, .int .i64 g1, .int .i64 g2, .int .i64 g3, .int .i64 g4, .int .i64 g5, .int .i64 e0, .int .i64 e1, .int .i64 e2, .int .i64 n0, .int .i64 n1, .int .i64 n2, .int .i64 a0, .int .i64 a1, .int .i64 a2, .int .i64 a3, .int .i64 b0, .int .i64 b1, .int .i64 b2, .int .i64 b3, .int .i64 c0, .int .i64 c1, .int .i64 c2, .int .i64 c3] #[.int .i64 s3_0, .int .i64 s3_1, .int .i64 s3_2, .int .i64 s2_3] _ B3 B10 (by omega) (by omega) rfl rfl rfl HQ23.out.1 HQ23.out.2.1 HQ23.out.2.2 ?_
  intro d68 d69 d70 d71 d72 d73 d74 d75 d76 d77 d78 d79 d80 d81 d82 d83 d84 d85 d86 w7_23 cx B10'
  have B10 : Blk w7_23 k10 #[.int .i64 s3_0, .int .i64 s3_1, .int .i64 s3_2, .int .i64 s3_3] 29 := by simpa using B10'
  have B3 := B3.calm cx (by simp; omega)
  have B7 := B7.calm cx (by simp; omega)
  have B9 := B9.calm cx (by simp; omega)
  have xx := Ext.calm_trans xx cx (by simp; omega)
  clear B10' cx
  go_wp2_with fail
  rw [rounds_succ]
  go_wp2_with fail
  rw [rounds_succ]
  go_wp2_with fail
  refine wp_loop_rounds 5 ?_
  rw [rounds_succ]
  have cc10 := B10.cell
  have ff10 := B10.frozen
  go_upto_region 18 with fail
  have B10 : Blk (w7_23.setCell ⟨k10, 0, none⟩ (.int .i64 C0)) k10 #[.int .i64 C0, .int .i64 s3_1, .int .i64 s3_2, .int .i64 s3_3] 29 := by simpa using B10.set 0 (.int .i64 C0)
  have B3 := B3.far (p := ⟨k10, 0, none⟩) (by simp only; omega) (.int .i64 C0)
  have B7 := B7.far (p := ⟨k10, 0, none⟩) (by simp only; omega) (.int .i64 C0)
  have xx := xx.setCell (p := ⟨k10, 0, none⟩) (by simp only; omega) (.int .i64 C0)
  clear cc10 ff10
  generalize w7_23.setCell ⟨k10, 0, none⟩ (.int .i64 C0) = w8_0 at *
  go_wp2_with fail
  rw [rounds_succ]
  have cc10 := B10.cell
  have ff10 := B10.frozen
  go_upto_region 18 with fail
  have B10 : Blk (w8_0.setCell ⟨k10, 1, none⟩ (.int .i64 C1)) k10 #[.int .i64 C0, .int .i64 C1, .int .i64 s3_2, .int .i64 s3_3] 29 := by simpa using B10.set 1 (.int .i64 C1)
  have B3 := B3.far (p := ⟨k10, 1, none⟩) (by simp only; omega) (.int .i64 C1)
  have B7 := B7.far (p := ⟨k10, 1, none⟩) (by simp only; omega) (.int .i64 C1)
  have xx := xx.setCell (p := ⟨k10, 1, none⟩) (by simp only; omega) (.int .i64 C1)
  clear cc10 ff10
  generalize w8_0.setCell ⟨k10, 1, none⟩ (.int .i64 C1) = w8_1 at *
  go_wp2_with fail
  rw [rounds_succ]
  have cc10 := B10.cell
  have ff10 := B10.frozen
  go_upto_region 18 with fail
  have B10 : Blk (w8_1.setCell ⟨k10, 2, none⟩ (.int .i64 C2)) k10 #[.int .i64 C0, .int .i64 C1, .int .i64 C2, .int .i64 s3_3] 29 := by simpa using B10.set 2 (.int .i64 C2)
  have B3 := B3.far (p := ⟨k10, 2, none⟩) (by simp only; omega) (.int .i64 C2)
  have B7 := B7.far (p := ⟨k10, 2, none⟩) (by simp only; omega) (.int .i64 C2)
  have xx := xx.setCell (p := ⟨k10, 2, none⟩) (by simp only; omega) (.int .i64 C2)
  clear cc10 ff10
  generalize w8_1.setCell ⟨k10, 2, none⟩ (.int .i64 C2) = w8_2 at *
  go_wp2_with fail
  rw [rounds_succ]
  have cc10 := B10.cell
  have ff10 := B10.frozen
  go_upto_region 18 with fail
  have B10 : Blk (w8_2.setCell ⟨k10, 3, none⟩ (.int .i64 C3)) k10 #[.int .i64 C0, .int .i64 C1, .int .i64 C2, .int .i64 C3] 29 := by simpa using B10.set 3 (.int .i64 C3)
  have B3 := B3.far (p := ⟨k10, 3, none⟩) (by simp only; omega) (.int .i64 C3)
  have B7 := B7.far (p := ⟨k10, 3, none⟩) (by simp only; omega) (.int .i64 C3)
  have xx := xx.setCell (p := ⟨k10, 3, none⟩) (by simp only; omega) (.int .i64 C3)
  clear cc10 ff10
  generalize w8_2.setCell ⟨k10, 3, none⟩ (.int .i64 C3) = w8_3 at *
  go_wp2_with fail
  rw [rounds_succ]
  go_upto_region 20 with fail
  apply wp_region_vars [false, false, false, false, false, false, false, false, false, false, false, false, false, false, true, false] [w.heap.size + 1] [⟨none, 0, w.heap.size + 1, some 14, 29, #[.int .i64 0, .int .i64 0, .int .i64 0, .int .i64 0], #[.int .i64 C0, .int .i64 C1, .int .i64 C2, .int .i64 C3]⟩] _ (by kernel_rfl) (by kernel_rfl) (by kernel_rfl)
  case H =>
    intro x0 hx
    have hne : Nonempty (Wx x0) := ⟨⟨x0, Ext.refl x0⟩⟩
    have qB3 := fun (y : Wx x0) => ((B3.calm hx (by simp <;> omega)).ext y.ext).cell
    have qB10 := fun (y : Wx x0) => ((B10.calm hx (by simp <;> omega)).ext y.ext).cell
    simp only [eraseM]
    repeat (go_big_quiet_step ((go_at_call 28; with_reducible exact calm_of (HA.out _))))
    exact wpQuiet_nil rfl
  case hok =>
    simp only [List.forall_mem_cons, List.not_mem_nil, false_implies, implies_true, and_true]
    exact tgt_mine (v := .agg #[.int .i64 C0, .int .i64 C1, .int .i64 C2, .int .i64 C3]) (off := 0) (by simp) B7 rfl rfl rfl rfl rfl rfl (by kernel_rfl) (by kernel_rfl) (of_decide_eq_true (by kernel_rfl)) rfl
  case hdis =>
    intro k k' t t' hk hk' hkk ha ha'
    exfalso
    have h1 : k < 1 := (List.getElem?_eq_some_iff.1 hk).1
    have h2 : k' < 1 := (List.getElem?_eq_some_iff.1 hk').1
    omega
  rintro w5 f hw ⟨k0, l0, d0, u0, -⟩
  have e0' : f 0 = w.heap.size + 1 := k0
  rw [e0'] at d0
  have Ef := Ext.calm_trans xx hw (by simp)
  clear k0 l0 u0 e0' hw
  simp only [pairs, putAll, Option.isSome_none, Bool.false_eq_true, if_false]
  go_wp2_with fail
  exact bodyPost_ret (v := .tuple #[.int .i64 dd, .agg #[.int .i64 C0, .int .i64 C1, .int .i64 C2, .int .i64 C3], .bool true]) (results_blk3 (b := w.heap.size + 1) (r := 6) (t := 7) (s := 8) (ty := 29) rfl rfl d0 Try.underlying29 rfl (by kernel_rfl) rfl rfl) rfl ⟨rfl, Ef⟩
end Go.Proofs.Ytglehnmkdapnpaa

namespace Go.Proofs.Ytglehnmkdapnpaa
open Go.RowKit
set_option linter.unusedVariables false
theorem of_in64 (v : V8) (W H : Int) : (-9223372036854775808 ≤ (ofF v W H).x ∧ (ofF v W H).x ≤ 9223372036854775807) ∧ (-9223372036854775808 ≤ (ofF v W H).y ∧ (ofF v W H).y ≤ 9223372036854775807) := by
  have h0 := nr_bd (8 * bdI W 1 64 + 8 * bdI W 1 64 * lim4 v.p0 / max v.p3 256)
  have h1 := nr_bd (8 * bdI H 1 64 - 8 * bdI H 1 64 * lim4 v.p1 / max v.p3 256)
  unfold ofF
  refine ⟨?_, ?_⟩ <;> simp only <;> omega
/-- a corner as it may be -/
structure Cn.good (c : Cn) : Prop where
  x : nr c.x = c.x
  y : nr c.y = c.y
  d : dep c.d = c.d
  f : farB c.f = c.f
  c0 : limC c.c0 = c.c0
  c1 : limC c.c1 = c.c1
  c2 : limC c.c2 = c.c2
  c3 : limC c.c3 = c.c3
theorem limC_limC (n : Int) : limC (limC n) = limC n := limC_id (limC_bd n)
theorem ofF_good (v : V8) (W H : Int) : (ofF v W H).good := by
  refine ⟨nr_nr _, nr_nr _, ?_, ?_, limC_limC _, limC_limC _, limC_limC _, limC_limC _⟩
  · have := bdI_bd (65535 * lim4 v.p2 / max v.p3 256) (lo := 0) (hi := 65535) (by omega)
    exact bdI_id this.1 this.2
  · show max (max v.p3 256) 1 = max v.p3 256
    omega
theorem ofF_f {v : V8} (h : v.shown) (W H : Int) : (ofF v W H).f = v.p3 := by
  show max v.p3 256 = v.p3
  have := h.2.1
  omega
theorem ofF_c {v : V8} (h : v.shown) (W H : Int) : (ofF v W H).c0 = v.c0 ∧ (ofF v W H).c1 = v.c1 ∧ (ofF v W H).c2 = v.c2 ∧ (ofF v W H).c3 = v.c3 := by
  obtain ⟨-, -, h0, h1, h2, h3⟩ := h
  exact ⟨limC_id h0, limC_id h1, limC_id h2, limC_id h3⟩
theorem near_eq {m f : Int} (hm : 1 ≤ m) (hmf : m ≤ f) (hf : f ≤ 4194304) : bdI ((m * 1024).tdiv f) 1 1024 = nearF m f := by
  have e : farB f = f := by unfold farB; omega
  have q : (m * 1024).tdiv f = 1024 * m / f := by rw [Int.tdiv_eq_ediv_of_nonneg (by omega), Int.mul_comm]
  have le : 1024 * m / f ≤ 1024 := Int.ediv_le_of_le_mul (by omega) (Int.mul_le_mul_of_nonneg_left hmf (by omega))
  unfold nearF bdI
  rw [e, q]
  omega
theorem triF_good {a b c : Cn} (ha : a.good) (hb : b.good) (hc : c.good) : triF a b c = ⟨a.x, a.y, b.x, b.y, c.x, c.y, a.d, b.d, c.d, nearF (leastF a b c) a.f, nearF (leastF a b c) b.f, nearF (leastF a b c) c.f, a.c0, a.c1, a.c2, a.c3, b.c0, b.c1, b.c2, b.c3, c.c0, c.c1, c.c2, c.c3⟩ := by
  unfold triF
  simp only [ha.x, ha.y, ha.d, ha.c0, ha.c1, ha.c2, ha.c3, hb.x, hb.y, hb.d, hb.c0, hb.c1, hb.c2, hb.c3, hc.x, hc.y, hc.d, hc.c0, hc.c1, hc.c2, hc.c3]
theorem least_shown {a b c : V8} (ha : a.shown) (hb : b.shown) (hc : c.shown) (W H : Int) : leastF (ofF a W H) (ofF b W H) (ofF c W H) = min (min a.p3 b.p3) c.p3 := by
  unfold leastF
  rw [(ofF_good a W H).f, (ofF_good b W H).f, (ofF_good c W H).f, ofF_f ha, ofF_f hb, ofF_f hc]
  have := ha.1.2.2.2
  have := hb.1.2.2.2
  have := hc.1.2.2.2
  omega
/-- what Make returns -/
def mkV (o : Option Tr) : Value := .tuple #[.agg (o.getD Tr.nul).l.toArray, .bool o.isSome]
theorem rmakeP (a b c : V8) (ha : a.shown) (hb : b.shown) (hc : c.shown) (W H cull : Int) (hW : 1 ≤ W ∧ W ≤ 64) (hH : 1 ≤ H ∧ H ≤ 64) (g1 : 0 < (areaC (ofF a W H) (ofF b W H) (ofF c W H))) (g2 : cull ≠ 2) (w : World) :
    Calls Try.prog 12 #[.agg (a.l ++ (b.l ++ c.l)).toArray, .int .i64 W, .int .i64 H, .int .i64 cull] w fun e w' => e = .returned (.tuple #[.agg (triF (ofF a W H) (ofF b W H) (ofF c W H)).l.toArray, .bool true]) ∧ Ext w w' := by
  rw [triF_good (ofF_good a W H) (ofF_good b W H) (ofF_good c W H), least_shown ha hb hc, ofF_f ha, ofF_f hb, ofF_f hc]
  obtain ⟨a0, a1, a2, a3⟩ := ofF_c ha W H
  obtain ⟨b0, b1, b2, b3⟩ := ofF_c hb W H
  obtain ⟨c0, c1, c2, c3⟩ := ofF_c hc W H
  simp only [a0, a1, a2, a3, b0, b1, b2, b3, c0, c1, c2, c3]
  have la := ha.2.1
  have lb := hb.2.1
  have lc := hc.2.1
  have ua := ha.1.2.2.2.2
  have ub := hb.1.2.2.2.2
  have uc := hc.1.2.2.2.2
  have key : ∀ (f : Int), (min (min a.p3 b.p3) c.p3 ≤ f ∧ f ≤ 4194304) → ∀ m, min (min a.p3 b.p3) c.p3 = m → ∀ u : World, Calls Try.prog 29 #[.int .i64 ((m * 1024).tdiv f), .int .i64 1, .int .i64 1024] u fun e w' => e = .returned (.int .i64 (nearF (min (min a.p3 b.p3) c.p3) f)) ∧ Ext u w' := by
    intro f hf m hm u
    rw [hm, ← near_eq (by omega) (by omega) hf.2]
    exact rbound_any _ _ _ (by omega) u
  exact rmake_pos a.p0 a.p1 a.p2 a.p3 a.c0 a.c1 a.c2 a.c3 b.p0 b.p1 b.p2 b.p3 b.c0 b.c1 b.c2 b.c3 c.p0 c.p1 c.p2 c.p3 c.c0 c.c1 c.c2 c.c3 (ofF a W H).x (ofF b W H).x (ofF c W H).x (ofF a W H).y (ofF b W H).y (ofF c W H).y (ofF a W H).d (ofF b W H).d (ofF c W H).d W H cull _ ⟨ha.2.1, ha.1.2.2.2.2⟩ ⟨hb.2.1, hb.1.2.2.2.2⟩ ⟨hc.2.1, hc.1.2.2.2.2⟩ (fun u => rpoint_any a ha W H hW hH u) (fun u => rpoint_any b hb W H hW hH u) (fun u => rpoint_any c hc W H hW hH u) (fun u => rside_any _ _ _ _ _ _ (of_in64 a W H).1 (of_in64 a W H).2 (of_in64 b W H).1 (of_in64 b W H).2 (of_in64 c W H).1 (of_in64 c W H).2 u) g1 g2 _ _ _ (key a.p3 (by omega)) (key b.p3 (by omega)) (key c.p3 (by omega)) w
theorem rmake_any (a b c : V8) (ha : a.shown) (hb : b.shown) (hc : c.shown) (W H cull : Int) (hW : 1 ≤ W ∧ W ≤ 64) (hH : 1 ≤ H ∧ H ≤ 64) (w : World) :
    Calls Try.prog 12 #[.agg (a.l ++ (b.l ++ c.l)).toArray, .int .i64 W, .int .i64 H, .int .i64 cull] w fun e w' => e = .returned (mkV (makeF (ofF a W H) (ofF b W H) (ofF c W H) cull)) ∧ Ext w w' := by
  unfold makeF
  by_cases ho : outF (areaC (ofF a W H) (ofF b W H) (ofF c W H)) cull
  · rw [if_pos ho]
    exact rmake_out a.p0 a.p1 a.p2 a.p3 a.c0 a.c1 a.c2 a.c3 b.p0 b.p1 b.p2 b.p3 b.c0 b.c1 b.c2 b.c3 c.p0 c.p1 c.p2 c.p3 c.c0 c.c1 c.c2 c.c3 (ofF a W H).x (ofF b W H).x (ofF c W H).x (ofF a W H).y (ofF b W H).y (ofF c W H).y (ofF a W H).d (ofF b W H).d (ofF c W H).d W H cull _ ⟨ha.2.1, ha.1.2.2.2.2⟩ ⟨hb.2.1, hb.1.2.2.2.2⟩ ⟨hc.2.1, hc.1.2.2.2.2⟩ (fun u => rpoint_any a ha W H hW hH u) (fun u => rpoint_any b hb W H hW hH u) (fun u => rpoint_any c hc W H hW hH u) (fun u => rside_any _ _ _ _ _ _ (of_in64 a W H).1 (of_in64 a W H).2 (of_in64 b W H).1 (of_in64 b W H).2 (of_in64 c W H).1 (of_in64 c W H).2 u) ho w
  · rw [if_neg ho]
    have h0 : (areaC (ofF a W H) (ofF b W H) (ofF c W H)) ≠ 0 := fun h => ho (.inl h)
    by_cases hn : (areaC (ofF a W H) (ofF b W H) (ofF c W H)) < 0
    · rw [if_pos hn]
      have h1 : cull ≠ 1 := fun h => ho (.inr (.inl ⟨hn, h⟩))
      have hs := areaC_swap (ofF a W H) (ofF b W H) (ofF c W H)
      exact rmake_neg a.p0 a.p1 a.p2 a.p3 a.c0 a.c1 a.c2 a.c3 b.p0 b.p1 b.p2 b.p3 b.c0 b.c1 b.c2 b.c3 c.p0 c.p1 c.p2 c.p3 c.c0 c.c1 c.c2 c.c3 (ofF a W H).x (ofF b W H).x (ofF c W H).x (ofF a W H).y (ofF b W H).y (ofF c W H).y (ofF a W H).d (ofF b W H).d (ofF c W H).d W H cull _ ⟨ha.2.1, ha.1.2.2.2.2⟩ ⟨hb.2.1, hb.1.2.2.2.2⟩ ⟨hc.2.1, hc.1.2.2.2.2⟩ (fun u => rpoint_any a ha W H hW hH u) (fun u => rpoint_any b hb W H hW hH u) (fun u => rpoint_any c hc W H hW hH u) (fun u => rside_any _ _ _ _ _ _ (of_in64 a W H).1 (of_in64 a W H).2 (of_in64 b W H).1 (of_in64 b W H).2 (of_in64 c W H).1 (of_in64 c W H).2 u) hn h1 _ _ _ _ _ _ _ _ _ _ _ _ _ _ _ _ _ _ _ _ _ _ _ _ (fun u => rmakeP a c b ha hc hb W H 0 hW hH (by omega) (by omega) u) w
    · rw [if_neg hn]
      have h2 : cull ≠ 2 := fun h => ho (.inr (.inr ⟨by omega, h⟩))
      exact rmakeP a b c ha hb hc W H cull hW hH (by omega) h2 w
end Go.Proofs.Ytglehnmkdapnpaa

namespace Go.Proofs.Ytglehnmkdapnpaa
open Go.RowKit
set_option linter.unusedVariables false
theorem wr13 {z : Int} (h : -4611686018427387904 ≤ z ∧ z ≤ 4611686018427387904) : IntKind.i64.wrap z = z := by rw [IntKind.wrap_i64]; omega
theorem wr13z {z : Int} (h : -4611686018427387904 ≤ z ∧ z ≤ 4611686018427387904) : IntKind.i64.wrap (0 + z) = z := by rw [Int.zero_add]; exact wr13 h
theorem w64 {n : Int} (h : In (-16384) 16384 n) : -9223372036854775808 ≤ n ∧ n ≤ 9223372036854775807 := by unfold In at h; omega
theorem mul_le2 {x y X Y : Int} (h0 : 0 ≤ x) (h1 : x ≤ X) (h2 : 0 ≤ y) (h3 : y ≤ Y) : 0 ≤ x * y ∧ x * y ≤ X * Y :=
  ⟨Int.mul_nonneg h0 h2, Int.le_trans (Int.mul_le_mul_of_nonneg_right h1 h2) (Int.mul_le_mul_of_nonneg_left h3 (by omega))⟩
/-- what At returns -/
def atV (p : PAt) : Value := .tuple #[.int .i64 p.d, .agg #[.int .i64 p.c0, .int .i64 p.c1, .int .i64 p.c2, .int .i64 p.c3], .bool p.is]
set_option maxHeartbeats 1000000 in
theorem rat_any (t : Tr) (ht : chkT t = 0) (x y : Int) (hx : 0 ≤ x ∧ x ≤ 64) (hy : 0 ≤ y ∧ y ≤ 64) (w : World) :
    Calls Try.prog 20 #[.agg t.l.toArray, .int .i64 x, .int .i64 y] w fun e w' => e = .returned (atV (atF t x y)) ∧ Ext w w' := by
  have hr : t.rng := by
    by_cases h : t.rng
    · exact h
    · unfold chkT at ht; rw [if_neg h] at ht; cases ht
  obtain ⟨⟨p_ax, p_ay, p_bx, p_by, p_cx, p_cy⟩, ⟨d0, d1, d2⟩, ⟨n0, n1, n2⟩, ⟨a0, a1, a2, a3⟩, ⟨b0, b1, b2, b3⟩, ⟨c0, c1, c2, c3⟩⟩ := hr
  have ex : midI x = 16 * x + 8 := by unfold midI; rw [bdI_id (by omega) (by omega)]
  have ey : midI y = 16 * y + 8 := by unfold midI; rw [bdI_id (by omega) (by omega)]
  have hmx : -9223372036854775808 ≤ midI x ∧ midI x ≤ 9223372036854775807 := by omega
  have hmy : -9223372036854775808 ≤ midI y ∧ midI y ≤ 9223372036854775807 := by omega
  have hC := fun u => rcovers_any t.ax t.ay t.bx t.by' t.cx t.cy (midI x) (midI y) (w64 p_ax) (w64 p_ay) (w64 p_bx) (w64 p_by) (w64 p_cx) (w64 p_cy) hmx hmy u
  by_cases hv : t.cov (midI x) (midI y) = true
  · have e : atF t x y = ⟨t.dAt (midI x) (midI y), t.cAt (midI x) (midI y) t.a0 t.b0 t.c0, t.cAt (midI x) (midI y) t.a1 t.b1 t.c1, t.cAt (midI x) (midI y) t.a2 t.b2 t.c2, t.cAt (midI x) (midI y) t.a3 t.b3 t.c3, true⟩ := if_pos ⟨ht, hv⟩
    rw [e]
    unfold In at d0 d1 d2 n0 n1 n2 a0 a1 a2 a3 b0 b1 b2 b3 c0 c1 c2 c3
    obtain ⟨k0, k1, k2, k3, k4⟩ := cov_weights hv
    obtain ⟨⟨-, u0⟩, ⟨-, u1⟩, ⟨-, u2⟩⟩ := w_bd t (midI x) (midI y)
    obtain ⟨-, -, -, hall⟩ := all_pos hv n0.1 n1.1 n2.1
    have bd := dAt_in hv d0 d1 d2
    have bc0 := cAt_in hv n0.1 n1.1 n2.1 a0 b0 c0
    have bc1 := cAt_in hv n0.1 n1.1 n2.1 a1 b1 c1
    have bc2 := cAt_in hv n0.1 n1.1 n2.1 a2 b2 c2
    have bc3 := cAt_in hv n0.1 n1.1 n2.1 a3 b3 c3
    have md0 := mul_le2 k0 u0 d0.1 d0.2
    have mn0 := mul_le2 k0 u0 (show 0 ≤ t.n0 by omega) n0.2
    have m00 := mul_le2 mn0.1 mn0.2 a0.1 a0.2
    have m01 := mul_le2 mn0.1 mn0.2 a1.1 a1.2
    have m02 := mul_le2 mn0.1 mn0.2 a2.1 a2.2
    have m03 := mul_le2 mn0.1 mn0.2 a3.1 a3.2
    have md1 := mul_le2 k1 u1 d1.1 d1.2
    have mn1 := mul_le2 k1 u1 (show 0 ≤ t.n1 by omega) n1.2
    have m10 := mul_le2 mn1.1 mn1.2 b0.1 b0.2
    have m11 := mul_le2 mn1.1 mn1.2 b1.1 b1.2
    have m12 := mul_le2 mn1.1 mn1.2 b2.1 b2.2
    have m13 := mul_le2 mn1.1 mn1.2 b3.1 b3.2
    have md2 := mul_le2 k2 u2 d2.1 d2.2
    have mn2 := mul_le2 k2 u2 (show 0 ≤ t.n2 by omega) n2.2
    have m20 := mul_le2 mn2.1 mn2.2 c0.1 c0.2
    have m21 := mul_le2 mn2.1 mn2.2 c1.1 c1.2
    have m22 := mul_le2 mn2.1 mn2.2 c2.1 c2.2
    have m23 := mul_le2 mn2.1 mn2.2 c3.1 c3.2
    have dq : (t.w0 (midI x) (midI y) * t.d0 + t.w1 (midI x) (midI y) * t.d1 + t.w2 (midI x) (midI y) * t.d2).tdiv t.area = t.dAt (midI x) (midI y) := Int.tdiv_eq_ediv_of_nonneg (by omega)
    have hall' : 0 < t.w0 (midI x) (midI y) * t.n0 + t.w1 (midI x) (midI y) * t.n1 + t.w2 (midI x) (midI y) * t.n2 := hall
    have cq0 : (t.w0 (midI x) (midI y) * t.n0 * t.a0 + t.w1 (midI x) (midI y) * t.n1 * t.b0 + t.w2 (midI x) (midI y) * t.n2 * t.c0).tdiv (t.w0 (midI x) (midI y) * t.n0 + t.w1 (midI x) (midI y) * t.n1 + t.w2 (midI x) (midI y) * t.n2) = t.cAt (midI x) (midI y) t.a0 t.b0 t.c0 := Int.tdiv_eq_ediv_of_nonneg (by omega)
    have cq1 : (t.w0 (midI x) (midI y) * t.n0 * t.a1 + t.w1 (midI x) (midI y) * t.n1 * t.b1 + t.w2 (midI x) (midI y) * t.n2 * t.c1).tdiv (t.w0 (midI x) (midI y) * t.n0 + t.w1 (midI x) (midI y) * t.n1 + t.w2 (midI x) (midI y) * t.n2) = t.cAt (midI x) (midI y) t.a1 t.b1 t.c1 := Int.tdiv_eq_ediv_of_nonneg (by omega)
    have cq2 : (t.w0 (midI x) (midI y) * t.n0 * t.a2 + t.w1 (midI x) (midI y) * t.n1 * t.b2 + t.w2 (midI x) (midI y) * t.n2 * t.c2).tdiv (t.w0 (midI x) (midI y) * t.n0 + t.w1 (midI x) (midI y) * t.n1 + t.w2 (midI x) (midI y) * t.n2) = t.cAt (midI x) (midI y) t.a2 t.b2 t.c2 := Int.tdiv_eq_ediv_of_nonneg (by omega)
    have cq3 : (t.w0 (midI x) (midI y) * t.n0 * t.a3 + t.w1 (midI x) (midI y) * t.n1 * t.b3 + t.w2 (midI x) (midI y) * t.n2 * t.c3).tdiv (t.w0 (midI x) (midI y) * t.n0 + t.w1 (midI x) (midI y) * t.n1 + t.w2 (midI x) (midI y) * t.n2) = t.cAt (midI x) (midI y) t.a3 t.b3 t.c3 := Int.tdiv_eq_ediv_of_nonneg (by omega)
    exact rat_yes t.ax t.ay t.bx t.by' t.cx t.cy t.d0 t.d1 t.d2 t.n0 t.n1 t.n2 t.a0 t.a1 t.a2 t.a3 t.b0 t.b1 t.b2 t.b3 t.c0 t.c1 t.c2 t.c3 x y (midI x) (midI y) _ (wr13 (by omega)) (wr13 (by omega)) (by rw [ex]; exact wr13 (by omega)) (by rw [ey]; exact wr13 (by omega)) hC hv (t.w0 (midI x) (midI y)) (t.w1 (midI x) (midI y)) (t.w2 (midI x) (midI y)) t.area _ _ _ _ _ _ _ _ _ _ _ _ _ _ _ _ _ _ _ _ _ _ _
      (fun u => rside_any t.bx t.by' t.cx t.cy (midI x) (midI y) (w64 p_bx) (w64 p_by) (w64 p_cx) (w64 p_cy) hmx hmy u) (fun u => rside_any t.cx t.cy t.ax t.ay (midI x) (midI y) (w64 p_cx) (w64 p_cy) (w64 p_ax) (w64 p_ay) hmx hmy u) (fun u => rside_any t.ax t.ay t.bx t.by' (midI x) (midI y) (w64 p_ax) (w64 p_ay) (w64 p_bx) (w64 p_by) hmx hmy u) (fun u => rside_any t.ax t.ay t.bx t.by' t.cx t.cy (w64 p_ax) (w64 p_ay) (w64 p_bx) (w64 p_by) (w64 p_cx) (w64 p_cy) u)
      rfl (by omega) rfl (by omega) (wr13 (by omega)) (wr13 (by omega)) (wr13z (by omega)) (wr13 (by omega)) (wr13z (by omega)) (wr13 (by omega)) (wr13z (by omega)) (wr13 (by omega)) (wr13z (by omega)) rfl (by omega) rfl (by omega) (wr13 (by omega)) (wr13 (by omega)) (wr13 (by omega)) (wr13 (by omega)) (wr13 (by omega)) (wr13 (by omega)) (wr13 (by omega)) (wr13 (by omega)) (wr13 (by omega)) rfl (by omega) rfl (by omega) (wr13 (by omega)) (wr13 (by omega)) (wr13 (by omega)) (wr13 (by omega)) (wr13 (by omega)) (wr13 (by omega)) (wr13 (by omega)) (wr13 (by omega)) (wr13 (by omega)) (by omega) (by omega) (dq) (by omega) cq0 (by omega) cq1 (by omega) cq2 (by omega) cq3 (by omega) w
  · have e : atF t x y = ⟨0, 0, 0, 0, 0, false⟩ := if_neg (fun h => hv h.2)
    rw [e]
    exact rat_no t.ax t.ay t.bx t.by' t.cx t.cy t.d0 t.d1 t.d2 t.n0 t.n1 t.n2 t.a0 t.a1 t.a2 t.a3 t.b0 t.b1 t.b2 t.b3 t.c0 t.c1 t.c2 t.c3 x y (midI x) (midI y) _ (wr13 (by omega)) (wr13 (by omega)) (by rw [ex]; exact wr13 (by omega)) (by rw [ey]; exact wr13 (by omega)) hC (eq_false_of_ne_true hv) w
end Go.Proofs.Ytglehnmkdapnpaa

