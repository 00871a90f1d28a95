/-
  DERIVED. Layer 11's law: what of Script is walked apart (made by mkscr2.py).
-/
import Derived.Test.YtbbfmlehddfneaaPkPart
namespace Go.Proofs.Ytbbfmlehddfneaa
open Go.RowKit
set_option linter.unusedVariables false
set_option maxRecDepth 100000 in
set_option maxHeartbeats 4000000 in
theorem scr_r16 (f0 f2 f4 f5 f6 f7 f8 f9 f10 f11 f12 f13 f14 f15 f16 f17 f18 f19 f20 f21 f22 f23 f24 f25 f26 f27 f28 f29 f30 f31 f32 f33 f34 f35 f36 f37 f38 f39 f40 f41 f42 f43 f44 f45 f46 f47 f48 f49 f50 f51 f52 f53 f54 f55 f56 f57 f58 f59 f60 f61 f62 f63 f64 f65 f66 f67 f68 f69 f70 f71 f72 f73 f74 f75 f76 f77 f78 f79 f80 f81 f82 f83 f84 f85 f86 f87 f88 f89 f90 f91 f92 f93 f94 f95 f96 f97 f98 f99 f100 f101 f102 f103 f104 f105 f106 f107 f108 f109 f110 : Value) (b0 bx : Nat) (a0 a1 a2 a3 a4 a5 a6 a9 sl pl : Value) (Ps Pp : List (List In)) (z0 z1 z2 z3 z4 z5 z6 z7 z8 z9 z10 z11 z12 z13 z14 z15 z16 z17 u1 u4 : Value) (w : World) (K0 : Blk w b0 #[a0, a1, a2, a3, a4, a5, a6, sl, pl, a9] 28) (G1 : Blk w bx #[z0, z1, z2, z3, z4, z5, z6, z7, z8, z9, z10, z11, z12, z13, z14, z15, z16, z17, u1, .slice none 0 0, .slice none 0 0, u4] 42) (h0x : b0 < bx) (hS1 : ∀ u, Ext w u → Calls Try.prog 15 #[sl, .bool false] u fun e w' => ∃ v' svs, e = .returned v' ∧ OwnG LP w' u.heap.size v' svs ∧ ProgsAt w' u.heap.size svs Ps ∧ (∀ s ∈ svs, ∀ k, s.v.ownBlock = some k → v'.ownBlock ≠ some k) ∧ Ext u w') (hP1 : ∀ u, Ext w u → Calls Try.prog 15 #[pl, .bool true] u fun e w' => ∃ v' svs, e = .returned v' ∧ OwnG LP w' u.heap.size v' svs ∧ ProgsAt w' u.heap.size svs Pp ∧ (∀ s ∈ svs, ∀ k, s.v.ownBlock = some k → v'.ownBlock ≠ some k) ∧ Ext u w') {Q : Exit → Act → World → Prop}
    (hQ : ∀ (c83 c84 c85 c86 c87 c88 c89 c90 : Value) (sv pv : SlV) (lo1 lo2 hi1 hi2 : Nat) (wx : World), PB wx lo1 hi1 sv.v Ps → PB wx lo2 hi2 pv.v Pp → (hi1 ≤ lo2 ∨ hi2 ≤ lo1) → w.heap.size ≤ lo1 → w.heap.size ≤ lo2 → hi1 ≤ wx.heap.size → hi2 ≤ wx.heap.size → Blk wx bx #[z0, z1, z2, z3, z4, z5, z6, z7, z8, z9, z10, z11, z12, z13, z14, z15, z16, z17, u1, .slice sv.ao sv.n sv.c, .slice pv.ao pv.n pv.c, u4] 42 → Calm [bx] w wx → Q .normal ⟨(f0 :: Value.pointer (some ⟨b0, 0, none⟩) :: f2 :: Value.pointer (some ⟨bx, 0, none⟩) :: f4 :: f5 :: f6 :: f7 :: f8 :: f9 :: f10 :: f11 :: f12 :: f13 :: f14 :: f15 :: f16 :: f17 :: f18 :: f19 :: f20 :: f21 :: f22 :: f23 :: f24 :: f25 :: f26 :: f27 :: f28 :: f29 :: f30 :: f31 :: f32 :: f33 :: f34 :: f35 :: f36 :: f37 :: f38 :: f39 :: f40 :: f41 :: f42 :: f43 :: f44 :: f45 :: f46 :: f47 :: f48 :: f49 :: f50 :: f51 :: f52 :: f53 :: f54 :: f55 :: f56 :: f57 :: f58 :: f59 :: f60 :: f61 :: f62 :: f63 :: f64 :: f65 :: f66 :: f67 :: f68 :: f69 :: f70 :: f71 :: f72 :: f73 :: f74 :: f75 :: f76 :: f77 :: f78 :: f79 :: f80 :: f81 :: f82 :: c83 :: c84 :: c85 :: c86 :: c87 :: c88 :: c89 :: c90 :: f91 :: f92 :: f93 :: f94 :: f95 :: f96 :: f97 :: f98 :: f99 :: f100 :: f101 :: f102 :: f103 :: f104 :: f105 :: f106 :: f107 :: f108 :: f109 :: f110 :: List.nil).toArray, []⟩ wx) : Code.wp Try.prog (regionOf Try.f8 16) Q ⟨(f0 :: Value.pointer (some ⟨b0, 0, none⟩) :: f2 :: Value.pointer (some ⟨bx, 0, none⟩) :: f4 :: f5 :: f6 :: f7 :: f8 :: f9 :: f10 :: f11 :: f12 :: f13 :: f14 :: f15 :: f16 :: f17 :: f18 :: f19 :: f20 :: f21 :: f22 :: f23 :: f24 :: f25 :: f26 :: f27 :: f28 :: f29 :: f30 :: f31 :: f32 :: f33 :: f34 :: f35 :: f36 :: f37 :: f38 :: f39 :: f40 :: f41 :: f42 :: f43 :: f44 :: f45 :: f46 :: f47 :: f48 :: f49 :: f50 :: f51 :: f52 :: f53 :: f54 :: f55 :: f56 :: f57 :: f58 :: f59 :: f60 :: f61 :: f62 :: f63 :: f64 :: f65 :: f66 :: f67 :: f68 :: f69 :: f70 :: f71 :: f72 :: f73 :: f74 :: f75 :: f76 :: f77 :: f78 :: f79 :: f80 :: f81 :: f82 :: f83 :: f84 :: f85 :: f86 :: f87 :: f88 :: f89 :: f90 :: f91 :: f92 :: f93 :: f94 :: f95 :: f96 :: f97 :: f98 :: f99 :: f100 :: f101 :: f102 :: f103 :: f104 :: f105 :: f106 :: f107 :: f108 :: f109 :: f110 :: List.nil).toArray, []⟩ w := by
  have HQ := Lib.hid hQ
  clear hQ
  change Code.wp Try.prog (Code.region _ _ true) _ _ _
  have Gd := G1.drew
  have cGd := Gd.cell
  have dK0 := K0.drew.cell
  have xd : Ext w w.drew := (Ext.refl w).drew
  have hb5 := G1.lt
  refine wp_region_noPanic ?_
  go_region_with (first
    | (go_at_call 15; with_reducible refine (hS1 _ xd).mono ?_; rintro e w6 ⟨vS, svsS, rfl, oS, pS, apS, xS⟩; obtain ⟨aoS, cS, rfl, -, -⟩ := oS.slice; have cK6 := (K0.drew.ext xS).cell; have G6 := Gd.ext xS)
    | (go_at_call 15; with_reducible refine (hP1 _ (xd.trans xS)).mono ?_; rintro e w7 ⟨vP, svsP, rfl, oP, pP, apP, xP⟩; obtain ⟨aoP, cP, rfl, -, -⟩ := oP.slice; have cK7 := (K0.drew.ext (xS.trans xP)).cell; have G7 := G6.ext xP; have cG7 := G7.cell; have fG7 := G7.frozen)
    | (go_at_call 15; with_reducible refine (hP1 _ xd).mono ?_; rintro e w6 ⟨vP, svsP, rfl, oP, pP, apP, xP⟩; obtain ⟨aoP, cP, rfl, -, -⟩ := oP.slice; have cK6 := (K0.drew.ext xP).cell; have G6 := Gd.ext xP)
    | (go_at_call 15; with_reducible refine (hS1 _ (xd.trans xP)).mono ?_; rintro e w7 ⟨vS, svsS, rfl, oS, pS, apS, xS⟩; obtain ⟨aoS, cS, rfl, -, -⟩ := oS.slice; have cK7 := (K0.drew.ext (xP.trans xS)).cell; have G7 := G6.ext xS; have cG7 := G7.cell; have fG7 := G7.frozen))
  all_goals go_wp2
  all_goals
    have z6 : w.heap.size ≤ w6.heap.size := xS.size
    have z7 : w6.heap.size ≤ w7.heap.size := xP.size
    have hO : ∀ lo hi, bx < lo → ∀ b ∈ [bx], b < lo ∨ hi ≤ b := fun lo hi h b hb => by rw [List.mem_singleton.1 hb]; exact .inl h
    have G9 := (G7.set 19 (.slice aoS svsS.length cS)).set 20 (.slice aoP svsP.length cP)
    simp only [List.setIfInBounds_toArray, List.set_cons_succ, List.set_cons_zero] at G9
    have c9 : Calm [bx] w7 ((w7.setCell ⟨bx, 19, none⟩ (.slice aoS svsS.length cS)).setCell ⟨bx, 20, none⟩ (.slice aoP svsP.length cP)) := (calm_setP _ _ _ _).trans (calm_setP _ _ _ _)
    have z9 := c9.size
    have pS9 : PB _ w.heap.size w6.heap.size (SlV.v ⟨aoS, svsS.length, cS⟩) _ := ((PB.of oS pS apS).ext xP).calm c9 (hO _ _ hb5)
    have pP9 : PB _ w6.heap.size w7.heap.size (SlV.v ⟨aoP, svsP.length, cP⟩) _ := (PB.of oP pP apP).calm c9 (hO _ _ (by omega))
    exact NoPanic.normal (HQ.out _ _ _ _ _ _ _ _ ⟨aoS, svsS.length, cS⟩ ⟨aoP, svsP.length, cP⟩ w.heap.size w6.heap.size w6.heap.size w7.heap.size _ pS9 pP9 (.inl (Nat.le_refl _)) (Nat.le_refl _) z6 (by omega) (by omega) G9 ((((Ext.refl w).drew.trans xS).trans xP).calm [bx] |>.trans c9))
end Go.Proofs.Ytbbfmlehddfneaa

