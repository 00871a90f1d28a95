/-
  DERIVED. Region 5 of ScriptSame: three scripts are made (made by mkscrsamelaw.py).
-/
import Derived.Test.YtbbfmlehddfneaaGreatPkIn
namespace Go.Proofs.YtbbfmlehddfneaaGreat
open Go.RowKit
set_option linter.unusedVariables false
set_option maxRecDepth 100000 in
set_option maxHeartbeats 4000000 in
theorem scrsame_r5 (f0 f1 f2 f5 f6 f7 f8 f9 f10 f11 f12 f13 f14 f15 f16 f17 f18 f19 f20 f21 f22 f23 f24 f25 f26 f27 f28 f29 f30 f31 f32 f33 f34 f35 f36 f37 f38 f39 f40 f41 f42 f43 f44 f45 f46 f47 f48 f49 f50 f51 f52 f53 f54 f55 f56 f57 f58 f59 f60 f61 f62 f63 f64 f65 f66 f67 f68 f69 f70 f71 f72 f73 f74 f75 f76 f77 f78 f79 f80 f81 f82 f83 f84 f85 f86 f87 f88 f89 f90 f91 f92 f93 f94 f95 f96 f97 f98 : Value) (b3 b4 : Nat) (z z2 : Array Value) (hz : z.size = 10) (hz2 : z2.size = 10) (x y : Scr) (w : World) (B3 : Blk w b3 z 28) (B4 : Blk w b4 z2 28)
    (hS : ∀ u, Ext w u → Calls Tryz.prog 7 #[.agg z] u fun e w' => ∃ m : ScrM, e = .returned (.agg m.l.toArray) ∧ ScrAt w' u.heap.size m x ∧ Ext u w')
    (hS2 : ∀ u, Ext w u → Calls Tryz.prog 7 #[.agg z2] u fun e w' => ∃ m : ScrM, e = .returned (.agg m.l.toArray) ∧ ScrAt w' u.heap.size m y ∧ Ext u w') (hmx : x.m.length = 16) (hmy : y.m.length = 16) {Q : Exit → Act → World → Prop}
    (hQ : ∀ (c20 c21 c22 c23 c24 c25 : Value) (b7 b8 b9 la ha lb hb lc hc : Nat) (m1 m2 m3 : ScrM) (wx : World), Ext w wx → ScrIn wx la ha m1 x → ScrIn wx lb hb m2 y → ScrIn wx lc hc m3 x → Blk wx b7 m1.l.toArray 38 → Blk wx b8 m2.l.toArray 38 → Blk wx b9 m3.l.toArray 38 →
      (w.heap.size ≤ la ∧ ha ≤ wx.heap.size ∧ w.heap.size ≤ lb ∧ hb ≤ wx.heap.size ∧ w.heap.size ≤ lc ∧ hc ≤ wx.heap.size) → ((hc ≤ la ∨ ha ≤ lc) ∧ (hc ≤ lb ∨ hb ≤ lc)) → ((b9 < la ∨ ha ≤ b9) ∧ (b9 < lb ∨ hb ≤ b9) ∧ (b9 < lc ∨ hc ≤ b9)) → ((b7 < lc ∨ hc ≤ b7) ∧ (b8 < lc ∨ hc ≤ b8)) → (w.heap.size ≤ b7 ∧ w.heap.size ≤ b8 ∧ w.heap.size ≤ b9 ∧ b7 ≠ b9 ∧ b8 ≠ b9) → Q .normal ⟨(f0 :: f1 :: f2 :: Value.pointer (some ⟨b3, 0, none⟩) :: Value.pointer (some ⟨b4, 0, none⟩) :: f5 :: f6 :: Value.pointer (some ⟨b7, 0, none⟩) :: Value.pointer (some ⟨b8, 0, none⟩) :: Value.pointer (some ⟨b9, 0, none⟩) :: f10 :: f11 :: f12 :: f13 :: f14 :: f15 :: f16 :: f17 :: f18 :: f19 :: c20 :: c21 :: c22 :: c23 :: c24 :: c25 :: f26 :: f27 :: f28 :: f29 :: f30 :: f31 :: f32 :: f33 :: f34 :: f35 :: f36 :: f37 :: f38 :: f39 :: f40 :: f41 :: f42 :: f43 :: f44 :: f45 :: f46 :: f47 :: f48 :: f49 :: f50 :: f51 :: f52 :: f53 :: f54 :: f55 :: f56 :: f57 :: f58 :: f59 :: f60 :: f61 :: f62 :: f63 :: f64 :: f65 :: f66 :: f67 :: f68 :: f69 :: f70 :: f71 :: f72 :: f73 :: f74 :: f75 :: f76 :: f77 :: f78 :: f79 :: f80 :: f81 :: f82 :: f83 :: f84 :: f85 :: f86 :: f87 :: f88 :: f89 :: f90 :: f91 :: f92 :: f93 :: f94 :: f95 :: f96 :: f97 :: f98 :: List.nil).toArray, []⟩ wx) :
    Code.wp Tryz.prog (regionOf Tryz.f4 5) Q ⟨(f0 :: f1 :: f2 :: Value.pointer (some ⟨b3, 0, none⟩) :: Value.pointer (some ⟨b4, 0, none⟩) :: f5 :: f6 :: f7 :: f8 :: f9 :: f10 :: f11 :: f12 :: f13 :: f14 :: f15 :: f16 :: f17 :: f18 :: f19 :: f20 :: f21 :: f22 :: f23 :: f24 :: f25 :: f26 :: f27 :: f28 :: f29 :: f30 :: f31 :: f32 :: f33 :: f34 :: f35 :: f36 :: f37 :: f38 :: f39 :: f40 :: f41 :: f42 :: f43 :: f44 :: f45 :: f46 :: f47 :: f48 :: f49 :: f50 :: f51 :: f52 :: f53 :: f54 :: f55 :: f56 :: f57 :: f58 :: f59 :: f60 :: f61 :: f62 :: f63 :: f64 :: f65 :: f66 :: f67 :: f68 :: f69 :: f70 :: f71 :: f72 :: f73 :: f74 :: f75 :: f76 :: f77 :: f78 :: f79 :: f80 :: f81 :: f82 :: f83 :: f84 :: f85 :: f86 :: f87 :: f88 :: f89 :: f90 :: f91 :: f92 :: f93 :: f94 :: f95 :: f96 :: f97 :: f98 :: List.nil).toArray, []⟩ w := by
  have HQ := Lib.hid hQ
  clear hQ
  change Code.wp Tryz.prog (Code.region _ _ true) _ _ _
  apply wp_region_make 8 [false, true, false, true, false, true, true, true, true, true, true, true] [21, 23, 25, 7, 8, 9] [(1, isScr x), (3, isScr y), (5, isScr x), (6, isBox), (7, isBox), (8, isBox)] [9, 10, 11] [] _ (by kernel_rfl) (by kernel_rfl) (by kernel_rfl) (by kernel_rfl)
  case hR =>
    intro p hp v lo hi u u' hh e
    simp only [List.mem_cons, List.not_mem_nil, or_false] at hp
    rcases hp with rfl | rfl | rfl | rfl | rfl | rfl
    · obtain ⟨m, h1, h2⟩ := hh; exact ⟨m, h1, h2.ext e⟩
    · obtain ⟨m, h1, h2⟩ := hh; exact ⟨m, h1, h2.ext e⟩
    · obtain ⟨m, h1, h2⟩ := hh; exact ⟨m, h1, h2.ext e⟩
    · exact ⟨hh.1, hh.2.1.ext e, hh.2.2⟩
    · exact ⟨hh.1, hh.2.1.ext e, hh.2.2⟩
    · exact ⟨hh.1, hh.2.1.ext e, hh.2.2⟩
  case H =>
    intro y0 hy0
    have hne : Nonempty (Wx y0) := ⟨⟨y0, Ext.refl y0⟩⟩
    have q3 := fun (y : Wx y0) => B3.ext (hy0.trans y.ext)
    have q4 := fun (y : Wx y0) => B4.ext (hy0.trans y.ext)
    simp only [eraseM]
    repeat (first
      | (go_big_quiet_want; (with_reducible refine quiet_load_blk (op := ⟨some 20, _, _, _, _, _⟩) 28 (.tmp 3) ?_ b3 ?_ (z := z) (T := 28) ?_ Tryz.underlying28 ?_ ?_ ?_); rfl; rfl; exact (fun u hu => by obtain ⟨y, rfl⟩ := hu; exact q3 y); rfl; (rw [hz]; kernel_rfl); simp only [Act.put, List.setIfInBounds_toArray, List.set_cons_succ, List.set_cons_zero]; go_big_quiet_on)
      | (go_big_quiet_want; (with_reducible refine quiet_load_blk (op := ⟨some 22, _, _, _, _, _⟩) 28 (.tmp 4) ?_ b4 ?_ (z := z2) (T := 28) ?_ Tryz.underlying28 ?_ ?_ ?_); rfl; rfl; exact (fun u hu => by obtain ⟨y, rfl⟩ := hu; exact q4 y); rfl; (rw [hz2]; kernel_rfl); simp only [Act.put, List.setIfInBounds_toArray, List.set_cons_succ, List.set_cons_zero]; go_big_quiet_on)
      | (go_big_quiet_want; (with_reducible refine quiet_load_blk (op := ⟨some 24, _, _, _, _, _⟩) 28 (.tmp 3) ?_ b3 ?_ (z := z) (T := 28) ?_ Tryz.underlying28 ?_ ?_ ?_); rfl; rfl; exact (fun u hu => by obtain ⟨y, rfl⟩ := hu; exact q3 y); rfl; (rw [hz]; kernel_rfl); simp only [Act.put, List.setIfInBounds_toArray, List.set_cons_succ, List.set_cons_zero]; go_big_quiet_on)
      | go_big_quiet_step (fail))
    exact wpQuiet_nil rfl
  case hF => rfl
  case hG =>
    intro p hp o ho u xu
    simp only [List.mem_cons, List.not_mem_nil, or_false] at hp
    rcases hp with rfl | rfl | rfl | rfl | rfl | rfl
    · obtain rfl := (Option.some.inj ho).symm
      refine gives_enter (f := 7) (args := #[.agg z]) (by simp [go_sem]) (hS u xu) ?_
      rintro e w' ⟨m, rfl, h1, h2⟩
      exact ⟨_, rfl, h2, m, rfl, h1.inn⟩
    · obtain rfl := (Option.some.inj ho).symm
      refine gives_enter (f := 7) (args := #[.agg z2]) (by simp [go_sem]) (hS2 u xu) ?_
      rintro e w' ⟨m, rfl, h1, h2⟩
      exact ⟨_, rfl, h2, m, rfl, h1.inn⟩
    · obtain rfl := (Option.some.inj ho).symm
      refine gives_enter (f := 7) (args := #[.agg z]) (by simp [go_sem]) (hS u xu) ?_
      rintro e w' ⟨m, rfl, h1, h2⟩
      exact ⟨_, rfl, h2, m, rfl, h1.inn⟩
    all_goals
      obtain rfl := (Option.some.inj ho).symm
      exact gives_value (u' := u.alloc (.cells #[.int .i64 0, .int .i64 0, .int .i64 0, .int .i64 0, .int .i64 0, .int .i64 0, .int .i64 0, .int .i64 0, .int .i64 0, .int .i64 0, .int .i64 0, .int .i64 0, .int .i64 0, .int .i64 0, .int .i64 0, .int .i64 0, .int .i64 0, .int .i64 0, .slice none 0 0, .slice none 0 0, .slice none 0 0, .slice none 0 0] 38)) (v := .pointer (some ⟨u.heap.size, 0, none⟩)) (by simp [go_sem]) ⟨(Ext.refl u).alloc _ _, rfl, Blk.new u _ _, World.size_alloc ..⟩
  case T =>
    intro c u lo hi xu hr hb hd
    obtain ⟨m1, e1, I1⟩ := hr _ (by simp : (1, isScr x) ∈ _) _ _ rfl rfl
    obtain ⟨m2, e2, I2⟩ := hr _ (by simp : (3, isScr y) ∈ _) _ _ rfl rfl
    obtain ⟨m3, e3, I3⟩ := hr _ (by simp : (5, isScr x) ∈ _) _ _ rfl rfl
    obtain ⟨e7, B7, n7⟩ := hr _ (by simp : (6, isBox) ∈ _) _ _ rfl rfl
    obtain ⟨e8, B8, n8⟩ := hr _ (by simp : (7, isBox) ∈ _) _ _ rfl rfl
    obtain ⟨e9, B9, n9⟩ := hr _ (by simp : (8, isBox) ∈ _) _ _ rfl rfl
    have b1 : w.heap.size ≤ lo 1 ∧ lo 1 ≤ hi 1 ∧ hi 1 ≤ u.heap.size := hb (1, isScr x) (by simp)
    have b3' : w.heap.size ≤ lo 3 ∧ lo 3 ≤ hi 3 ∧ hi 3 ≤ u.heap.size := hb (3, isScr y) (by simp)
    have b5 : w.heap.size ≤ lo 5 ∧ lo 5 ≤ hi 5 ∧ hi 5 ≤ u.heap.size := hb (5, isScr x) (by simp)
    have b6 : w.heap.size ≤ lo 6 ∧ lo 6 ≤ hi 6 ∧ hi 6 ≤ u.heap.size := hb (6, isBox) (by simp)
    have b7 : w.heap.size ≤ lo 7 ∧ lo 7 ≤ hi 7 ∧ hi 7 ≤ u.heap.size := hb (7, isBox) (by simp)
    have b8 : w.heap.size ≤ lo 8 ∧ lo 8 ≤ hi 8 ∧ hi 8 ≤ u.heap.size := hb (8, isBox) (by simp)
    change ScrIn u (lo 1) (hi 1) m1 x at I1
    change ScrIn u (lo 3) (hi 3) m2 y at I2
    change ScrIn u (lo 5) (hi 5) m3 x at I3
    have d15 : hi 1 ≤ lo 5 ∨ hi 5 ≤ lo 1 := hd (1, isScr x) (by simp) (5, isScr x) (by simp) (show (1 : Nat) ≠ 5 by decide)
    have d35 : hi 3 ≤ lo 5 ∨ hi 5 ≤ lo 3 := hd (3, isScr y) (by simp) (5, isScr x) (by simp) (show (3 : Nat) ≠ 5 by decide)
    have d16 : hi 1 ≤ lo 6 ∨ hi 6 ≤ lo 1 := hd (1, isScr x) (by simp) (6, isBox) (by simp) (show (1 : Nat) ≠ 6 by decide)
    have d17 : hi 1 ≤ lo 7 ∨ hi 7 ≤ lo 1 := hd (1, isScr x) (by simp) (7, isBox) (by simp) (show (1 : Nat) ≠ 7 by decide)
    have d18 : hi 1 ≤ lo 8 ∨ hi 8 ≤ lo 1 := hd (1, isScr x) (by simp) (8, isBox) (by simp) (show (1 : Nat) ≠ 8 by decide)
    have d36 : hi 3 ≤ lo 6 ∨ hi 6 ≤ lo 3 := hd (3, isScr y) (by simp) (6, isBox) (by simp) (show (3 : Nat) ≠ 6 by decide)
    have d37 : hi 3 ≤ lo 7 ∨ hi 7 ≤ lo 3 := hd (3, isScr y) (by simp) (7, isBox) (by simp) (show (3 : Nat) ≠ 7 by decide)
    have d38 : hi 3 ≤ lo 8 ∨ hi 8 ≤ lo 3 := hd (3, isScr y) (by simp) (8, isBox) (by simp) (show (3 : Nat) ≠ 8 by decide)
    have d56 : hi 5 ≤ lo 6 ∨ hi 6 ≤ lo 5 := hd (5, isScr x) (by simp) (6, isBox) (by simp) (show (5 : Nat) ≠ 6 by decide)
    have d57 : hi 5 ≤ lo 7 ∨ hi 7 ≤ lo 5 := hd (5, isScr x) (by simp) (7, isBox) (by simp) (show (5 : Nat) ≠ 7 by decide)
    have d58 : hi 5 ≤ lo 8 ∨ hi 8 ≤ lo 5 := hd (5, isScr x) (by simp) (8, isBox) (by simp) (show (5 : Nat) ≠ 8 by decide)
    have d67 : hi 6 ≤ lo 7 ∨ hi 7 ≤ lo 6 := hd (6, isBox) (by simp) (7, isBox) (by simp) (show (6 : Nat) ≠ 7 by decide)
    have d68 : hi 6 ≤ lo 8 ∨ hi 8 ≤ lo 6 := hd (6, isBox) (by simp) (8, isBox) (by simp) (show (6 : Nat) ≠ 8 by decide)
    have d78 : hi 7 ≤ lo 8 ∨ hi 8 ≤ lo 7 := hd (7, isBox) (by simp) (8, isBox) (by simp) (show (7 : Nat) ≠ 8 by decide)
    change slot c 7 = .pointer (some ⟨lo 6, 0, none⟩) at e7
    change slot c 8 = .pointer (some ⟨lo 7, 0, none⟩) at e8
    change slot c 9 = .pointer (some ⟨lo 8, 0, none⟩) at e9
    change Blk u (lo 6) _ _ at B7
    change Blk u (lo 7) _ _ at B8
    change Blk u (lo 8) _ _ at B9
    change hi 6 = lo 6 + 1 at n7
    change hi 7 = lo 7 + 1 at n8
    change hi 8 = lo 8 + 1 at n9
    clear hr hb hd hS hS2
    simp only [List.foldl_cons, List.foldl_nil, e1, e2, e3, e7, e8, e9]
    rw [n7] at b6
    rw [n8] at b7
    rw [n9] at b8
    rw [n7] at d16 d36 d56 d67 d68
    rw [n8] at d17 d37 d57 d67 d78
    rw [n9] at d18 d38 d58 d68 d78
    generalize lo 1 = l1 at *
    generalize lo 3 = l3 at *
    generalize lo 5 = l5 at *
    generalize lo 6 = l6 at *
    generalize lo 7 = l7 at *
    generalize lo 8 = l8 at *
    generalize hi 1 = h1 at *
    generalize hi 3 = h3 at *
    generalize hi 5 = h5 at *
    clear e1 e2 e3 e7 e8 e9 n7 n8 n9
    have s1 : m1.l.toArray.size = 22 := by simp [ScrM.l, I1.m, hmx]
    have s2 : m2.l.toArray.size = 22 := by simp [ScrM.l, I2.m, hmy]
    have s3 : m3.l.toArray.size = 22 := by simp [ScrM.l, I3.m, hmx]
    change tailW _ _ _ _ [_, _, _] _ _
    intro v0 x0 hc0
    refine gives_skip (run_store_blk (T0 := 38) (T := 38) (b := l6) (cs := m1.l.toArray) rfl rfl rfl (by rw [s1]; kernel_rfl) m1.ones (by rw [s1]; rfl) (B7.ext x0)) ⟨hc0.setRow (.inl b6.1) _, ?_⟩
    have K0 := calm_setRow v0 l6 m1.l.toArray
    have I1 := (I1.ext x0).calm K0 (fun b hb => out1' hb d16)
    have I2 := (I2.ext x0).calm K0 (fun b hb => out1' hb d36)
    have I3 := (I3.ext x0).calm K0 (fun b hb => out1' hb d56)
    have B7 := (B7.ext x0).setRow m1.l.toArray
    have B8 := (B8.ext x0).farRow (g := l6) (outne d67).symm m1.l.toArray
    have B9 := (B9.ext x0).farRow (g := l6) (outne d68).symm m1.l.toArray
    have hz0 := x0.size
    have hr0 := size_setRow v0 l6 m1.l.toArray
    generalize v0.setRow l6 m1.l.toArray = u0 at *
    intro v1 x1 hc1
    refine gives_skip (run_store_blk (T0 := 38) (T := 38) (b := l7) (cs := m2.l.toArray) rfl rfl rfl (by rw [s2]; kernel_rfl) m2.ones (by rw [s2]; rfl) (B8.ext x1)) ⟨hc1.setRow (.inl b7.1) _, ?_⟩
    have K1 := calm_setRow v1 l7 m2.l.toArray
    have I1 := (I1.ext x1).calm K1 (fun b hb => out1' hb d17)
    have I2 := (I2.ext x1).calm K1 (fun b hb => out1' hb d37)
    have I3 := (I3.ext x1).calm K1 (fun b hb => out1' hb d57)
    have B7 := (B7.ext x1).farRow (g := l7) (outne d67) m2.l.toArray
    have B8 := (B8.ext x1).setRow m2.l.toArray
    have B9 := (B9.ext x1).farRow (g := l7) (outne d78).symm m2.l.toArray
    have hz1 := x1.size
    have hr1 := size_setRow v1 l7 m2.l.toArray
    generalize v1.setRow l7 m2.l.toArray = u1 at *
    intro v2 x2 hc2
    refine gives_skip (run_store_blk (T0 := 38) (T := 38) (b := l8) (cs := m3.l.toArray) rfl rfl rfl (by rw [s3]; kernel_rfl) m3.ones (by rw [s3]; rfl) (B9.ext x2)) ⟨hc2.setRow (.inl b8.1) _, ?_⟩
    have K2 := calm_setRow v2 l8 m3.l.toArray
    have I1 := (I1.ext x2).calm K2 (fun b hb => out1' hb d18)
    have I2 := (I2.ext x2).calm K2 (fun b hb => out1' hb d38)
    have I3 := (I3.ext x2).calm K2 (fun b hb => out1' hb d58)
    have B7 := (B7.ext x2).farRow (g := l8) (outne d68) m3.l.toArray
    have B8 := (B8.ext x2).farRow (g := l8) (outne d78) m3.l.toArray
    have B9 := (B9.ext x2).setRow m3.l.toArray
    have hz2 := x2.size
    have hr2 := size_setRow v2 l8 m3.l.toArray
    generalize v2.setRow l8 m3.l.toArray = u2 at *
    intro v3 x3 hc3
    have hz3 := x3.size
    have hsz2 : w.heap.size ≤ l6 ∧ w.heap.size ≤ l7 ∧ w.heap.size ≤ l8 ∧ l6 ≠ l8 ∧ l7 ≠ l8 := ⟨b6.1, b7.1, b8.1, outne d68, outne d78⟩
    have hsz : w.heap.size ≤ l1 ∧ h1 ≤ v3.heap.size ∧ w.heap.size ≤ l3 ∧ h3 ≤ v3.heap.size ∧ w.heap.size ≤ l5 ∧ h5 ≤ v3.heap.size := by
      clear d15 d35 d16 d17 d18 d36 d37 d38 d56 d57 d58 d67 d68 d78
      refine ⟨?_, ?_, ?_, ?_, ?_, ?_⟩ <;> omega
    exact HQ.out _ _ _ _ _ _ l6 l7 l8 l1 h1 l3 h3 l5 h5 m1 m2 m3 v3 hc3.ext (I1.ext x3) (I2.ext x3) (I3.ext x3) (B7.ext x3) (B8.ext x3) (B9.ext x3) hsz ⟨d15.symm, d35.symm⟩ ⟨out1 d18, out1 d38, out1 d58⟩ ⟨out1 d56, out1 d57⟩ hsz2
end Go.Proofs.YtbbfmlehddfneaaGreat

