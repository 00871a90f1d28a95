/-
  DERIVED. ScriptSame: its end; a number of a vertex is turned (made by mkscrsamelaw.py). · THE WALK of ScriptSame (made by mkscrsamelaw.py).
-/
import Derived.Test.YtbbfmlehddfneaaGreatPkIn
import Derived.Test.YtbbfmlehddfneaaGreatPkSamR18
import Derived.Test.YtbbfmlehddfneaaGreatPkSamR5
namespace Go.Proofs.YtbbfmlehddfneaaGreat
open Go.RowKit
set_option linter.unusedVariables false
set_option maxHeartbeats 1000000 in
theorem scrsame_end (f0 f1 f2 f4 f5 f6 f10 f11 f12 f13 f14 f15 f16 f17 f18 f19 f20 f21 f22 f23 f24 f25 f26 f27 f28 f29 f30 f31 f32 f33 f34 f35 f36 f37 f38 f39 f40 f41 f42 f43 f44 f45 f46 f47 f48 f49 f50 f51 f52 f53 f54 f55 f56 f57 f58 f59 f60 f61 f62 f63 f64 f65 f66 f67 f68 f69 f70 f71 f72 f73 f74 f75 f76 f77 f78 f79 f80 f81 f82 f83 f84 f85 f86 f87 f88 f89 f90 f91 f92 f93 f94 f95 f96 f97 f98 : Value) (b3 b7 b8 b9 la ha lb hb : Nat) (z : Array Value) (hz : z.size = 10) (m1 m2 m3 : ScrM) (x y x3 : Scr) (w0 w : World) (K : Kept w0 w b3 b7 b8 la ha lb hb z m1 m2 x y) (B9 : Blk w b9 m3.l.toArray 38) (SGx : SGood x) (SGy : SGood y) (R3 : ScrR w m3 x3) (f3 : x3.fit) (hne : sameS x x3 = false)
    (hS : ∀ u, Ext w0 u → Calls Tryz.prog 7 #[.agg z] u fun e w' => ∃ m : ScrM, e = .returned (.agg m.l.toArray) ∧ ScrAt w' u.heap.size m x ∧ Ext u w') {Q : Exit → Act → World → Prop}
    (hQ : ∀ (c76 c77 c78 c79 c80 c81 c82 c83 c84 c85 c86 c87 c88 c89 c90 c91 c92 c93 c94 c95 c96 c97 c98 : Value) (wx : World), Ext w wx → Q .normal ⟨(f0 :: f1 :: f2 :: Value.pointer (some ⟨b3, 0, none⟩) :: f4 :: f5 :: Value.bool true :: Value.pointer (some ⟨b7, 0, none⟩) :: Value.pointer (some ⟨b8, 0, none⟩) :: Value.pointer (some ⟨b9, 0, none⟩) :: f10 :: f11 :: f12 :: f13 :: f14 :: f15 :: f16 :: f17 :: f18 :: f19 :: f20 :: f21 :: f22 :: f23 :: f24 :: f25 :: f26 :: f27 :: f28 :: f29 :: f30 :: f31 :: f32 :: f33 :: f34 :: f35 :: f36 :: f37 :: f38 :: f39 :: f40 :: f41 :: f42 :: f43 :: f44 :: f45 :: f46 :: f47 :: f48 :: f49 :: f50 :: f51 :: f52 :: f53 :: f54 :: f55 :: f56 :: f57 :: f58 :: f59 :: f60 :: f61 :: f62 :: f63 :: f64 :: f65 :: f66 :: f67 :: f68 :: f69 :: f70 :: f71 :: f72 :: f73 :: f74 :: f75 :: c76 :: c77 :: c78 :: c79 :: c80 :: c81 :: c82 :: c83 :: c84 :: c85 :: c86 :: c87 :: c88 :: c89 :: c90 :: c91 :: c92 :: c93 :: c94 :: c95 :: c96 :: c97 :: c98 :: List.nil).toArray, []⟩ wx) :
    Code.wp Tryz.prog (regionOf Tryz.f4 18) Q ⟨(f0 :: f1 :: f2 :: Value.pointer (some ⟨b3, 0, none⟩) :: f4 :: f5 :: f6 :: Value.pointer (some ⟨b7, 0, none⟩) :: Value.pointer (some ⟨b8, 0, none⟩) :: Value.pointer (some ⟨b9, 0, none⟩) :: f10 :: f11 :: f12 :: f13 :: f14 :: f15 :: f16 :: f17 :: f18 :: f19 :: f20 :: f21 :: f22 :: f23 :: f24 :: f25 :: f26 :: f27 :: f28 :: f29 :: f30 :: f31 :: f32 :: f33 :: f34 :: f35 :: f36 :: f37 :: f38 :: f39 :: f40 :: f41 :: f42 :: f43 :: f44 :: f45 :: f46 :: f47 :: f48 :: f49 :: f50 :: f51 :: f52 :: f53 :: f54 :: f55 :: f56 :: f57 :: f58 :: f59 :: f60 :: f61 :: f62 :: f63 :: f64 :: f65 :: f66 :: f67 :: f68 :: f69 :: f70 :: f71 :: f72 :: f73 :: f74 :: f75 :: f76 :: f77 :: f78 :: f79 :: f80 :: f81 :: f82 :: f83 :: f84 :: f85 :: f86 :: f87 :: f88 :: f89 :: f90 :: f91 :: f92 :: f93 :: f94 :: f95 :: f96 :: f97 :: f98 :: List.nil).toArray, []⟩ w := by
  have fx := SGx.rd.r0.fit
  have fy := SGy.rd.r0.fit
  have R1 := K.I1.rd SGx.rd.r0.wf
  have R2 := K.I2.rd SGy.rd.r0.wf
  refine scrsame_r18 f0 f1 f2 f4 f5 f6 f10 f11 f12 f13 f14 f15 f16 f17 f18 f19 f20 f21 f22 f23 f24 f25 f26 f27 f28 f29 f30 f31 f32 f33 f34 f35 f36 f37 f38 f39 f40 f41 f42 f43 f44 f45 f46 f47 f48 f49 f50 f51 f52 f53 f54 f55 f56 f57 f58 f59 f60 f61 f62 f63 f64 f65 f66 f67 f68 f69 f70 f71 f72 f73 f74 f75 f76 f77 f78 f79 f80 f81 f82 f83 f84 f85 f86 f87 f88 f89 f90 f91 f92 f93 f94 f95 f96 f97 f98 b3 b7 b8 b9 z _ _ _ hz (by simp [ScrM.l, K.I1.m, fx.m16]) (by simp [ScrM.l, K.I2.m, fy.m16]) (by simp [ScrM.l, R3.m, f3.m16]) (encS x) (encS y) (sameS x y) (same_bytes SGx.rd SGy.rd SGx.chk SGy.chk) w K.B3 K.B7 K.B8 B9 (fun u hu => ?_) (fun u hu => ?_) (fun u hu => same_any m1 m2 x y u (R1.ext hu) (R2.ext hu) fx fy) (fun u hu => bytes11_any m1 x u (R1.ext hu) fx SGx.chk) (fun u hu => bytes11_any m2 y u (R2.ext hu) fy SGy.chk) hQ
  · refine (hS u (K.ext.trans hu)).mono ?_
    rintro e w' ⟨m, rfl, h1, h2⟩
    refine ⟨m, rfl, fun u' hu' => ?_, h2⟩
    have := same_any m1 m x x u' (R1.ext ((hu.trans h2).trans hu')) ((h1.rd SGx.rd.r0.wf).ext hu') fx fx
    rw [sameS_self] at this
    exact this
  · have := same_any m1 m3 x x3 u (R1.ext hu) (R3.ext hu) fx f3
    rw [hne] at this
    exact this
set_option maxRecDepth 100000 in
set_option maxHeartbeats 4000000 in
theorem scrsame_r13 (f0 f1 f2 f3 f4 f5 f6 f7 f8 f10 f11 f12 f13 f14 f15 f16 f17 f18 f19 f20 f21 f22 f23 f24 f25 f26 f27 f28 f29 f30 f31 f32 f33 f34 f35 f36 f37 f38 f39 f40 f41 f42 f43 f44 f45 f46 f47 f48 f49 f50 f51 f52 f53 f54 f55 f56 f57 f58 f59 f60 f61 f62 f63 f64 f65 f66 f67 f68 f69 f70 f71 f72 f73 f74 f75 f76 f77 f78 f79 f80 f81 f82 f83 f84 f85 f86 f87 f88 f89 f90 f91 f92 f93 f94 f95 f96 f97 f98 : Value) (b9 g n cp : Nat) (z : Array Value) (a : Int) (w : World) (B9 : Blk w b9 z 38) (ez : z[18]? = some (.slice (some ⟨g, 0, none⟩) n cp)) (hn : 0 < n) (cg : w.cell? ⟨g, 5, none⟩ = some (.int .i64 a)) (hg : g < w.heap.size) (fg : w.frozen? ⟨g, 5, none⟩ = false) (ha : -9223372036854775808 ≤ a ∧ a < 9223372036854775807) {Q : Exit → Act → World → Prop}
    (hQ : ∀ (c52 c53 c54 c55 c56 c57 c58 c59 c60 c61 : Value) (u wx : World), Ext w u → Ext (u.setCell ⟨g, 5, none⟩ (.int .i64 (a + 1))) wx → Q .normal ⟨(f0 :: f1 :: f2 :: f3 :: f4 :: f5 :: f6 :: f7 :: f8 :: Value.pointer (some ⟨b9, 0, none⟩) :: f10 :: f11 :: f12 :: f13 :: f14 :: f15 :: f16 :: f17 :: f18 :: f19 :: f20 :: f21 :: f22 :: f23 :: f24 :: f25 :: f26 :: f27 :: f28 :: f29 :: f30 :: f31 :: f32 :: f33 :: f34 :: f35 :: f36 :: f37 :: f38 :: f39 :: f40 :: f41 :: f42 :: f43 :: f44 :: f45 :: f46 :: f47 :: f48 :: f49 :: f50 :: f51 :: c52 :: c53 :: c54 :: c55 :: c56 :: c57 :: c58 :: c59 :: c60 :: c61 :: f62 :: f63 :: f64 :: f65 :: f66 :: f67 :: f68 :: f69 :: f70 :: f71 :: f72 :: f73 :: f74 :: f75 :: f76 :: f77 :: f78 :: f79 :: f80 :: f81 :: f82 :: f83 :: f84 :: f85 :: f86 :: f87 :: f88 :: f89 :: f90 :: f91 :: f92 :: f93 :: f94 :: f95 :: f96 :: f97 :: f98 :: List.nil).toArray, []⟩ wx) :
    Code.wp Tryz.prog (regionOf Tryz.f4 13) Q ⟨(f0 :: f1 :: f2 :: f3 :: f4 :: f5 :: f6 :: f7 :: f8 :: Value.pointer (some ⟨b9, 0, none⟩) :: f10 :: f11 :: f12 :: f13 :: f14 :: f15 :: f16 :: f17 :: f18 :: f19 :: f20 :: f21 :: f22 :: f23 :: f24 :: f25 :: f26 :: f27 :: f28 :: f29 :: f30 :: f31 :: f32 :: f33 :: f34 :: f35 :: f36 :: f37 :: f38 :: f39 :: f40 :: f41 :: f42 :: f43 :: f44 :: f45 :: f46 :: f47 :: f48 :: f49 :: f50 :: f51 :: f52 :: f53 :: f54 :: f55 :: f56 :: f57 :: f58 :: f59 :: f60 :: f61 :: f62 :: f63 :: f64 :: f65 :: f66 :: f67 :: f68 :: f69 :: f70 :: f71 :: f72 :: f73 :: f74 :: f75 :: f76 :: f77 :: f78 :: f79 :: f80 :: f81 :: f82 :: f83 :: f84 :: f85 :: f86 :: f87 :: f88 :: f89 :: f90 :: f91 :: f92 :: f93 :: f94 :: f95 :: f96 :: f97 :: f98 :: List.nil).toArray, []⟩ w := by
  have HQ := Lib.hid hQ
  clear hQ
  have hnI : (0 : Int) < (n : Int) := by omega
  have hwr : IntKind.i64.wrap (a + 1) = a + 1 := by rw [IntKind.wrap_i64]; omega
  change Code.wp Tryz.prog (Code.region _ _ true) _ _ _
  apply wp_region_make 8 [false, false, false, false, false, false, false, false, false, false, true] [] [] [10] [g] _ (by kernel_rfl) (by kernel_rfl) (by kernel_rfl) (by kernel_rfl)
  case hR => intro p hp; cases hp
  case H =>
    intro y0 hy0
    have hne : Nonempty (Wx y0) := ⟨⟨y0, Ext.refl y0⟩⟩
    have q9 := fun (y : Wx y0) => ((B9.ext (hy0.trans y.ext)).cell 18).trans ez
    have qg := fun (y : Wx y0) => (hy0.trans y.ext).old cg
    simp only [eraseM]
    repeat (go_big_quiet_step (fail))
    exact wpQuiet_nil rfl
  case hF => rfl
  case hG => intro p hp; cases hp
  case T =>
    intro c u lo hi xu hr hb hd
    change tailW _ _ _ _ [_] _ _
    intro v0 x0 hc0
    have x1 := xu.trans x0
    have c1 := x1.old cg
    have f1 : v0.frozen? ⟨g, 5, none⟩ = false := by
      have := x1.block hg
      unfold World.frozen? at fg ⊢
      simpa [this] using fg
    refine gives_skip (u' := v0.setCell ⟨g, 5, none⟩ (.int .i64 (a + 1))) (by simp [go_sem, c1, f1]) ⟨hc0.trans (calm_setP v0 g 5 _), fun v1 x2 hc1 => ?_⟩
    exact HQ.out _ _ _ _ _ _ _ _ _ _ v0 v1 x1 x2
end Go.Proofs.YtbbfmlehddfneaaGreat

namespace Go.Proofs.YtbbfmlehddfneaaGreat
open Go.RowKit
set_option linter.unusedVariables false
set_option maxRecDepth 100000 in
set_option maxHeartbeats 4000000 in
theorem scriptSame_main (w : World) (s : SScr) (vs : List VSm) (sh pa : List SlV) (ds : List DSm) (Q : SScrQ w s vs sh pa ds) (t : SScr) (vt : List VSm) (th ta : List SlV) (dt : List DSm) (Q2 : SScrQ w t vt th ta dt) (n : Int) (hn : 0 ≤ n ∧ n ≤ 255) : Calls Tryz.prog 4 #[.agg s.v, .agg t.v, .int .u8 n] w fun e w' => e = .returned (.bool true) ∧ Ext w w' := by
  have hL := fun u (hu : Ext w u) => light_any u s vs sh pa ds (Q.ext hu)
  have hS := fun u (hu : Ext w u) hl Ls Lp hs hp LX hd => script11_any u s vs sh pa ds (Q.ext hu) hl Ls Lp hs hp LX hd
  obtain ⟨Ls, hCs⟩ := conts_of Q.sq
  obtain ⟨Lp, hCp⟩ := conts_of Q.pq
  obtain ⟨LX, hCd⟩ := dconts_of Q.dq
  have SG := scriptF_ok Q hCs hCp hCd
  have hS := fun u (hu : Ext w u) hl => hS u hu hl Ls Lp (hCs.ext hu) (hCp.ext hu) LX (hCd.ext hu)
  have hpa0 : (scriptF s vs Ls Lp ds LX).pa[0]? = some [] := rfl
  generalize scriptF s vs Ls Lp ds LX = x at *
  clear hCs hCp hCd Q
  have hL2 := fun u (hu : Ext w u) => light_any u t vt th ta dt (Q2.ext hu)
  have hS2 := fun u (hu : Ext w u) hl Ls Lp hs hp LX hd => script11_any u t vt th ta dt (Q2.ext hu) hl Ls Lp hs hp LX hd
  obtain ⟨Ls2, hCs⟩ := conts_of Q2.sq
  obtain ⟨Lp2, hCp⟩ := conts_of Q2.pq
  obtain ⟨LX2, hCd⟩ := dconts_of Q2.dq
  have SG2 := scriptF_ok Q2 hCs hCp hCd
  have hS2 := fun u (hu : Ext w u) hl => hS2 u hu hl Ls2 Lp2 (hCs.ext hu) (hCp.ext hu) LX2 (hCd.ext hu)
  generalize scriptF t vt Ls2 Lp2 dt LX2 = y at *
  clear hCs hCp hCd Q2
  obtain ⟨wd, ht, t0, t1, t2, t3, ⟨va, vn, vc⟩, ⟨sa, sn, sc⟩, ⟨pa', pn, pc⟩, ⟨da, dn, dc⟩⟩ := s
  obtain ⟨wd2, ht2, q0, q1, q2, q3, ⟨va2, vn2, vc2⟩, ⟨sa2, sn2, sc2⟩, ⟨pa2, pn2, pc2⟩, ⟨da2, dn2, dc2⟩⟩ := t
  have x1 := ((Ext.refl w).alloc #[.int .u8 wd, .int .u8 ht, .int .i16 t0, .int .i16 t1, .int .i16 t2, .int .i16 t3, .slice va vn vc, .slice sa sn sc, .slice pa' pn pc, .slice da dn dc] 28).alloc #[.int .u8 wd2, .int .u8 ht2, .int .i16 q0, .int .i16 q1, .int .i16 q2, .int .i16 q3, .slice va2 vn2 vc2, .slice sa2 sn2 sc2, .slice pa2 pn2 pc2, .slice da2 dn2 dc2] 28
  have B3 := (Blk.new w #[.int .u8 wd, .int .u8 ht, .int .i16 t0, .int .i16 t1, .int .i16 t2, .int .i16 t3, .slice va vn vc, .slice sa sn sc, .slice pa' pn pc, .slice da dn dc] 28).alloc (.cells #[.int .u8 wd2, .int .u8 ht2, .int .i16 q0, .int .i16 q1, .int .i16 q2, .int .i16 q3, .slice va2 vn2 vc2, .slice sa2 sn2 sc2, .slice pa2 pn2 pc2, .slice da2 dn2 dc2] 28)
  have B4 := Blk.new (w.alloc (.cells #[.int .u8 wd, .int .u8 ht, .int .i16 t0, .int .i16 t1, .int .i16 t2, .int .i16 t3, .slice va vn vc, .slice sa sn sc, .slice pa' pn pc, .slice da dn dc] 28)) #[.int .u8 wd2, .int .u8 ht2, .int .i16 q0, .int .i16 q1, .int .i16 q2, .int .i16 q3, .slice va2 vn2 vc2, .slice sa2 sn2 sc2, .slice pa2 pn2 pc2, .slice da2 dn2 dc2] 28
  have hz0 : (w.alloc (.cells #[.int .u8 wd, .int .u8 ht, .int .i16 t0, .int .i16 t1, .int .i16 t2, .int .i16 t3, .slice va vn vc, .slice sa sn sc, .slice pa' pn pc, .slice da dn dc] 28)).heap.size = w.heap.size + 1 := World.size_alloc ..
  go_enter Tryz.func4, Tryz.ntmps4
  go_upto_region 1 with fail
  rw [hz0] at B4
  generalize (w.alloc (.cells #[.int .u8 wd, .int .u8 ht, .int .i16 t0, .int .i16 t1, .int .i16 t2, .int .i16 t3, .slice va vn vc, .slice sa sn sc, .slice pa' pn pc, .slice da dn dc] 28)).alloc (.cells #[.int .u8 wd2, .int .u8 ht2, .int .i16 q0, .int .i16 q1, .int .i16 q2, .int .i16 q3, .slice va2 vn2 vc2, .slice sa2 sn2 sc2, .slice pa2 pn2 pc2, .slice da2 dn2 dc2] 28) = w1 at *
  have hb3w := B3.lt
  have hb4w := B4.lt
  generalize hb3 : w.heap.size = b3 at *
  generalize hb4 : b3 + 1 = b4 at *
  clear hb4 hz0
  go_wp2_with fail
  refine (awake11_any _).mono ?_
  rintro e w2 ⟨rfl, x2⟩
  have B3 := B3.ext x2
  have B4 := B4.ext x2
  have E2 := x1.trans x2
  clear x1 x2
  go_wp2_with (first
    | ((with_reducible refine wpList_load_blk (op := ⟨some 12, _, _, _, _, _⟩) ?_ 28 (.tmp 3) ?_ b3 ?_ (z := _) (T := 28) B3 Tryz.underlying28 ?_ ?_ ?_); rfl; rfl; rfl; rfl; kernel_rfl)
    | fail)
  refine (hL _ E2).mono ?_
  rintro e w3 ⟨rfl, x3⟩
  have B3 := B3.ext x3
  have B4 := B4.ext x3
  have E3 := E2.trans x3
  clear E2 x3 hL
  cases hl : lightB vs sh pa ds
  · go_wp2
    go_ret
    exact ⟨rfl, by first | exact E3 | (rw [hb3]; exact E3)⟩
  have hS := fun u hu => hS u hu hl
  clear hl
  have cB4 := B4.cell
  go_wp2_with fail
  refine (hL2 _ E3).mono ?_
  rintro e w5 ⟨rfl, x5⟩
  have B3 := B3.ext x5
  have B4 := B4.ext x5
  have E5 := E3.trans x5
  clear E3 x5 hL2 cB4
  cases hl2 : lightB vt th ta dt
  · go_wp2
    go_ret
    exact ⟨rfl, by first | exact E5 | (rw [hb3]; exact E5)⟩
  have hS2 := fun u hu => hS2 u hu hl2
  clear hl2
  have hb3w := B3.lt
  have HS := Lib.hid (fun u (hu : Ext w5 u) => hS u (E5.trans hu))
  have HS2 := Lib.hid (fun u (hu : Ext w5 u) => hS2 u (E5.trans hu))
  clear hS hS2
  go_upto_region 5 with fail
  refine scrsame_r5 _ _ _ _ _ _ _ _ _ _ _ _ _ _ _ _ _ _ _ _ _ _ _ _ _ _ _ _ _ _ _ _ _ _ _ _ _ _ _ _ _ _ _ _ _ _ _ _ _ _ _ _ _ _ _ _ _ _ _ _ _ _ _ _ _ _ _ _ _ _ _ _ _ _ _ _ _ _ _ _ _ _ _ _ _ _ _ _ _ _ _ _ _ _ _ _ _ b3 b4 _ _ rfl rfl x y w5 B3 B4 HS.out HS2.out SG.rd.r0.fit.m16 SG2.rd.r0.fit.m16 ?_
  intro c20 c21 c22 c23 c24 c25 b7 b8 b9 la ha lb hb lc hc m1 m2 m3 w6 x6 I1 I2 I3 B7 B8 B9 sz ap bo co ne
  have T : Three w5 w6 b3 b7 b8 b9 la ha lb hb lc hc #[.int .u8 wd, .int .u8 ht, .int .i16 t0, .int .i16 t1, .int .i16 t2, .int .i16 t3, .slice va vn vc, .slice sa sn sc, .slice pa' pn pc, .slice da dn dc] m1 m2 m3 x y := ⟨I1, I2, I3, B3.ext x6, B7, B8, B9, x6, ⟨sz.1, sz.2.2.1, sz.2.2.2.2.1, ne.2.2.1, ne.1, ne.2.1⟩, ⟨sz.2.1, sz.2.2.2.1, sz.2.2.2.2.2⟩, ap.imp id id, bo, co, ⟨hb3w, ne.2.2.2.1, ne.2.2.2.2⟩⟩
  clear I1 I2 B7 B8 sz ap bo co ne B3 B4 x6
  have hfit := SG.rd.r0.fit
  have hwf := SG.rd.r0.wf
  have hg := chkS_good SG.chk
  have hcN := chkN_of SG.chk
  have R3 := I3.rd hwf
  have em := I3.m
  have eW := I3.W
  have hm16 : m3.m.length = 16 := by rw [em]; exact hfit.m16
  obtain ⟨cW, cH, mm, ⟨cva, cvn, cvc⟩, ⟨csa, csn, csc⟩, ⟨cpa, cpn, cpc⟩, ⟨cda, cdn, cdc⟩⟩ := m3
  dsimp only at hm16 em eW
  obtain ⟨k0, k1, k2, k3, k4, k5, k6, k7, k8, k9, k10, k11, k12, k13, k14, k15, rfl⟩ := sixteen mm hm16
  clear hm16
  have B9 : Blk w6 b9 #[.int .i64 cW, .int .i64 cH, .int .i64 k0, .int .i64 k1, .int .i64 k2, .int .i64 k3, .int .i64 k4, .int .i64 k5, .int .i64 k6, .int .i64 k7, .int .i64 k8, .int .i64 k9, .int .i64 k10, .int .i64 k11, .int .i64 k12, .int .i64 k13, .int .i64 k14, .int .i64 k15, .slice cva cvn cvc, .slice csa csn csc, .slice cpa cpn cpc, .slice cda cdn cdc] 38 := B9
  have cB9 := B9.cell
  have fB9 := B9.frozen
  have E6 : Ext w w6 := E5.trans T.ext
  have h6 : n % 6 = 0 ∨ n % 6 = 1 ∨ n % 6 = 2 ∨ n % 6 = 3 ∨ n % 6 = 4 ∨ n % 6 = 5 := by omega
  have HT := Lib.hid T
  have HG := Lib.hid hg
  have HN := Lib.hid hcN
  have HF := Lib.hid hfit
  have HW := Lib.hid eW
  have HM := Lib.hid em
  have HP := Lib.hid hpa0
  have HR := Lib.hid R3
  have HI := Lib.hid I3
  have HWF := Lib.hid hwf
  clear T hg hcN hfit eW em hpa0 R3 I3 hwf
  rcases h6 with hk | hk | hk | hk | hk | hk
  · have hwB := HG.out.W
    rw [← HW.out] at hwB
    go_upto_region 18 with fail
    have kS := calm_setP w6 b9 0 (.int .i64 (cW + 1))
    have K := HT.out.turn kS (fun b hb => .inl (List.mem_singleton.1 hb))
    have B9n : Blk (w6.setCell ⟨b9, 0, none⟩ (.int .i64 (cW + 1))) b9 (ScrM.l ⟨cW + 1, cH, [k0, k1, k2, k3, k4, k5, k6, k7, k8, k9, k10, k11, k12, k13, k14, k15], ⟨cva, cvn, cvc⟩, ⟨csa, csn, csc⟩, ⟨cpa, cpn, cpc⟩, ⟨cda, cdn, cdc⟩⟩).toArray 38 := by simpa [ScrM.l] using B9.set 0 (.int .i64 (cW + 1))
    have R := (HT.out.own kS).rd HWF.out
    have R3n : ScrR (w6.setCell ⟨b9, 0, none⟩ (.int .i64 (cW + 1))) ⟨cW + 1, cH, [k0, k1, k2, k3, k4, k5, k6, k7, k8, k9, k10, k11, k12, k13, k14, k15], ⟨cva, cvn, cvc⟩, ⟨csa, csn, csc⟩, ⟨cpa, cpn, cpc⟩, ⟨cda, cdn, cdc⟩⟩ ⟨x.W + 1, x.H, x.m, x.verts, x.sh, x.pa, x.draws⟩ := ⟨by show cW + 1 = x.W + 1; rw [HW.out], R.H, R.m, R.vr, R.sr, R.pr, R.dr⟩
    have f3 : Scr.fit ⟨x.W + 1, x.H, x.m, x.verts, x.sh, x.pa, x.draws⟩ := ⟨(by have := HG.out.W; simp only [I64]; omega), HF.out.H, HF.out.m16, HF.out.m, HF.out.v, HF.out.vl, HF.out.s, HF.out.sl, HF.out.p, HF.out.pl, HF.out.d, HF.out.dl⟩
    have hne : sameS x ⟨x.W + 1, x.H, x.m, x.verts, x.sh, x.pa, x.draws⟩ = false := sameS_no (.inl (by simp only; omega))
    clear R
    refine scrsame_end _ _ _ _ _ _ _ _ _ _ _ _ _ _ _ _ _ _ _ _ _ _ _ _ _ _ _ _ _ _ _ _ _ _ _ _ _ _ _ _ _ _ _ _ _ _ _ _ _ _ _ _ _ _ _ _ _ _ _ _ _ _ _ _ _ _ _ _ _ _ _ _ _ _ _ _ _ _ _ _ _ _ _ _ _ _ _ _ _ _ _ _ _ _ _ b3 b7 b8 b9 la ha lb hb _ rfl m1 m2 ⟨cW + 1, cH, [k0, k1, k2, k3, k4, k5, k6, k7, k8, k9, k10, k11, k12, k13, k14, k15], ⟨cva, cvn, cvc⟩, ⟨csa, csn, csc⟩, ⟨cpa, cpn, cpc⟩, ⟨cda, cdn, cdc⟩⟩ x y ⟨x.W + 1, x.H, x.m, x.verts, x.sh, x.pa, x.draws⟩ w5 _ K B9n SG SG2 R3n f3 hne HS.out ?_
    intro d76 d77 d78 d79 d80 d81 d82 d83 d84 d85 d86 d87 d88 d89 d90 d91 d92 d93 d94 d95 d96 d97 d98 w9 x9
    have Ef := (E5.trans K.ext).trans x9
    clear K B9n R3n
    go_wp2
    go_ret
    exact ⟨rfl, by first | exact Ef | (rw [hb3]; exact Ef)⟩
  · have hkb : -2147483647 ≤ k0 ∧ k0 ≤ 2147483647 := by
      have h1 := HN.out
      unfold chkN at h1
      rw [Bool.and_eq_true] at h1
      have := List.all_eq_true.1 h1.1 k0 (by rw [← HM.out]; simp)
      simpa [inB] using this
    have hwr : IntKind.i64.wrap (k0 + 1) = k0 + 1 := by rw [IntKind.wrap_i64]; omega
    go_upto_region 18 with fail
    have kS := calm_setP w6 b9 2 (.int .i64 (k0 + 1))
    have K := HT.out.turn kS (fun b hb => .inl (List.mem_singleton.1 hb))
    have B9n : Blk (w6.setCell ⟨b9, 2, none⟩ (.int .i64 (k0 + 1))) b9 (ScrM.l ⟨cW, cH, [k0 + 1, k1, k2, k3, k4, k5, k6, k7, k8, k9, k10, k11, k12, k13, k14, k15], ⟨cva, cvn, cvc⟩, ⟨csa, csn, csc⟩, ⟨cpa, cpn, cpc⟩, ⟨cda, cdn, cdc⟩⟩).toArray 38 := by simpa [ScrM.l] using B9.set 2 (.int .i64 (k0 + 1))
    have R := (HT.out.own kS).rd HWF.out
    have R3n : ScrR (w6.setCell ⟨b9, 2, none⟩ (.int .i64 (k0 + 1))) ⟨cW, cH, [k0 + 1, k1, k2, k3, k4, k5, k6, k7, k8, k9, k10, k11, k12, k13, k14, k15], ⟨cva, cvn, cvc⟩, ⟨csa, csn, csc⟩, ⟨cpa, cpn, cpc⟩, ⟨cda, cdn, cdc⟩⟩ ⟨x.W, x.H, [k0 + 1, k1, k2, k3, k4, k5, k6, k7, k8, k9, k10, k11, k12, k13, k14, k15], x.verts, x.sh, x.pa, x.draws⟩ := ⟨R.W, R.H, rfl, R.vr, R.sr, R.pr, R.dr⟩
    have fm : ∀ y ∈ ([k0 + 1, k1, k2, k3, k4, k5, k6, k7, k8, k9, k10, k11, k12, k13, k14, k15] : List Int), I64 y := fun y hy => by
      rcases List.mem_cons.1 hy with rfl | hy
      · unfold I64; omega
      · exact HF.out.m y (by rw [← HM.out]; exact List.mem_cons_of_mem _ hy)
    have f3 : Scr.fit ⟨x.W, x.H, [k0 + 1, k1, k2, k3, k4, k5, k6, k7, k8, k9, k10, k11, k12, k13, k14, k15], x.verts, x.sh, x.pa, x.draws⟩ := ⟨HF.out.W, HF.out.H, rfl, fm, HF.out.v, HF.out.vl, HF.out.s, HF.out.sl, HF.out.p, HF.out.pl, HF.out.d, HF.out.dl⟩
    have hne : sameS x ⟨x.W, x.H, [k0 + 1, k1, k2, k3, k4, k5, k6, k7, k8, k9, k10, k11, k12, k13, k14, k15], x.verts, x.sh, x.pa, x.draws⟩ = false := sameS_no (.inr (.inl (by rw [← HM.out]; simp only [ne_eq, List.cons.injEq, and_true]; omega)))
    clear R
    refine scrsame_end _ _ _ _ _ _ _ _ _ _ _ _ _ _ _ _ _ _ _ _ _ _ _ _ _ _ _ _ _ _ _ _ _ _ _ _ _ _ _ _ _ _ _ _ _ _ _ _ _ _ _ _ _ _ _ _ _ _ _ _ _ _ _ _ _ _ _ _ _ _ _ _ _ _ _ _ _ _ _ _ _ _ _ _ _ _ _ _ _ _ _ _ _ _ _ b3 b7 b8 b9 la ha lb hb _ rfl m1 m2 ⟨cW, cH, [k0 + 1, k1, k2, k3, k4, k5, k6, k7, k8, k9, k10, k11, k12, k13, k14, k15], ⟨cva, cvn, cvc⟩, ⟨csa, csn, csc⟩, ⟨cpa, cpn, cpc⟩, ⟨cda, cdn, cdc⟩⟩ x y ⟨x.W, x.H, [k0 + 1, k1, k2, k3, k4, k5, k6, k7, k8, k9, k10, k11, k12, k13, k14, k15], x.verts, x.sh, x.pa, x.draws⟩ w5 _ K B9n SG SG2 R3n f3 hne HS.out ?_
    intro d76 d77 d78 d79 d80 d81 d82 d83 d84 d85 d86 d87 d88 d89 d90 d91 d92 d93 d94 d95 d96 d97 d98 w9 x9
    have Ef := (E5.trans K.ext).trans x9
    clear K B9n R3n
    go_wp2
    go_ret
    exact ⟨rfl, by first | exact Ef | (rw [hb3]; exact Ef)⟩
  · go_upto_region 13 with fail
    obtain ⟨-, -, -, h1, l2, h2, l3, h3, l4, ⟨oV, hV⟩, kS2, kP3, kD4, n1, n2, n3, n4, n5, n6, n7, n8⟩ := HI.out
    have b9o := HT.out.b9out.2.2
    have hlc := HT.out.lo.2.2.1
    have hhc := HT.out.hi.2.2
    have hb9 := B9.lt
    obtain ⟨g, v, e0, hn0, hv0, hcv⟩ := oV.nth 0 (by have := SG.v; omega)
    cases e0
    dsimp only at hn0
    have hglt := oV.lt g rfl
    have hvlt := hV g rfl
    have hvin : -4194304 ≤ v.c1 ∧ v.c1 ≤ 4194304 := by
      have h1 := HN.out
      unfold chkN at h1
      rw [Bool.and_eq_true] at h1
      have := List.all_eq_true.1 h1.2 v (List.mem_of_getElem? hv0)
      simp [V8.inB, inB] at this
      omega
    refine scrsame_r13 _ _ _ _ _ _ _ _ _ _ _ _ _ _ _ _ _ _ _ _ _ _ _ _ _ _ _ _ _ _ _ _ _ _ _ _ _ _ _ _ _ _ _ _ _ _ _ _ _ _ _ _ _ _ _ _ _ _ _ _ _ _ _ _ _ _ _ _ _ _ _ _ _ _ _ _ _ _ _ _ _ _ _ _ _ _ _ _ _ _ _ _ _ _ _ _ _ _ b9 g cvn cvc _ v.c1 w6 B9 rfl (by have := SG.v; omega) (by simpa using hcv 5 (.int .i64 v.c1) rfl) hglt.2 (oV.thaw hn0 5) (by omega) ?_
    intro e52 e53 e54 e55 e56 e57 e58 e59 e60 e61 u w7 xu x7
    have kS : Calm [g] w6 w7 := (xu.calm [g]).trans ((calm_setP u g 5 _).trans (x7.calm [g]))
    have hgc : lc ≤ g ∧ g < hc := by omega
    have K := HT.out.turn kS (fun b hb => .inr (by rw [List.mem_singleton.1 hb]; exact hgc))
    have B9n : Blk w7 b9 (ScrM.l ⟨cW, cH, [k0, k1, k2, k3, k4, k5, k6, k7, k8, k9, k10, k11, k12, k13, k14, k15], ⟨some ⟨g, 0, none⟩, cvn, cvc⟩, ⟨csa, csn, csc⟩, ⟨cpa, cpn, cpc⟩, ⟨cda, cdn, cdc⟩⟩).toArray 38 := B9.calm kS (fun hin => by have := List.mem_singleton.1 hin; omega)
    have hvv : ∃ r, x.verts = v :: r := by
      cases hx : x.verts with
      | nil => rw [hx] at hv0; simp at hv0
      | cons a r => rw [hx] at hv0; simp at hv0; subst hv0; exact ⟨r, rfl⟩
    obtain ⟨r, hvr⟩ := hvv
    have oN : OwnG LV w7 lc (.slice (some ⟨g, 0, none⟩) cvn cvc) (x.verts.set 0 ⟨v.p0, v.p1, v.p2, v.p3, v.c0, v.c1 + 1, v.c2, v.c3⟩) := (((oV.ext xu).store hn0 5 (.int .i64 (v.c1 + 1)) (by simp) (by rw [hvr]; exact flatV_set v r (v.c1 + 1)))).ext x7
    have hr1 : ∀ b ∈ [g], b < l2 ∨ h2 ≤ b := fun b hb => by rw [List.mem_singleton.1 hb]; left; omega
    have hr2 : ∀ b ∈ [g], b < l3 ∨ h3 ≤ b := fun b hb => by rw [List.mem_singleton.1 hb]; left; omega
    have hr3 : ∀ b ∈ [g], b < l4 ∨ hc ≤ b := fun b hb => by rw [List.mem_singleton.1 hb]; left; omega
    have R3n : ScrR w7 ⟨cW, cH, [k0, k1, k2, k3, k4, k5, k6, k7, k8, k9, k10, k11, k12, k13, k14, k15], ⟨some ⟨g, 0, none⟩, cvn, cvc⟩, ⟨csa, csn, csc⟩, ⟨cpa, cpn, cpc⟩, ⟨cda, cdn, cdc⟩⟩ ⟨x.W, x.H, x.m, (x.verts.set 0 ⟨v.p0, v.p1, v.p2, v.p3, v.c0, v.c1 + 1, v.c2, v.c3⟩), x.sh, x.pa, x.draws⟩ := ⟨HR.out.W, HR.out.H, HR.out.m, oN.parr, (kS2.calm kS hr1).rd, (kP3.calm kS hr2).rd, (kD4.calm kS hr3).db.rd HWF.out⟩
    have hvf := HF.out.v v (List.mem_of_getElem? hv0)
    have f3 : Scr.fit ⟨x.W, x.H, x.m, (x.verts.set 0 ⟨v.p0, v.p1, v.p2, v.p3, v.c0, v.c1 + 1, v.c2, v.c3⟩), x.sh, x.pa, x.draws⟩ := ⟨HF.out.W, HF.out.H, HF.out.m16, HF.out.m, (fun q hq => by rcases List.mem_or_eq_of_mem_set hq with h | h; exact HF.out.v q h; (rw [h]; obtain ⟨hf1, hf2, hf3, hf4, hf5⟩ := hvf; exact ⟨hf1, hf2, by unfold I64; simp only; omega, hf4, hf5⟩)), (by simp only [List.length_set]; exact HF.out.vl), HF.out.s, HF.out.sl, HF.out.p, HF.out.pl, HF.out.d, HF.out.dl⟩
    have hne : sameS x ⟨x.W, x.H, x.m, (x.verts.set 0 ⟨v.p0, v.p1, v.p2, v.p3, v.c0, v.c1 + 1, v.c2, v.c3⟩), x.sh, x.pa, x.draws⟩ = false := sameS_no (.inr (.inr (.inl (fun e => by
      have h5 := congrArg (fun l => l[0]?) e
      simp only [hvr, List.set_cons_zero, List.getElem?_cons_zero, Option.some.injEq] at h5
      have h6 := congrArg V8.c1 h5
      simp only at h6
      omega))))
    clear oN
    go_upto_region 18 with fail
    refine scrsame_end _ _ _ _ _ _ _ _ _ _ _ _ _ _ _ _ _ _ _ _ _ _ _ _ _ _ _ _ _ _ _ _ _ _ _ _ _ _ _ _ _ _ _ _ _ _ _ _ _ _ _ _ _ _ _ _ _ _ _ _ _ _ _ _ _ _ _ _ _ _ _ _ _ _ _ _ _ _ _ _ _ _ _ _ _ _ _ _ _ _ _ _ _ _ _ b3 b7 b8 b9 la ha lb hb _ rfl m1 m2 ⟨cW, cH, [k0, k1, k2, k3, k4, k5, k6, k7, k8, k9, k10, k11, k12, k13, k14, k15], ⟨some ⟨g, 0, none⟩, cvn, cvc⟩, ⟨csa, csn, csc⟩, ⟨cpa, cpn, cpc⟩, ⟨cda, cdn, cdc⟩⟩ x y ⟨x.W, x.H, x.m, (x.verts.set 0 ⟨v.p0, v.p1, v.p2, v.p3, v.c0, v.c1 + 1, v.c2, v.c3⟩), x.sh, x.pa, x.draws⟩ w5 _ K B9n SG SG2 R3n f3 hne HS.out ?_
    intro d76 d77 d78 d79 d80 d81 d82 d83 d84 d85 d86 d87 d88 d89 d90 d91 d92 d93 d94 d95 d96 d97 d98 w9 x9
    have Ef := (E5.trans K.ext).trans x9
    clear K B9n R3n
    go_wp2
    go_ret
    exact ⟨rfl, by first | exact Ef | (rw [hb3]; exact Ef)⟩
  · have hsl := HG.out.s
    obtain ⟨-, -, -, h1, l2, h2, l3, h3, l4, ⟨oV, hV⟩, kS2, kP3, kD4, n1, n2, n3, n4, n5, n6, n7, n8⟩ := HI.out
    have b9o := HT.out.b9out.2.2
    have hlc := HT.out.lo.2.2.1
    have hhc := HT.out.hi.2.2
    have hb9 := B9.lt
    obtain ⟨svs, oS, pS, aS, bS, bS2⟩ := kS2
    obtain ⟨_, _, es, -, -⟩ := id oS.slice
    cases es
    have y7 : Ext w6 (w6.alloc (.cells #[.slice none 0 0] 56)) := (Ext.refl w6).alloc _ _
    have hcn : ∀ i u, (LP.cells SlV.nil)[i]? = some u → (w6.alloc (.cells #[.slice none 0 0] 56)).cell? ⟨w6.heap.size, i, none⟩ = some u := fun i u hu => by
      rw [(Blk.new w6 _ _).cell]
      simpa [LP] using hu
    have o7 : OwnG LP (w6.alloc (.cells #[.slice none 0 0] 56)) lc (.slice csa svs.length csc) svs := (oS.ext y7).mono (by omega)
    have hsv : svs.length ≤ 4 := by rw [pS.1]; exact hsl
    have hlow : ∀ k, (Value.slice csa svs.length csc).ownBlock = some k → l2 ≤ k ∧ k < h2 := fun k hk => ⟨(oS.lt k hk).1, bS k hk⟩
    have hz7 := y7.size
    have B9y := B9.ext y7
    go_wp2_with (at_builtin; refine wpList_append_g1 LP rfl _ _ rfl lc _ svs rfl o7 w6.heap.size 1 SlV.nil rfl hcn (by omega) (by omega) ?_)
    intro v8 w8 o8 A8 hk8
    obtain ⟨ao8, c8, rfl, -, -⟩ := o8.slice
    have nb : b9 ∉ (Value.slice csa svs.length csc).ownBlock.toList := fun hin => by have := hlow _ (Option.mem_toList.1 hin); omega
    have B98 := B9y.calm A8 nb
    have cB8 := B98.cell
    have fB8 := B98.frozen
    have hz8 := A8.size
    simp only [List.length_append, List.length_cons, List.length_nil, Nat.zero_add] at o8 hk8 ⊢
    go_upto_region 18 with fail
    have kS : Calm (b9 :: (Value.slice csa svs.length csc).ownBlock.toList) w6 (w8.setCell ⟨b9, 19, none⟩ (.slice ao8 (svs.length + 1) c8)) := ((y7.calm _).trans (A8.sub (fun b hb => List.mem_cons_of_mem _ hb))).trans ((calm_setP w8 b9 19 _).sub (fun b hb => by simp at hb; simp [hb]))
    have hO : ∀ b ∈ b9 :: (Value.slice csa svs.length csc).ownBlock.toList, b = b9 ∨ (l2 ≤ b ∧ b < h2) := fun b hb => (List.mem_cons.1 hb).imp id (fun h => hlow b (Option.mem_toList.1 h))
    have K := HT.out.turn kS (fun b hb => (hO b hb).imp id (fun h => by omega))
    have hne8 : ∀ k, (Value.slice ao8 (svs.length + 1) c8).ownBlock = some k → k ∉ [b9] := fun k hk hin => by
      have e := List.mem_singleton.1 hin
      rcases hk8 k hk with h | h
      · have := hlow k h; omega
      · omega
    have o9 := o8.calm (calm_setP w8 b9 19 (.slice ao8 (svs.length + 1) c8)) hne8
    have B9n : Blk (w8.setCell ⟨b9, 19, none⟩ (.slice ao8 (svs.length + 1) c8)) b9 (ScrM.l ⟨cW, cH, [k0, k1, k2, k3, k4, k5, k6, k7, k8, k9, k10, k11, k12, k13, k14, k15], ⟨cva, cvn, cvc⟩, ⟨ao8, svs.length + 1, c8⟩, ⟨cpa, cpn, cpc⟩, ⟨cda, cdn, cdc⟩⟩).toArray 38 := by simpa [ScrM.l] using B98.set 19 (.slice ao8 (svs.length + 1) c8)
    have hr0 : ∀ b ∈ b9 :: (Value.slice csa svs.length csc).ownBlock.toList, b < lc ∨ h1 ≤ b := fun b hb => by
      rcases hO b hb with e | h
      · rw [e]; rcases b9o with g | g <;> first | (left; omega) | (right; omega)
      · right; omega
    have hr2 : ∀ b ∈ b9 :: (Value.slice csa svs.length csc).ownBlock.toList, b < l3 ∨ h3 ≤ b := fun b hb => by
      rcases hO b hb with e | h
      · rw [e]; rcases b9o with g | g <;> first | (left; omega) | (right; omega)
      · rcases n4 with g | g <;> first | (left; omega) | (right; omega)
    have hr3 : ∀ b ∈ b9 :: (Value.slice csa svs.length csc).ownBlock.toList, b < l4 ∨ hc ≤ b := fun b hb => by
      rcases hO b hb with e | h
      · rw [e]; rcases b9o with g | g <;> first | (left; omega) | (right; omega)
      · left; omega
    have hpr := PRd.snoc pS (fun s hs k hk hin => by
      have h1 := bS2 s hs k hk
      have h2 := (pS.lt s hs k hk).1
      rcases List.mem_cons.1 hin with e | h
      · omega
      · exact aS s hs k hk (Option.mem_toList.1 h)) o9 kS
    have R3n : ScrR (w8.setCell ⟨b9, 19, none⟩ (.slice ao8 (svs.length + 1) c8)) ⟨cW, cH, [k0, k1, k2, k3, k4, k5, k6, k7, k8, k9, k10, k11, k12, k13, k14, k15], ⟨cva, cvn, cvc⟩, ⟨ao8, svs.length + 1, c8⟩, ⟨cpa, cpn, cpc⟩, ⟨cda, cdn, cdc⟩⟩ ⟨x.W, x.H, x.m, x.verts, (x.sh ++ [[]]), x.pa, x.draws⟩ := ⟨HR.out.W, HR.out.H, HR.out.m, (VB.calm ⟨oV, hV⟩ kS hr0).1.parr, hpr, (kP3.calm kS hr2).rd, (kD4.calm kS hr3).db.rd HWF.out⟩
    have f3 : Scr.fit ⟨x.W, x.H, x.m, x.verts, (x.sh ++ [[]]), x.pa, x.draws⟩ := ⟨HF.out.W, HF.out.H, HF.out.m16, HF.out.m, HF.out.v, HF.out.vl, (fun p hp => by rcases List.mem_append.1 hp with h | h; exact HF.out.s p h; (rw [List.mem_singleton.1 h]; exact ⟨by simp, fun i hi => by cases hi⟩)), (by simp; omega), HF.out.p, HF.out.pl, HF.out.d, HF.out.dl⟩
    have hne : sameS x ⟨x.W, x.H, x.m, x.verts, (x.sh ++ [[]]), x.pa, x.draws⟩ = false := sameS_no (.inr (.inr (.inr (.inl (fun e => by have := congrArg List.length e; simp at this)))))
    clear hpr o9 o8 B98 cB8 fB8
    refine scrsame_end _ _ _ _ _ _ _ _ _ _ _ _ _ _ _ _ _ _ _ _ _ _ _ _ _ _ _ _ _ _ _ _ _ _ _ _ _ _ _ _ _ _ _ _ _ _ _ _ _ _ _ _ _ _ _ _ _ _ _ _ _ _ _ _ _ _ _ _ _ _ _ _ _ _ _ _ _ _ _ _ _ _ _ _ _ _ _ _ _ _ _ _ _ _ _ b3 b7 b8 b9 la ha lb hb _ rfl m1 m2 ⟨cW, cH, [k0, k1, k2, k3, k4, k5, k6, k7, k8, k9, k10, k11, k12, k13, k14, k15], ⟨cva, cvn, cvc⟩, ⟨ao8, svs.length + 1, c8⟩, ⟨cpa, cpn, cpc⟩, ⟨cda, cdn, cdc⟩⟩ x y ⟨x.W, x.H, x.m, x.verts, (x.sh ++ [[]]), x.pa, x.draws⟩ w5 _ K B9n SG SG2 R3n f3 hne HS.out ?_
    intro d76 d77 d78 d79 d80 d81 d82 d83 d84 d85 d86 d87 d88 d89 d90 d91 d92 d93 d94 d95 d96 d97 d98 w9 x9
    have Ef := (E5.trans K.ext).trans x9
    clear K B9n R3n
    go_wp2
    go_ret
    exact ⟨rfl, by first | exact Ef | (rw [hb3]; exact Ef)⟩
  · have hpl := HG.out.p
    obtain ⟨-, -, -, h1, l2, h2, l3, h3, l4, ⟨oV, hV⟩, kS2, kP3, kD4, n1, n2, n3, n4, n5, n6, n7, n8⟩ := HI.out
    have b9o := HT.out.b9out.2.2
    have hlc := HT.out.lo.2.2.1
    have hhc := HT.out.hi.2.2
    have hb9 := B9.lt
    obtain ⟨svs, oS, pS, aS, bS, bS2⟩ := kP3
    obtain ⟨g, s0, e0, hn0, hs0, hcv⟩ := oS.nth 0 (by rw [pS.1]; exact SG.p)
    cases e0
    dsimp only at hn0
    have hglt := oS.lt g rfl
    have hghi := bS g rfl
    have cg : w6.cell? ⟨g, 0, none⟩ = some s0.v := by simpa [LP] using hcv 0 s0.v rfl
    have fg := oS.thaw hn0 0
    have hpos : 0 < cpn := by rw [hn0, pS.1]; exact SG.p
    have hposI : (0 : Int) < (cpn : Int) := by omega
    have y7 : Ext w6 (w6.alloc (.cells #[.int .u8 1, .int .u8 0, .int .u8 0, .int .u8 0, .int .i16 0] 54)) := (Ext.refl w6).alloc _ _
    have L7 := Blk.new w6 #[.int .u8 1, .int .u8 0, .int .u8 0, .int .u8 0, .int .i16 0] 54
    have cg7 := y7.old cg
    have fg7 : (w6.alloc (.cells #[.int .u8 1, .int .u8 0, .int .u8 0, .int .u8 0, .int .i16 0] 54)).frozen? ⟨g, 0, none⟩ = false := (oS.ext y7).thaw hn0 0
    have hgl := hglt.2
    have HN0 := Lib.hid hn0
    clear hn0
    go_upto_region 18 with fail
    have hsr : ∃ r, svs = s0 :: r := by
      cases hx : svs with
      | nil => rw [hx] at hs0; simp at hs0
      | cons a r => rw [hx] at hs0; simp at hs0; subst hs0; exact ⟨r, rfl⟩
    obtain ⟨r, hsr⟩ := hsr
    have yN : Ext (w6.setCell ⟨g, 0, none⟩ (.slice (some ⟨w6.heap.size, 0, none⟩) 1 1)) ((w6.setCell ⟨g, 0, none⟩ (.slice (some ⟨w6.heap.size, 0, none⟩) 1 1)).alloc (.cells #[.int .u8 1, .int .u8 0, .int .u8 0, .int .u8 0, .int .i16 0] 54)) := (Ext.refl _).alloc _ _
    have oN : OwnG LP ((w6.setCell ⟨g, 0, none⟩ (.slice (some ⟨w6.heap.size, 0, none⟩) 1 1)).alloc (.cells #[.int .u8 1, .int .u8 0, .int .u8 0, .int .u8 0, .int .i16 0] 54)) l3 (.slice (some ⟨g, 0, none⟩) cpn cpc) (svs.set 0 ⟨some ⟨w6.heap.size, 0, none⟩, 1, 1⟩) := (oS.store HN0.out 0 _ (by simp) (by rw [hsr]; exact flatP_set s0 ⟨some ⟨w6.heap.size, 0, none⟩, 1, 1⟩ r)).ext yN
    have kS : Calm [g] w6 ((w6.setCell ⟨g, 0, none⟩ (.slice (some ⟨w6.heap.size, 0, none⟩) 1 1)).alloc (.cells #[.int .u8 1, .int .u8 0, .int .u8 0, .int .u8 0, .int .i16 0] 54)) := (calm_setP _ g 0 _).trans (yN.calm _)
    have L9 : Blk ((w6.setCell ⟨g, 0, none⟩ (.slice (some ⟨w6.heap.size, 0, none⟩) 1 1)).alloc (.cells #[.int .u8 1, .int .u8 0, .int .u8 0, .int .u8 0, .int .i16 0] 54)) w6.heap.size #[.int .u8 1, .int .u8 0, .int .u8 0, .int .u8 0, .int .i16 0] 54 := Blk.new' (by simp) _ _
    clear yN
    have hz9 := kS.size
    have hz9b := L9.lt
    generalize (w6.setCell ⟨g, 0, none⟩ (.slice (some ⟨w6.heap.size, 0, none⟩) 1 1)).alloc (.cells #[.int .u8 1, .int .u8 0, .int .u8 0, .int .u8 0, .int .i16 0] 54) = w8 at *
    have hgc : lc ≤ g ∧ g < hc := by omega
    have K := HT.out.turn kS (fun b hb => .inr (by rw [List.mem_singleton.1 hb]; exact hgc))
    have B9n : Blk w8 b9 (ScrM.l ⟨cW, cH, [k0, k1, k2, k3, k4, k5, k6, k7, k8, k9, k10, k11, k12, k13, k14, k15], ⟨cva, cvn, cvc⟩, ⟨csa, csn, csc⟩, ⟨some ⟨g, 0, none⟩, cpn, cpc⟩, ⟨cda, cdn, cdc⟩⟩).toArray 38 := B9.calm kS (fun hin => by have := List.mem_singleton.1 hin; omega)
    have hr0 : ∀ b ∈ [g], b < lc ∨ h1 ≤ b := fun b hb => by rw [List.mem_singleton.1 hb]; right; omega
    have hr1 : ∀ b ∈ [g], b < l2 ∨ h2 ≤ b := fun b hb => by
      rw [List.mem_singleton.1 hb]
      rcases n4 with n4 | n4
      · right; omega
      · left; omega
    have hr3 : ∀ b ∈ [g], b < l4 ∨ hc ≤ b := fun b hb => by rw [List.mem_singleton.1 hb]; left; omega
    have hq : PArr w8 (.slice (some ⟨w6.heap.size, 0, none⟩) 1 1) ([⟨1, 0, 0, 0, 0⟩] : List In) := ⟨_, 1, rfl, fun _ => ⟨w6.heap.size, 0, rfl, fun j q hj => by
      match j, hj with
      | 0, hj =>
        simp at hj
        subst hj
        simp [L9.cell]
      | j + 1, hj => simp at hj⟩⟩
    have hpr := PRd.first (q := [⟨1, 0, 0, 0, 0⟩]) oN pS (fun s hs k hk hin => aS s hs k hk (by rw [List.mem_singleton.1 hin]; rfl)) kS hq (fun k hk => by
      have e : w6.heap.size = k := Option.some.inj hk
      omega)
    have R3n : ScrR w8 ⟨cW, cH, [k0, k1, k2, k3, k4, k5, k6, k7, k8, k9, k10, k11, k12, k13, k14, k15], ⟨cva, cvn, cvc⟩, ⟨csa, csn, csc⟩, ⟨some ⟨g, 0, none⟩, cpn, cpc⟩, ⟨cda, cdn, cdc⟩⟩ ⟨x.W, x.H, x.m, x.verts, x.sh, (x.pa.set 0 [⟨1, 0, 0, 0, 0⟩]), x.draws⟩ := ⟨HR.out.W, HR.out.H, HR.out.m, (VB.calm ⟨oV, hV⟩ kS hr0).1.parr, (kS2.calm kS hr1).rd, hpr, (kD4.calm kS hr3).db.rd HWF.out⟩
    have f3 : Scr.fit ⟨x.W, x.H, x.m, x.verts, x.sh, (x.pa.set 0 [⟨1, 0, 0, 0, 0⟩]), x.draws⟩ := ⟨HF.out.W, HF.out.H, HF.out.m16, HF.out.m, HF.out.v, HF.out.vl, HF.out.s, HF.out.sl, (fun p hp => by rcases List.mem_or_eq_of_mem_set hp with h | h; exact HF.out.p p h; (rw [h]; exact ⟨by simp, fun i hi => by rw [List.mem_singleton.1 hi]; simp [In.ok]⟩)), (by simp only [List.length_set]; exact HF.out.pl), HF.out.d, HF.out.dl⟩
    have hne : sameS x ⟨x.W, x.H, x.m, x.verts, x.sh, (x.pa.set 0 [⟨1, 0, 0, 0, 0⟩]), x.draws⟩ = false := sameS_no (.inr (.inr (.inr (.inr (.inl (fun e => by
      have h5 := congrArg (fun l => l[0]?) e
      simp only [HP.out] at h5
      rw [List.getElem?_set_self (by have := SG.p; omega)] at h5
      simp at h5))))))
    clear hpr oN L9 L7 hq cg fg cg7 fg7 hcv
    refine scrsame_end _ _ _ _ _ _ _ _ _ _ _ _ _ _ _ _ _ _ _ _ _ _ _ _ _ _ _ _ _ _ _ _ _ _ _ _ _ _ _ _ _ _ _ _ _ _ _ _ _ _ _ _ _ _ _ _ _ _ _ _ _ _ _ _ _ _ _ _ _ _ _ _ _ _ _ _ _ _ _ _ _ _ _ _ _ _ _ _ _ _ _ _ _ _ _ b3 b7 b8 b9 la ha lb hb _ rfl m1 m2 ⟨cW, cH, [k0, k1, k2, k3, k4, k5, k6, k7, k8, k9, k10, k11, k12, k13, k14, k15], ⟨cva, cvn, cvc⟩, ⟨csa, csn, csc⟩, ⟨some ⟨g, 0, none⟩, cpn, cpc⟩, ⟨cda, cdn, cdc⟩⟩ x y ⟨x.W, x.H, x.m, x.verts, x.sh, (x.pa.set 0 [⟨1, 0, 0, 0, 0⟩]), x.draws⟩ w5 _ K B9n SG SG2 R3n f3 hne HS.out ?_
    intro d76 d77 d78 d79 d80 d81 d82 d83 d84 d85 d86 d87 d88 d89 d90 d91 d92 d93 d94 d95 d96 d97 d98 w9 x9
    have Ef := (E5.trans K.ext).trans x9
    clear K B9n R3n
    go_wp2
    go_ret
    exact ⟨rfl, by first | exact Ef | (rw [hb3]; exact Ef)⟩
  · have hdl := HG.out.d
    obtain ⟨-, -, -, h1, l2, h2, l3, h3, l4, ⟨oV, hV⟩, kS2, kP3, kD4, n1, n2, n3, n4, n5, n6, n7, n8⟩ := HI.out
    have b9o := HT.out.b9out.2.2
    have hlc := HT.out.lo.2.2.1
    have hhc := HT.out.hi.2.2
    have hb9 := B9.lt
    obtain ⟨dms, oS, pS, aS, bS, bS2⟩ := kD4
    obtain ⟨_, _, es, -, -⟩ := id oS.slice
    cases es
    have y7 : Ext w6 (w6.alloc (.cells #[.int .u8 0, .bool false, .int .u8 0, .int .u8 0, .int .u8 0, .int .u8 0, .int .u8 0, .int .u8 0, .int .u8 0, .int .u8 0, .int .u8 0, .int .i64 0, .int .i64 0, .int .i64 0, .int .i64 0, .bool false, .int .u8 0, .int .u8 0, .int .u8 0, .int .u8 0, .int .i64 0, .int .u8 0, .int .u8 0, .int .i64 0, .int .i64 0, .int .u8 0, .slice none 0 0] 71)) := (Ext.refl w6).alloc _ _
    have hcn : ∀ i u, (LD.cells dmZ)[i]? = some u → (w6.alloc (.cells #[.int .u8 0, .bool false, .int .u8 0, .int .u8 0, .int .u8 0, .int .u8 0, .int .u8 0, .int .u8 0, .int .u8 0, .int .u8 0, .int .u8 0, .int .i64 0, .int .i64 0, .int .i64 0, .int .i64 0, .bool false, .int .u8 0, .int .u8 0, .int .u8 0, .int .u8 0, .int .i64 0, .int .u8 0, .int .u8 0, .int .i64 0, .int .i64 0, .int .u8 0, .slice none 0 0] 71)).cell? ⟨w6.heap.size, i, none⟩ = some u := fun i u hu => by
      rw [(Blk.new w6 _ _).cell]
      have hu' : (#[.int .u8 0, .bool false, .int .u8 0, .int .u8 0, .int .u8 0, .int .u8 0, .int .u8 0, .int .u8 0, .int .u8 0, .int .u8 0, .int .u8 0, .int .i64 0, .int .i64 0, .int .i64 0, .int .i64 0, .bool false, .int .u8 0, .int .u8 0, .int .u8 0, .int .u8 0, .int .i64 0, .int .u8 0, .int .u8 0, .int .i64 0, .int .i64 0, .int .u8 0, .slice none 0 0] : Array Value).toList[i]? = some u := hu
      simpa using hu'
    have o7 : OwnG LD (w6.alloc (.cells #[.int .u8 0, .bool false, .int .u8 0, .int .u8 0, .int .u8 0, .int .u8 0, .int .u8 0, .int .u8 0, .int .u8 0, .int .u8 0, .int .u8 0, .int .i64 0, .int .i64 0, .int .i64 0, .int .i64 0, .bool false, .int .u8 0, .int .u8 0, .int .u8 0, .int .u8 0, .int .i64 0, .int .u8 0, .int .u8 0, .int .i64 0, .int .i64 0, .int .u8 0, .slice none 0 0] 71)) lc (.slice cda dms.length cdc) dms := (oS.ext y7).mono (by omega)
    have hsv : dms.length ≤ 32 := by rw [pS.1]; exact hdl
    have hlow : ∀ k, (Value.slice cda dms.length cdc).ownBlock = some k → l4 ≤ k ∧ k < hc := fun k hk => ⟨(oS.lt k hk).1, bS k hk⟩
    have hz7 := y7.size
    have B9y := B9.ext y7
    go_wp2_with (at_builtin; refine wpList_append_g1 LD rfl _ _ rfl lc _ dms rfl o7 w6.heap.size 1 dmZ rfl hcn (by omega) (by omega) ?_)
    intro v8 w8 o8 A8 hk8
    obtain ⟨ao8, c8, rfl, -, -⟩ := o8.slice
    have nb : b9 ∉ (Value.slice cda dms.length cdc).ownBlock.toList := fun hin => by have := hlow _ (Option.mem_toList.1 hin); omega
    have B98 := B9y.calm A8 nb
    have cB8 := B98.cell
    have fB8 := B98.frozen
    have hz8 := A8.size
    simp only [List.length_append, List.length_cons, List.length_nil, Nat.zero_add] at o8 hk8 ⊢
    go_upto_region 18 with fail
    have kS : Calm (b9 :: (Value.slice cda dms.length cdc).ownBlock.toList) w6 (w8.setCell ⟨b9, 21, none⟩ (.slice ao8 (dms.length + 1) c8)) := ((y7.calm _).trans (A8.sub (fun b hb => List.mem_cons_of_mem _ hb))).trans ((calm_setP w8 b9 21 _).sub (fun b hb => by simp at hb; simp [hb]))
    have hO : ∀ b ∈ b9 :: (Value.slice cda dms.length cdc).ownBlock.toList, b = b9 ∨ (l4 ≤ b ∧ b < hc) := fun b hb => (List.mem_cons.1 hb).imp id (fun h => hlow b (Option.mem_toList.1 h))
    have K := HT.out.turn kS (fun b hb => (hO b hb).imp id (fun h => by omega))
    have hne8 : ∀ k, (Value.slice ao8 (dms.length + 1) c8).ownBlock = some k → k ∉ [b9] := fun k hk hin => by
      have e := List.mem_singleton.1 hin
      rcases hk8 k hk with h | h
      · have := hlow k h; omega
      · omega
    have o9 := o8.calm (calm_setP w8 b9 21 (.slice ao8 (dms.length + 1) c8)) hne8
    have B9n : Blk (w8.setCell ⟨b9, 21, none⟩ (.slice ao8 (dms.length + 1) c8)) b9 (ScrM.l ⟨cW, cH, [k0, k1, k2, k3, k4, k5, k6, k7, k8, k9, k10, k11, k12, k13, k14, k15], ⟨cva, cvn, cvc⟩, ⟨csa, csn, csc⟩, ⟨cpa, cpn, cpc⟩, ⟨ao8, dms.length + 1, c8⟩⟩).toArray 38 := by simpa [ScrM.l] using B98.set 21 (.slice ao8 (dms.length + 1) c8)
    have hr0 : ∀ b ∈ b9 :: (Value.slice cda dms.length cdc).ownBlock.toList, b < lc ∨ h1 ≤ b := fun b hb => by
      rcases hO b hb with e | h
      · rw [e]; rcases b9o with g | g <;> first | (left; omega) | (right; omega)
      · right; omega
    have hr1 : ∀ b ∈ b9 :: (Value.slice cda dms.length cdc).ownBlock.toList, b < l2 ∨ h2 ≤ b := fun b hb => by
      rcases hO b hb with e | h
      · rw [e]; rcases b9o with g | g <;> first | (left; omega) | (right; omega)
      · right; omega
    have hr2 : ∀ b ∈ b9 :: (Value.slice cda dms.length cdc).ownBlock.toList, b < l3 ∨ h3 ≤ b := fun b hb => by
      rcases hO b hb with e | h
      · rw [e]; rcases b9o with g | g <;> first | (left; omega) | (right; omega)
      · right; omega
    have hpr := DRd.snoc pS (fun s hs k hk hin => by
      have h1 := bS2 s hs k hk
      have h2 := (pS.lt s hs k hk).1
      rcases List.mem_cons.1 hin with e | h
      · omega
      · exact aS s hs k hk (Option.mem_toList.1 h)) HWF.out o9 kS
    have R3n : ScrR (w8.setCell ⟨b9, 21, none⟩ (.slice ao8 (dms.length + 1) c8)) ⟨cW, cH, [k0, k1, k2, k3, k4, k5, k6, k7, k8, k9, k10, k11, k12, k13, k14, k15], ⟨cva, cvn, cvc⟩, ⟨csa, csn, csc⟩, ⟨cpa, cpn, cpc⟩, ⟨ao8, dms.length + 1, c8⟩⟩ ⟨x.W, x.H, x.m, x.verts, x.sh, x.pa, (x.draws ++ [drZ])⟩ := ⟨HR.out.W, HR.out.H, HR.out.m, (VB.calm ⟨oV, hV⟩ kS hr0).1.parr, (kS2.calm kS hr1).rd, (kP3.calm kS hr2).rd, hpr⟩
    have f3 : Scr.fit ⟨x.W, x.H, x.m, x.verts, x.sh, x.pa, (x.draws ++ [drZ])⟩ := ⟨HF.out.W, HF.out.H, HF.out.m16, HF.out.m, HF.out.v, HF.out.vl, HF.out.s, HF.out.sl, HF.out.p, HF.out.pl, (fun d hd => by rcases List.mem_append.1 hd with h | h; exact HF.out.d d h; (rw [List.mem_singleton.1 h]; exact drZ_fit)), (by simp; omega)⟩
    have hne : sameS x ⟨x.W, x.H, x.m, x.verts, x.sh, x.pa, (x.draws ++ [drZ])⟩ = false := sameS_no (.inr (.inr (.inr (.inr (.inr (by simp))))))
    clear hpr o9 o8 B98 cB8 fB8
    refine scrsame_end _ _ _ _ _ _ _ _ _ _ _ _ _ _ _ _ _ _ _ _ _ _ _ _ _ _ _ _ _ _ _ _ _ _ _ _ _ _ _ _ _ _ _ _ _ _ _ _ _ _ _ _ _ _ _ _ _ _ _ _ _ _ _ _ _ _ _ _ _ _ _ _ _ _ _ _ _ _ _ _ _ _ _ _ _ _ _ _ _ _ _ _ _ _ _ b3 b7 b8 b9 la ha lb hb _ rfl m1 m2 ⟨cW, cH, [k0, k1, k2, k3, k4, k5, k6, k7, k8, k9, k10, k11, k12, k13, k14, k15], ⟨cva, cvn, cvc⟩, ⟨csa, csn, csc⟩, ⟨cpa, cpn, cpc⟩, ⟨ao8, dms.length + 1, c8⟩⟩ x y ⟨x.W, x.H, x.m, x.verts, x.sh, x.pa, (x.draws ++ [drZ])⟩ w5 _ K B9n SG SG2 R3n f3 hne HS.out ?_
    intro d76 d77 d78 d79 d80 d81 d82 d83 d84 d85 d86 d87 d88 d89 d90 d91 d92 d93 d94 d95 d96 d97 d98 w9 x9
    have Ef := (E5.trans K.ext).trans x9
    clear K B9n R3n
    go_wp2
    go_ret
    exact ⟨rfl, by first | exact Ef | (rw [hb3]; exact Ef)⟩
theorem scriptSame_row {w : World} (s : SScr) (vs : List VSm) (sh pa : List SlV) (ds : List DSm) (t : SScr) (vt : List VSm) (th ta : List SlV) (dt : List DSm) (n : Int) (Q : SScrQ w s vs sh pa ds) (Q2 : SScrQ w t vt th ta dt) (hn : 0 ≤ n ∧ n ≤ 255) : Calls Tryz.prog 4 #[.agg s.v, .agg t.v, .int .u8 n] w fun e w' => e = .returned (.bool true) ∧ Ext w w' := scriptSame_main w s vs sh pa ds Q t vt th ta dt Q2 n hn
end Go.Proofs.YtbbfmlehddfneaaGreat

