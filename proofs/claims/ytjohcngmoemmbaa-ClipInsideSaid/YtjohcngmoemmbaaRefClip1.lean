/-
  DERIVED. ref12's Inside, cross (made by mkrefclip.py).
-/
import Derived.Test.YtjohcngmoemmbaaClipPlain
import Derived.Test.YtjohcngmoemmbaaCalmLast
import Derived.Test.YtjohcngmoemmbaaParts
import Derived.Test.YtjohcngmoemmbaaBlkLaws
import Derived.Test.YtjohcngmoemmbaaMinMax
import Derived.Test.YtjohcngmoemmbaaFixWalks
import Derived.Deep.DeepCutAuto
import Derived.Lib.Hide
namespace Go.Proofs.Ytjohcngmoemmbaa
open Go.RowKit
set_option linter.unusedVariables false
set_option maxRecDepth 100000 in
set_option maxHeartbeats 1000000 in
theorem rinside_0 (p0 p1 p2 p3 c0 c1 c2 c3 : Int) (h0 : -4194304 ≤ p0 ∧ p0 ≤ 4194304) (h1 : -4194304 ≤ p1 ∧ p1 ≤ 4194304) (h2 : -4194304 ≤ p2 ∧ p2 ≤ 4194304) (h3 : -4194304 ≤ p3 ∧ p3 ≤ 4194304) (w : World) : Calls Try.prog 16 #[.agg #[.int .i64 p0, .int .i64 p1, .int .i64 p2, .int .i64 p3, .int .i64 c0, .int .i64 c1, .int .i64 c2, .int .i64 c3], .int .i64 0] w fun e w' => e = .returned (.int .i64 (p3 - 256)) ∧ Ext w w' := by
  go_enter Try.func16, Try.ntmps16
  go_wp2
  go_ret
  exact ⟨by first | rfl | (simp; omega), by first | exact ((Ext.refl w).alloc _ _).alloc _ _⟩
set_option maxRecDepth 100000 in
set_option maxHeartbeats 1000000 in
theorem rinside_1 (p0 p1 p2 p3 c0 c1 c2 c3 : Int) (h0 : -4194304 ≤ p0 ∧ p0 ≤ 4194304) (h1 : -4194304 ≤ p1 ∧ p1 ≤ 4194304) (h2 : -4194304 ≤ p2 ∧ p2 ≤ 4194304) (h3 : -4194304 ≤ p3 ∧ p3 ≤ 4194304) (w : World) : Calls Try.prog 16 #[.agg #[.int .i64 p0, .int .i64 p1, .int .i64 p2, .int .i64 p3, .int .i64 c0, .int .i64 c1, .int .i64 c2, .int .i64 c3], .int .i64 1] w fun e w' => e = .returned (.int .i64 (p2)) ∧ Ext w w' := by
  go_enter Try.func16, Try.ntmps16
  go_wp2
  go_ret
  exact ⟨by first | rfl | (simp; omega), by first | exact ((Ext.refl w).alloc _ _).alloc _ _⟩
set_option maxRecDepth 100000 in
set_option maxHeartbeats 1000000 in
theorem rinside_2 (p0 p1 p2 p3 c0 c1 c2 c3 : Int) (h0 : -4194304 ≤ p0 ∧ p0 ≤ 4194304) (h1 : -4194304 ≤ p1 ∧ p1 ≤ 4194304) (h2 : -4194304 ≤ p2 ∧ p2 ≤ 4194304) (h3 : -4194304 ≤ p3 ∧ p3 ≤ 4194304) (w : World) : Calls Try.prog 16 #[.agg #[.int .i64 p0, .int .i64 p1, .int .i64 p2, .int .i64 p3, .int .i64 c0, .int .i64 c1, .int .i64 c2, .int .i64 c3], .int .i64 2] w fun e w' => e = .returned (.int .i64 (p3 - p2)) ∧ Ext w w' := by
  go_enter Try.func16, Try.ntmps16
  go_wp2
  go_ret
  exact ⟨by first | rfl | (simp; omega), by first | exact ((Ext.refl w).alloc _ _).alloc _ _⟩
set_option maxRecDepth 100000 in
set_option maxHeartbeats 1000000 in
theorem rinside_3 (p0 p1 p2 p3 c0 c1 c2 c3 : Int) (h0 : -4194304 ≤ p0 ∧ p0 ≤ 4194304) (h1 : -4194304 ≤ p1 ∧ p1 ≤ 4194304) (h2 : -4194304 ≤ p2 ∧ p2 ≤ 4194304) (h3 : -4194304 ≤ p3 ∧ p3 ≤ 4194304) (w : World) : Calls Try.prog 16 #[.agg #[.int .i64 p0, .int .i64 p1, .int .i64 p2, .int .i64 p3, .int .i64 c0, .int .i64 c1, .int .i64 c2, .int .i64 c3], .int .i64 3] w fun e w' => e = .returned (.int .i64 (8 * p3 + p0)) ∧ Ext w w' := by
  go_enter Try.func16, Try.ntmps16
  go_wp2
  go_ret
  exact ⟨by first | rfl | (simp; omega), by first | exact ((Ext.refl w).alloc _ _).alloc _ _⟩
set_option maxRecDepth 100000 in
set_option maxHeartbeats 1000000 in
theorem rinside_4 (p0 p1 p2 p3 c0 c1 c2 c3 : Int) (h0 : -4194304 ≤ p0 ∧ p0 ≤ 4194304) (h1 : -4194304 ≤ p1 ∧ p1 ≤ 4194304) (h2 : -4194304 ≤ p2 ∧ p2 ≤ 4194304) (h3 : -4194304 ≤ p3 ∧ p3 ≤ 4194304) (w : World) : Calls Try.prog 16 #[.agg #[.int .i64 p0, .int .i64 p1, .int .i64 p2, .int .i64 p3, .int .i64 c0, .int .i64 c1, .int .i64 c2, .int .i64 c3], .int .i64 4] w fun e w' => e = .returned (.int .i64 (8 * p3 - p0)) ∧ Ext w w' := by
  go_enter Try.func16, Try.ntmps16
  go_wp2
  go_ret
  exact ⟨by first | rfl | (simp; omega), by first | exact ((Ext.refl w).alloc _ _).alloc _ _⟩
set_option maxRecDepth 100000 in
set_option maxHeartbeats 1000000 in
theorem rinside_5 (p0 p1 p2 p3 c0 c1 c2 c3 : Int) (h0 : -4194304 ≤ p0 ∧ p0 ≤ 4194304) (h1 : -4194304 ≤ p1 ∧ p1 ≤ 4194304) (h2 : -4194304 ≤ p2 ∧ p2 ≤ 4194304) (h3 : -4194304 ≤ p3 ∧ p3 ≤ 4194304) (w : World) : Calls Try.prog 16 #[.agg #[.int .i64 p0, .int .i64 p1, .int .i64 p2, .int .i64 p3, .int .i64 c0, .int .i64 c1, .int .i64 c2, .int .i64 c3], .int .i64 5] w fun e w' => e = .returned (.int .i64 (8 * p3 + p1)) ∧ Ext w w' := by
  go_enter Try.func16, Try.ntmps16
  go_wp2
  go_ret
  exact ⟨by first | rfl | (simp; omega), by first | exact ((Ext.refl w).alloc _ _).alloc _ _⟩
set_option maxRecDepth 100000 in
set_option maxHeartbeats 1000000 in
theorem rinside_6 (p0 p1 p2 p3 c0 c1 c2 c3 : Int) (h0 : -4194304 ≤ p0 ∧ p0 ≤ 4194304) (h1 : -4194304 ≤ p1 ∧ p1 ≤ 4194304) (h2 : -4194304 ≤ p2 ∧ p2 ≤ 4194304) (h3 : -4194304 ≤ p3 ∧ p3 ≤ 4194304) (w : World) : Calls Try.prog 16 #[.agg #[.int .i64 p0, .int .i64 p1, .int .i64 p2, .int .i64 p3, .int .i64 c0, .int .i64 c1, .int .i64 c2, .int .i64 c3], .int .i64 6] w fun e w' => e = .returned (.int .i64 (8 * p3 - p1)) ∧ Ext w w' := by
  go_enter Try.func16, Try.ntmps16
  go_wp2
  go_ret
  exact ⟨by first | rfl | (simp; omega), by first | exact ((Ext.refl w).alloc _ _).alloc _ _⟩
theorem rinside_any (v : V8) (k : Nat) (hk : k < 7) (h : v.inP) (w : World) : Calls Try.prog 16 #[.agg v.l.toArray, .int .i64 (k : Int)] w fun e w' => e = .returned (.int .i64 (insF v k)) ∧ Ext w w' := by
  obtain ⟨h0, h1, h2, h3⟩ := h
  match k, hk with
  | 0, _ => exact rinside_0 v.p0 v.p1 v.p2 v.p3 v.c0 v.c1 v.c2 v.c3 h0 h1 h2 h3 w
  | 1, _ => exact rinside_1 v.p0 v.p1 v.p2 v.p3 v.c0 v.c1 v.c2 v.c3 h0 h1 h2 h3 w
  | 2, _ => exact rinside_2 v.p0 v.p1 v.p2 v.p3 v.c0 v.c1 v.c2 v.c3 h0 h1 h2 h3 w
  | 3, _ => exact rinside_3 v.p0 v.p1 v.p2 v.p3 v.c0 v.c1 v.c2 v.c3 h0 h1 h2 h3 w
  | 4, _ => exact rinside_4 v.p0 v.p1 v.p2 v.p3 v.c0 v.c1 v.c2 v.c3 h0 h1 h2 h3 w
  | 5, _ => exact rinside_5 v.p0 v.p1 v.p2 v.p3 v.c0 v.c1 v.c2 v.c3 h0 h1 h2 h3 w
  | 6, _ => exact rinside_6 v.p0 v.p1 v.p2 v.p3 v.c0 v.c1 v.c2 v.c3 h0 h1 h2 h3 w
theorem calm_put (w : World) (b o : Nat) (u : Value) : Calm [b] w (w.setCell ⟨b, o, none⟩ u) :=
  ⟨rfl, rfl, rfl, by simp, fun k hk hO => Below.heap_setCell _ _ _ _ (fun e => hO (by simp [e]))⟩
theorem Calm.wide {O O' : List Nat} {w w' : World} (h : Calm O w w') (hs : ∀ b ∈ O, b ∈ O') : Calm O' w w' := ⟨h.os, h.tape, h.output, h.size, fun k hk hn => h.block k hk (fun hin => hn (hs k hin))⟩
theorem rfloorE (n d : Int) (hn : -4611686018427387904 ≤ n ∧ n ≤ 4611686018427387904) (hd : 0 < d ∧ d ≤ 4611686018427387904) (w : World) : Calls Try.prog 26 #[.int .i64 n, .int .i64 d] w fun e w' => e = .returned (.int .i64 (n / d)) ∧ Ext w w' := by
  refine (rfloor_pos n d w hn.1 hn.2 hd.1 hd.2).mono ?_
  rintro e w' ⟨rfl, rfl⟩
  exact ⟨by rw [flr_pos n hd.1], Ext.refl _⟩
set_option maxRecDepth 100000 in
set_option maxHeartbeats 4000000 in
theorem rcross_r6 (f0 f1 f2 f5 f6 f11 f12 f13 f14 f15 f16 f17 f18 f19 f20 f21 f22 f23 f24 f25 f26 f27 f28 f29 f30 f31 f32 f33 f34 f35 f36 f37 f38 f39 f40 f41 f42 f43 f44 f45 f46 f47 f48 f49 f50 f51 f52 f53 f54 f55 f56 f57 f58 f59 f60 f61 f62 f63 f64 f65 f66 f67 f68 : Value) (b3 b4 b9 j : Nat) (x y a b : Int) (z3 z4 z9 : Array Value) (w : World) (B3 : Blk w b3 z3 38) (B4 : Blk w b4 z4 38) (B9 : Blk w b9 z9 38) (hj : j < 4) (e3 : z3[j]? = some (.int .i64 x)) (e4 : z4[j]? = some (.int .i64 y)) (u : Value) (e9 : z9[j]? = some u) (hx : -4194304 ≤ x ∧ x ≤ 4194304) (hy : -4194304 ≤ y ∧ y ≤ 4194304) (ha : 0 ≤ a ∧ a ≤ 37748736) (hb : -37748736 ≤ b ∧ b < 0) {Q : Exit → Act → World → Prop}
    (hQ : ∀ (c22 c23 c24 c25 c26 c27 c28 c29 c30 c31 c32 c33 c34 c35 c36 c37 c38 c39 c40 c41 c42 c43 c44 : Value) (wx : World), Calm [b9] w wx → Blk wx b9 (z9.setIfInBounds (j) (.int .i64 (mixF x y a (a - b)))) 38 → Q .normal ⟨(f0 :: f1 :: f2 :: Value.pointer (some ⟨b3, 0, none⟩) :: Value.pointer (some ⟨b4, 0, none⟩) :: f5 :: f6 :: Value.int .i64 a :: Value.int .i64 b :: Value.pointer (some ⟨b9, 0, none⟩) :: Value.int .i64 (j : Int) :: f11 :: f12 :: f13 :: f14 :: f15 :: f16 :: f17 :: f18 :: f19 :: f20 :: f21 :: c22 :: c23 :: c24 :: c25 :: c26 :: c27 :: c28 :: c29 :: c30 :: c31 :: c32 :: c33 :: c34 :: c35 :: c36 :: c37 :: c38 :: c39 :: c40 :: c41 :: c42 :: c43 :: c44 :: f45 :: f46 :: f47 :: f48 :: f49 :: f50 :: f51 :: f52 :: f53 :: f54 :: f55 :: f56 :: f57 :: f58 :: f59 :: f60 :: f61 :: f62 :: f63 :: f64 :: f65 :: f66 :: f67 :: f68 :: List.nil).toArray, []⟩ wx) :
    Code.wp Try.prog (regionOf Try.f19 6) Q ⟨(f0 :: f1 :: f2 :: Value.pointer (some ⟨b3, 0, none⟩) :: Value.pointer (some ⟨b4, 0, none⟩) :: f5 :: f6 :: Value.int .i64 a :: Value.int .i64 b :: Value.pointer (some ⟨b9, 0, none⟩) :: Value.int .i64 (j : Int) :: f11 :: f12 :: f13 :: f14 :: f15 :: f16 :: f17 :: f18 :: f19 :: f20 :: f21 :: f22 :: f23 :: f24 :: f25 :: f26 :: f27 :: f28 :: f29 :: f30 :: f31 :: f32 :: f33 :: f34 :: f35 :: f36 :: f37 :: f38 :: f39 :: f40 :: f41 :: f42 :: f43 :: f44 :: f45 :: f46 :: f47 :: f48 :: f49 :: f50 :: f51 :: f52 :: f53 :: f54 :: f55 :: f56 :: f57 :: f58 :: f59 :: f60 :: f61 :: f62 :: f63 :: f64 :: f65 :: f66 :: f67 :: f68 :: List.nil).toArray, []⟩ w := by
  have hjI : (j : Int) < 4 := by omega
  have hpb := prod_bd hx hy (a := a) (A := 37748736) ha (by omega)
  have hm := mixF_in (x := x) (y := y) (a := a) (d := a - b) ha.1 (by omega) (by omega) hx hy
  have w1 : IntKind.i64.wrap ((y - x) * a) = (y - x) * a := by rw [IntKind.wrap_i64]; omega
  have w2 : IntKind.i64.wrap (x + (y - x) * a / (a - b)) = x + (y - x) * a / (a - b) := by rw [IntKind.wrap_i64]; unfold mixF at hm; omega
  have hF := fun u => rfloorE ((y - x) * a) (a - b) (by omega) (by omega) u
  have HQ := Lib.hid hQ
  have HM := Lib.hid hm
  clear hQ hm
  change Code.wp Try.prog (Code.region _ _ true) _ _ _
  apply wp_region_last 30 [false, false, false, false, false, false, false, false, false, false, false, false, false, false, false, false, false, false, false, false, false, false, false, true] [] [] [b9] _ (by kernel_rfl) (by kernel_rfl) (by kernel_rfl) (by kernel_rfl)
  case H =>
    intro y0 hy0
    have hne : Nonempty (Wx y0) := ⟨⟨y0, Ext.refl y0⟩⟩
    have q3 := fun (t : Wx y0) => by
      have := ((B3.calm hy0 (by simp)).ext t.ext).cell (j)
      rw [e3] at this
      exact this
    have q4 := fun (t : Wx y0) => by
      have := ((B4.calm hy0 (by simp)).ext t.ext).cell (j)
      rw [e4] at this
      exact this
    simp only [eraseM]
    repeat (go_big_quiet_step ((go_at_call 26; exact calm_of (hF _))))
    exact wpQuiet_nil rfl
  case hF => rfl
  case T =>
    change tailL _ _ _ _ _ [_] _ _
    intro u1 x1 hc
    have B9n := B9.calm hc (by simp)
    have c9 := B9n.cell (j)
    rw [e9] at c9
    have f9 := B9n.frozen
    refine gives_skip (u' := u1.setCell ⟨b9, j, none⟩ (.int .i64 (mixF x y a (a - b)))) (by unfold mixF; simp [go_sem, c9, f9]) ⟨(hc.wide (by simp)).trans (calm_put u1 b9 (j) _), fun h => absurd rfl h, ?_⟩
    intro u2 x2 hc2
    exact HQ.out _ _ _ _ _ _ _ _ _ _ _ _ _ _ _ _ _ _ _ _ _ _ _ _ hc2 ((B9n.set (j) _).ext x2)
set_option maxRecDepth 100000 in
set_option maxHeartbeats 4000000 in
theorem rcross_r7 (f0 f1 f2 f5 f6 f11 f12 f13 f14 f15 f16 f17 f18 f19 f20 f21 f22 f23 f24 f25 f26 f27 f28 f29 f30 f31 f32 f33 f34 f35 f36 f37 f38 f39 f40 f41 f42 f43 f44 f45 f46 f47 f48 f49 f50 f51 f52 f53 f54 f55 f56 f57 f58 f59 f60 f61 f62 f63 f64 f65 f66 f67 f68 : Value) (b3 b4 b9 j : Nat) (x y a b : Int) (z3 z4 z9 : Array Value) (w : World) (B3 : Blk w b3 z3 38) (B4 : Blk w b4 z4 38) (B9 : Blk w b9 z9 38) (hj : j < 4) (e3 : z3[4 + j]? = some (.int .i64 x)) (e4 : z4[4 + j]? = some (.int .i64 y)) (u : Value) (e9 : z9[4 + j]? = some u) (hx : -4194304 ≤ x ∧ x ≤ 4194304) (hy : -4194304 ≤ y ∧ y ≤ 4194304) (ha : 0 ≤ a ∧ a ≤ 37748736) (hb : -37748736 ≤ b ∧ b < 0) {Q : Exit → Act → World → Prop}
    (hQ : ∀ (c45 c46 c47 c48 c49 c50 c51 c52 c53 c54 c55 c56 c57 c58 c59 c60 c61 c62 c63 c64 c65 c66 c67 : Value) (wx : World), Calm [b9] w wx → Blk wx b9 (z9.setIfInBounds (4 + j) (.int .i64 (mixF x y a (a - b)))) 38 → Q .normal ⟨(f0 :: f1 :: f2 :: Value.pointer (some ⟨b3, 0, none⟩) :: Value.pointer (some ⟨b4, 0, none⟩) :: f5 :: f6 :: Value.int .i64 a :: Value.int .i64 b :: Value.pointer (some ⟨b9, 0, none⟩) :: Value.int .i64 (j : Int) :: f11 :: f12 :: f13 :: f14 :: f15 :: f16 :: f17 :: f18 :: f19 :: f20 :: f21 :: f22 :: f23 :: f24 :: f25 :: f26 :: f27 :: f28 :: f29 :: f30 :: f31 :: f32 :: f33 :: f34 :: f35 :: f36 :: f37 :: f38 :: f39 :: f40 :: f41 :: f42 :: f43 :: f44 :: c45 :: c46 :: c47 :: c48 :: c49 :: c50 :: c51 :: c52 :: c53 :: c54 :: c55 :: c56 :: c57 :: c58 :: c59 :: c60 :: c61 :: c62 :: c63 :: c64 :: c65 :: c66 :: c67 :: f68 :: List.nil).toArray, []⟩ wx) :
    Code.wp Try.prog (regionOf Try.f19 7) Q ⟨(f0 :: f1 :: f2 :: Value.pointer (some ⟨b3, 0, none⟩) :: Value.pointer (some ⟨b4, 0, none⟩) :: f5 :: f6 :: Value.int .i64 a :: Value.int .i64 b :: Value.pointer (some ⟨b9, 0, none⟩) :: Value.int .i64 (j : Int) :: f11 :: f12 :: f13 :: f14 :: f15 :: f16 :: f17 :: f18 :: f19 :: f20 :: f21 :: f22 :: f23 :: f24 :: f25 :: f26 :: f27 :: f28 :: f29 :: f30 :: f31 :: f32 :: f33 :: f34 :: f35 :: f36 :: f37 :: f38 :: f39 :: f40 :: f41 :: f42 :: f43 :: f44 :: f45 :: f46 :: f47 :: f48 :: f49 :: f50 :: f51 :: f52 :: f53 :: f54 :: f55 :: f56 :: f57 :: f58 :: f59 :: f60 :: f61 :: f62 :: f63 :: f64 :: f65 :: f66 :: f67 :: f68 :: List.nil).toArray, []⟩ w := by
  have hjI : (j : Int) < 4 := by omega
  have hpb := prod_bd hx hy (a := a) (A := 37748736) ha (by omega)
  have hm := mixF_in (x := x) (y := y) (a := a) (d := a - b) ha.1 (by omega) (by omega) hx hy
  have w1 : IntKind.i64.wrap ((y - x) * a) = (y - x) * a := by rw [IntKind.wrap_i64]; omega
  have w2 : IntKind.i64.wrap (x + (y - x) * a / (a - b)) = x + (y - x) * a / (a - b) := by rw [IntKind.wrap_i64]; unfold mixF at hm; omega
  have hF := fun u => rfloorE ((y - x) * a) (a - b) (by omega) (by omega) u
  have HQ := Lib.hid hQ
  have HM := Lib.hid hm
  clear hQ hm
  change Code.wp Try.prog (Code.region _ _ true) _ _ _
  apply wp_region_last 30 [false, false, false, false, false, false, false, false, false, false, false, false, false, false, false, false, false, false, false, false, false, false, false, true] [] [] [b9] _ (by kernel_rfl) (by kernel_rfl) (by kernel_rfl) (by kernel_rfl)
  case H =>
    intro y0 hy0
    have hne : Nonempty (Wx y0) := ⟨⟨y0, Ext.refl y0⟩⟩
    have q3 := fun (t : Wx y0) => by
      have := ((B3.calm hy0 (by simp)).ext t.ext).cell (4 + j)
      rw [e3] at this
      exact this
    have q4 := fun (t : Wx y0) => by
      have := ((B4.calm hy0 (by simp)).ext t.ext).cell (4 + j)
      rw [e4] at this
      exact this
    simp only [eraseM]
    repeat (go_big_quiet_step ((go_at_call 26; exact calm_of (hF _))))
    exact wpQuiet_nil rfl
  case hF => rfl
  case T =>
    change tailL _ _ _ _ _ [_] _ _
    intro u1 x1 hc
    have B9n := B9.calm hc (by simp)
    have c9 := B9n.cell (4 + j)
    rw [e9] at c9
    have f9 := B9n.frozen
    refine gives_skip (u' := u1.setCell ⟨b9, 4 + j, none⟩ (.int .i64 (mixF x y a (a - b)))) (by unfold mixF; simp [go_sem, c9, f9]) ⟨(hc.wide (by simp)).trans (calm_put u1 b9 (4 + j) _), fun h => absurd rfl h, ?_⟩
    intro u2 x2 hc2
    exact HQ.out _ _ _ _ _ _ _ _ _ _ _ _ _ _ _ _ _ _ _ _ _ _ _ _ hc2 ((B9n.set (4 + j) _).ext x2)
end Go.Proofs.Ytjohcngmoemmbaa
