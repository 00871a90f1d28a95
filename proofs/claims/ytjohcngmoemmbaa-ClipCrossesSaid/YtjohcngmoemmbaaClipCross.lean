/-
  DERIVED. The landed clip's between, Cross (made by mkclip.py).
-/
import Derived.Test.YtjohcngmoemmbaaClipIns
import Derived.Test.YtjohcngmoemmbaaParts
namespace Go.Proofs.Ytjohcngmoemmbaa
open Go.RowKit
set_option linter.unusedVariables false
theorem floorE (n d : Int) (hn : -4611686018427387904 ≤ n ∧ n ≤ 4611686018427387904) (hd : 0 < d ∧ d ≤ 4611686018427387904) (w : World) : Calls Try.prog 29 #[.int .i64 n, .int .i64 d] w fun e w' => e = .returned (.int .i64 (n / d)) ∧ Ext w w' := by
  refine (floor_any n d w hn.1 hn.2 (by omega) hd.2).mono ?_
  rintro e w' ⟨rfl, q⟩
  exact ⟨by rw [flr_pos n hd.1], (Ext.refl w).qt q⟩
set_option maxRecDepth 100000 in
set_option maxHeartbeats 4000000 in
theorem between_r5 (f0 f1 f6 f7 f8 f10 f11 f12 f13 f14 f15 f16 f17 f18 f19 f20 f21 f22 f23 f24 f25 f26 f27 f28 f29 f30 f31 f32 f33 f34 : Value) (b4 b5 j : Nat) (x y a d : Int) (z4 z5 : Array Value) (w : World) (B4 : Blk w b4 z4 30) (B5 : Blk w b5 z5 30) (hj : j < 4) (e4 : z4[j]? = some (.int .i64 x)) (e5 : z5[j]? = some (.int .i64 y)) (hx : -4194304 ≤ x ∧ x ≤ 4194304) (hy : -4194304 ≤ y ∧ y ≤ 4194304) (ha : 0 ≤ a ∧ a ≤ 37748736) (had : a ≤ d) (hd : 0 < d ∧ d ≤ 75497472) {Q : Exit → Act → World → Prop}
    (hQ : ∀ (c17 c18 c19 c20 c21 c22 c23 c24 c25 c26 c27 c28 c29 c30 c31 c32 : Value) (wx : World), Calm [b4] w wx → Blk wx b4 (z4.setIfInBounds j (.int .i64 (mixF x y a d))) 30 → Q .normal ⟨(f0 :: f1 :: Value.int .i64 a :: Value.int .i64 d :: Value.pointer (some ⟨b4, 0, none⟩) :: Value.pointer (some ⟨b5, 0, none⟩) :: f6 :: f7 :: f8 :: Value.int .i64 (j : Int) :: f10 :: f11 :: f12 :: f13 :: f14 :: f15 :: f16 :: c17 :: c18 :: c19 :: c20 :: c21 :: c22 :: c23 :: c24 :: c25 :: c26 :: c27 :: c28 :: c29 :: c30 :: c31 :: c32 :: f33 :: f34 :: List.nil).toArray, []⟩ wx) :
    Code.wp Try.prog (regionOf Try.f25 5) Q ⟨(f0 :: f1 :: Value.int .i64 a :: Value.int .i64 d :: Value.pointer (some ⟨b4, 0, none⟩) :: Value.pointer (some ⟨b5, 0, none⟩) :: f6 :: f7 :: f8 :: Value.int .i64 (j : Int) :: f10 :: f11 :: f12 :: f13 :: f14 :: f15 :: f16 :: f17 :: f18 :: f19 :: f20 :: f21 :: f22 :: f23 :: f24 :: f25 :: f26 :: f27 :: f28 :: f29 :: f30 :: f31 :: f32 :: f33 :: f34 :: List.nil).toArray, []⟩ w := by
  have hjI : (j : Int) < 4 := by omega
  have hpb := prod_bd hx hy (a := a) (A := 37748736) ha (by omega)
  have hm := mixF_in (x := x) (y := y) (a := a) (d := d) ha.1 (by omega) (by omega) hx hy
  have w1 : IntKind.i64.wrap ((y - x) * a) = (y - x) * a := by rw [IntKind.wrap_i64]; omega
  have w2 : IntKind.i64.wrap (x + (y - x) * a / d) = x + (y - x) * a / d := by rw [IntKind.wrap_i64]; unfold mixF at hm; omega
  have hF := fun u => floorE ((y - x) * a) d (by omega) (by omega) u
  have HQ := Lib.hid hQ
  have HM := Lib.hid hm
  clear hQ hm
  change Code.wp Try.prog (Code.region _ _ true) _ _ _
  apply wp_region_last 30 [false, false, false, false, false, false, false, false, false, false, false, false, false, false, false, false, true] [] [] [b4] _ (by kernel_rfl) (by kernel_rfl) (by kernel_rfl) (by kernel_rfl)
  case H =>
    intro y0 hy0
    have hne : Nonempty (Wx y0) := ⟨⟨y0, Ext.refl y0⟩⟩
    have q3 := fun (t : Wx y0) => by
      have := ((B4.calm hy0 (by simp)).ext t.ext).cell j
      rw [e4] at this
      exact this
    have q4 := fun (t : Wx y0) => by
      have := ((B5.calm hy0 (by simp)).ext t.ext).cell j
      rw [e5] at this
      exact this
    simp only [eraseM]
    repeat (go_big_quiet_step ((go_at_call 29; exact calm_of (hF _))))
    exact wpQuiet_nil rfl
  case hF => rfl
  case T =>
    change tailL _ _ _ _ _ [_] _ _
    intro u1 x1 hc
    have B4n := B4.calm hc (by simp)
    have c9 := B4n.cell j
    rw [e4] at c9
    have f9 := B4n.frozen
    refine gives_skip (u' := u1.setCell ⟨b4, j, none⟩ (.int .i64 (mixF x y a d))) (by unfold mixF; simp [go_sem, c9, f9]) ⟨(hc.wide (by simp)).trans (calm_put u1 b4 j _), fun h => absurd rfl h, ?_⟩
    intro u2 x2 hc2
    exact HQ.out _ _ _ _ _ _ _ _ _ _ _ _ _ _ _ _ _ hc2 ((B4n.set j _).ext x2)
set_option maxRecDepth 100000 in
set_option maxHeartbeats 4000000 in
theorem between_main (m0 m1 m2 m3 n0 n1 n2 n3 p0 p1 p2 p3 q0 q1 q2 q3 a d : Int) (hp0 : -4194304 ≤ p0 ∧ p0 ≤ 4194304) (hp1 : -4194304 ≤ p1 ∧ p1 ≤ 4194304) (hp2 : -4194304 ≤ p2 ∧ p2 ≤ 4194304) (hp3 : -4194304 ≤ p3 ∧ p3 ≤ 4194304) (hq0 : -4194304 ≤ q0 ∧ q0 ≤ 4194304) (hq1 : -4194304 ≤ q1 ∧ q1 ≤ 4194304) (hq2 : -4194304 ≤ q2 ∧ q2 ≤ 4194304) (hq3 : -4194304 ≤ q3 ∧ q3 ≤ 4194304) (ha : 0 ≤ a ∧ a ≤ 37748736) (had : a ≤ d) (hd : 0 < d ∧ d ≤ 75497472) (hP : ∀ u : World, Calls Try.prog 14 #[.agg #[.int .i64 m0, .int .i64 m1, .int .i64 m2, .int .i64 m3], .int .i64 4194304] u fun e w' => e = .returned (.agg #[.int .i64 p0, .int .i64 p1, .int .i64 p2, .int .i64 p3]) ∧ Ext u w') (hQ : ∀ u : World, Calls Try.prog 14 #[.agg #[.int .i64 n0, .int .i64 n1, .int .i64 n2, .int .i64 n3], .int .i64 4194304] u fun e w' => e = .returned (.agg #[.int .i64 q0, .int .i64 q1, .int .i64 q2, .int .i64 q3]) ∧ Ext u w') (w : World) :
    Calls Try.prog 25 #[.agg #[.int .i64 m0, .int .i64 m1, .int .i64 m2, .int .i64 m3], .agg #[.int .i64 n0, .int .i64 n1, .int .i64 n2, .int .i64 n3], .int .i64 a, .int .i64 d] w fun e w' => e = .returned (.agg #[.int .i64 (mixF p0 q0 a d), .int .i64 (mixF p1 q1 a d), .int .i64 (mixF p2 q2 a d), .int .i64 (mixF p3 q3 a d)]) ∧ Ext w w' := by
  have HP := Lib.hid hP
  have HQ := Lib.hid hQ
  clear hP hQ
  have x1 : Ext w (((w.alloc (.cells #[.int .i64 m0, .int .i64 m1, .int .i64 m2, .int .i64 m3] 30)).alloc (.cells #[.int .i64 n0, .int .i64 n1, .int .i64 n2, .int .i64 n3] 30)).alloc (.cells #[.int .i64 0, .int .i64 0, .int .i64 0, .int .i64 0] 30)) := (((Ext.refl w).alloc _ _).alloc _ _).alloc _ _
  have B4 := ((Blk.new w #[.int .i64 m0, .int .i64 m1, .int .i64 m2, .int .i64 m3] 30).alloc (.cells #[.int .i64 n0, .int .i64 n1, .int .i64 n2, .int .i64 n3] 30)).alloc (.cells #[.int .i64 0, .int .i64 0, .int .i64 0, .int .i64 0] 30)
  have B5 := (Blk.new (w.alloc (.cells #[.int .i64 m0, .int .i64 m1, .int .i64 m2, .int .i64 m3] 30)) #[.int .i64 n0, .int .i64 n1, .int .i64 n2, .int .i64 n3] 30).alloc (.cells #[.int .i64 0, .int .i64 0, .int .i64 0, .int .i64 0] 30)
  have B8 := Blk.new ((w.alloc (.cells #[.int .i64 m0, .int .i64 m1, .int .i64 m2, .int .i64 m3] 30)).alloc (.cells #[.int .i64 n0, .int .i64 n1, .int .i64 n2, .int .i64 n3] 30)) #[.int .i64 0, .int .i64 0, .int .i64 0, .int .i64 0] 30
  go_enter Try.func25, Try.ntmps25
  go_upto_region 1 with fail
  simp only [World.size_alloc] at B5 B8
  generalize (((w.alloc (.cells #[.int .i64 m0, .int .i64 m1, .int .i64 m2, .int .i64 m3] 30)).alloc (.cells #[.int .i64 n0, .int .i64 n1, .int .i64 n2, .int .i64 n3] 30)).alloc (.cells #[.int .i64 0, .int .i64 0, .int .i64 0, .int .i64 0] 30)) = w1 at *
  apply wp_region_vars_early 6 [false, false, false, false, true, true] [w.heap.size, w.heap.size + 1] [⟨none, 0, w.heap.size, some 4, 30, #[.int .i64 m0, .int .i64 m1, .int .i64 m2, .int .i64 m3], #[.int .i64 p0, .int .i64 p1, .int .i64 p2, .int .i64 p3]⟩, ⟨none, 0, w.heap.size + 1, some 5, 30, #[.int .i64 n0, .int .i64 n1, .int .i64 n2, .int .i64 n3], #[.int .i64 q0, .int .i64 q1, .int .i64 q2, .int .i64 q3]⟩] _ (by kernel_rfl) (by kernel_rfl) (by kernel_rfl) (by kernel_rfl) (by kernel_rfl)
  case H =>
    intro x hx
    have hne : Nonempty (Wx x) := ⟨⟨x, Ext.refl x⟩⟩
    have qa := fun (y : Wx x) => (B4.ext (hx.trans y.ext)).cell
    have qb := fun (y : Wx x) => (B5.ext (hx.trans y.ext)).cell
    simp only [eraseM]
    repeat (go_big_quiet_step (first | (go_at_call 14; with_reducible exact calm_of (HP.out _)) | (go_at_call 14; with_reducible exact calm_of (HQ.out _))))
    exact wpQuiet_nil rfl
  case hok =>
    simp only [List.forall_mem_cons, List.not_mem_nil, false_implies, implies_true, and_true]
    exact ⟨tgt_mine (by simp) B4 rfl rfl rfl rfl rfl rfl (by kernel_rfl) (by kernel_rfl) (of_decide_eq_true (by kernel_rfl)) rfl, tgt_mine (by simp) B5 rfl rfl rfl rfl rfl rfl (by kernel_rfl) (by kernel_rfl) (of_decide_eq_true (by kernel_rfl)) rfl⟩
  case hdis =>
    intro k k' t t' hk hk' hne _ _
    rcases k with _ | _ | k <;> rcases k' with _ | _ | k' <;> simp at hk hk' hne <;> (subst hk; subst hk'; dsimp only; omega)
  rintro w2 f hw ⟨k0, l0, d0, -, k1, l1, d1, -, -⟩
  have k0' : f 0 = w.heap.size := k0
  have k1' : f 1 = w.heap.size + 1 := k1
  have B4 : Blk w2 w.heap.size #[.int .i64 p0, .int .i64 p1, .int .i64 p2, .int .i64 p3] 30 := k0' ▸ d0
  have B5 : Blk w2 (w.heap.size + 1) #[.int .i64 q0, .int .i64 q1, .int .i64 q2, .int .i64 q3] 30 := k1' ▸ d1
  have B8 := B8.calm hw (by simp; omega)
  have x1 := Ext.calm_trans x1 hw (by simp)
  clear k0 k0' l0 d0 k1 k1' l1 d1 hw HP HQ
  simp only [pairs, putAll, Option.isSome_none, Bool.false_eq_true, if_false]
  go_wp2_with fail
  refine wp_loop_rounds 5 ?_
  rw [rounds_succ]
  go_upto_region 5 with fail
  refine between_r5 _ _ _ _ _ _ _ _ _ _ _ _ _ _ _ _ _ _ _ _ _ _ _ _ _ _ _ _ _ _ w.heap.size (w.heap.size + 1) 0 p0 q0 a d #[.int .i64 p0, .int .i64 p1, .int .i64 p2, .int .i64 p3] #[.int .i64 q0, .int .i64 q1, .int .i64 q2, .int .i64 q3] _ B4 B5 (by omega) rfl rfl hp0 hq0 ha had hd ?_
  intro d17 d18 d19 d20 d21 d22 d23 d24 d25 d26 d27 d28 d29 d30 d31 d32 w5_0 cx B4'
  have B4 : Blk w5_0 w.heap.size #[.int .i64 (mixF p0 q0 a d), .int .i64 p1, .int .i64 p2, .int .i64 p3] 30 := by simpa using B4'
  have B5 := B5.calm cx (by simp)
  have B8 := B8.calm cx (by simp; omega)
  have x1 := Ext.calm_trans x1 cx (by simp)
  clear B4' cx
  go_wp2_with fail
  rw [rounds_succ]
  go_upto_region 5 with fail
  refine between_r5 _ _ _ _ _ _ _ _ _ _ _ _ _ _ _ _ _ _ _ _ _ _ _ _ _ _ _ _ _ _ w.heap.size (w.heap.size + 1) 1 p1 q1 a d #[.int .i64 (mixF p0 q0 a d), .int .i64 p1, .int .i64 p2, .int .i64 p3] #[.int .i64 q0, .int .i64 q1, .int .i64 q2, .int .i64 q3] _ B4 B5 (by omega) rfl rfl hp1 hq1 ha had hd ?_
  intro d17 d18 d19 d20 d21 d22 d23 d24 d25 d26 d27 d28 d29 d30 d31 d32 w5_1 cx B4'
  have B4 : Blk w5_1 w.heap.size #[.int .i64 (mixF p0 q0 a d), .int .i64 (mixF p1 q1 a d), .int .i64 p2, .int .i64 p3] 30 := by simpa using B4'
  have B5 := B5.calm cx (by simp)
  have B8 := B8.calm cx (by simp; omega)
  have x1 := Ext.calm_trans x1 cx (by simp)
  clear B4' cx
  go_wp2_with fail
  rw [rounds_succ]
  go_upto_region 5 with fail
  refine between_r5 _ _ _ _ _ _ _ _ _ _ _ _ _ _ _ _ _ _ _ _ _ _ _ _ _ _ _ _ _ _ w.heap.size (w.heap.size + 1) 2 p2 q2 a d #[.int .i64 (mixF p0 q0 a d), .int .i64 (mixF p1 q1 a d), .int .i64 p2, .int .i64 p3] #[.int .i64 q0, .int .i64 q1, .int .i64 q2, .int .i64 q3] _ B4 B5 (by omega) rfl rfl hp2 hq2 ha had hd ?_
  intro d17 d18 d19 d20 d21 d22 d23 d24 d25 d26 d27 d28 d29 d30 d31 d32 w5_2 cx B4'
  have B4 : Blk w5_2 w.heap.size #[.int .i64 (mixF p0 q0 a d), .int .i64 (mixF p1 q1 a d), .int .i64 (mixF p2 q2 a d), .int .i64 p3] 30 := by simpa using B4'
  have B5 := B5.calm cx (by simp)
  have B8 := B8.calm cx (by simp; omega)
  have x1 := Ext.calm_trans x1 cx (by simp)
  clear B4' cx
  go_wp2_with fail
  rw [rounds_succ]
  go_upto_region 5 with fail
  refine between_r5 _ _ _ _ _ _ _ _ _ _ _ _ _ _ _ _ _ _ _ _ _ _ _ _ _ _ _ _ _ _ w.heap.size (w.heap.size + 1) 3 p3 q3 a d #[.int .i64 (mixF p0 q0 a d), .int .i64 (mixF p1 q1 a d), .int .i64 (mixF p2 q2 a d), .int .i64 p3] #[.int .i64 q0, .int .i64 q1, .int .i64 q2, .int .i64 q3] _ B4 B5 (by omega) rfl rfl hp3 hq3 ha had hd ?_
  intro d17 d18 d19 d20 d21 d22 d23 d24 d25 d26 d27 d28 d29 d30 d31 d32 w5_3 cx B4'
  have B4 : Blk w5_3 w.heap.size #[.int .i64 (mixF p0 q0 a d), .int .i64 (mixF p1 q1 a d), .int .i64 (mixF p2 q2 a d), .int .i64 (mixF p3 q3 a d)] 30 := by simpa using B4'
  have B5 := B5.calm cx (by simp)
  have B8 := B8.calm cx (by simp; omega)
  have x1 := Ext.calm_trans x1 cx (by simp)
  clear B4' cx
  go_wp2_with fail
  rw [rounds_succ]
  go_upto_region 7 with fail
  have Bf := B8.setRow #[.int .i64 (mixF p0 q0 a d), .int .i64 (mixF p1 q1 a d), .int .i64 (mixF p2 q2 a d), .int .i64 (mixF p3 q3 a d)]
  have Ef := x1.setRow (g := w.heap.size + 1 + 1) (by omega) #[.int .i64 (mixF p0 q0 a d), .int .i64 (mixF p1 q1 a d), .int .i64 (mixF p2 q2 a d), .int .i64 (mixF p3 q3 a d)]
  go_wp2_with (first
    | ((with_reducible refine wpList_load_blk (op := ⟨some 34, _, _, _, _, _⟩) ?_ 30 (.tmp 4) ?_ (w.heap.size) ?_ (z := _) (T := 30) B4 Try.underlying30 ?_ ?_ ?_); rfl; rfl; rfl; rfl; kernel_rfl)
    | ((with_reducible refine wpList_store_blk (op := ⟨none, .store 30 (.tmp 8) (.tmp 34), _, _, _, _⟩) ?_ 30 (.tmp 8) (.tmp 34) ?_ (w.heap.size + 1 + 1) ?_ (cs := #[.int .i64 (mixF p0 q0 a d), .int .i64 (mixF p1 q1 a d), .int .i64 (mixF p2 q2 a d), .int .i64 (mixF p3 q3 a d)]) ?_ (z := #[.int .i64 0, .int .i64 0, .int .i64 0, .int .i64 0]) (T := 30) ?_ ?_ ?_ ?_ ?_); rfl; rfl; rfl; rfl; exact B8; kernel_rfl; kernel_rfl; kernel_rfl)
    | fail)
  exact bodyPost_ret (v := .agg #[.int .i64 (mixF p0 q0 a d), .int .i64 (mixF p1 q1 a d), .int .i64 (mixF p2 q2 a d), .int .i64 (mixF p3 q3 a d)]) (results_blk (b := w.heap.size + 1 + 1) (t := 8) (ty := 30) rfl rfl Bf Try.underlying30 rfl (by kernel_rfl)) rfl ⟨rfl, Ef⟩
theorem between_any (m0 m1 m2 m3 n0 n1 n2 n3 a d : Int) (hx0 : -9223372036854775808 ≤ m0 ∧ m0 ≤ 9223372036854775807) (hx1 : -9223372036854775808 ≤ m1 ∧ m1 ≤ 9223372036854775807) (hx2 : -9223372036854775808 ≤ m2 ∧ m2 ≤ 9223372036854775807) (hx3 : -9223372036854775808 ≤ m3 ∧ m3 ≤ 9223372036854775807) (hy0 : -9223372036854775808 ≤ n0 ∧ n0 ≤ 9223372036854775807) (hy1 : -9223372036854775808 ≤ n1 ∧ n1 ≤ 9223372036854775807) (hy2 : -9223372036854775808 ≤ n2 ∧ n2 ≤ 9223372036854775807) (hy3 : -9223372036854775808 ≤ n3 ∧ n3 ≤ 9223372036854775807) (ha : 0 ≤ a ∧ a ≤ 37748736) (had : a ≤ d) (hd : 0 < d ∧ d ≤ 75497472) (w : World) :
    Calls Try.prog 25 #[.agg #[.int .i64 m0, .int .i64 m1, .int .i64 m2, .int .i64 m3], .agg #[.int .i64 n0, .int .i64 n1, .int .i64 n2, .int .i64 n3], .int .i64 a, .int .i64 d] w fun e w' => e = .returned (.agg #[.int .i64 (mixF (lim4 m0) (lim4 n0) a d), .int .i64 (mixF (lim4 m1) (lim4 n1) a d), .int .i64 (mixF (lim4 m2) (lim4 n2) a d), .int .i64 (mixF (lim4 m3) (lim4 n3) a d)]) ∧ Ext w w' :=
  between_main m0 m1 m2 m3 n0 n1 n2 n3 _ _ _ _ _ _ _ _ a d (lim4_bd m0) (lim4_bd m1) (lim4_bd m2) (lim4_bd m3) (lim4_bd n0) (lim4_bd n1) (lim4_bd n2) (lim4_bd n3) ha had hd (fun u => vwithin_lim m0 m1 m2 m3 hx0 hx1 hx2 hx3 u) (fun u => vwithin_lim n0 n1 n2 n3 hy0 hy1 hy2 hy3 u) w
set_option maxRecDepth 100000 in
set_option maxHeartbeats 4000000 in
theorem cross_keep1 (v0 v1 v2 v3 v4 v5 v6 v7 u0 u1 u2 u3 u4 u5 u6 u7 a b : Int) (k : Int) (w : World) (hA : ∀ u, Calls Try.prog 15 #[.agg #[.int .i64 v0, .int .i64 v1, .int .i64 v2, .int .i64 v3, .int .i64 v4, .int .i64 v5, .int .i64 v6, .int .i64 v7], .int .i64 k] u fun e w' => e = .returned (.int .i64 a) ∧ Ext u w') (hB : ∀ u, Calls Try.prog 15 #[.agg #[.int .i64 u0, .int .i64 u1, .int .i64 u2, .int .i64 u3, .int .i64 u4, .int .i64 u5, .int .i64 u6, .int .i64 u7], .int .i64 k] u fun e w' => e = .returned (.int .i64 b) ∧ Ext u w') (h : a < 0) : Calls Try.prog 17 #[.agg #[.int .i64 v0, .int .i64 v1, .int .i64 v2, .int .i64 v3, .int .i64 v4, .int .i64 v5, .int .i64 v6, .int .i64 v7], .agg #[.int .i64 u0, .int .i64 u1, .int .i64 u2, .int .i64 u3, .int .i64 u4, .int .i64 u5, .int .i64 u6, .int .i64 u7], .int .i64 k] w fun e w' => e = .returned (.agg #[.int .i64 v0, .int .i64 v1, .int .i64 v2, .int .i64 v3, .int .i64 v4, .int .i64 v5, .int .i64 v6, .int .i64 v7]) ∧ Ext w w' := by
  have HA := Lib.hid hA
  have HB := Lib.hid hB
  clear hA hB
  have x1 : Ext w (((w.alloc (.cells #[.int .i64 v0, .int .i64 v1, .int .i64 v2, .int .i64 v3, .int .i64 v4, .int .i64 v5, .int .i64 v6, .int .i64 v7] 32)).alloc (.cells #[.int .i64 u0, .int .i64 u1, .int .i64 u2, .int .i64 u3, .int .i64 u4, .int .i64 u5, .int .i64 u6, .int .i64 u7] 32)).alloc (.cells #[.int .i64 0, .int .i64 0, .int .i64 0, .int .i64 0, .int .i64 0, .int .i64 0, .int .i64 0, .int .i64 0] 32)) := (((Ext.refl w).alloc _ _).alloc _ _).alloc _ _
  have B3 := ((Blk.new w #[.int .i64 v0, .int .i64 v1, .int .i64 v2, .int .i64 v3, .int .i64 v4, .int .i64 v5, .int .i64 v6, .int .i64 v7] 32).alloc (.cells #[.int .i64 u0, .int .i64 u1, .int .i64 u2, .int .i64 u3, .int .i64 u4, .int .i64 u5, .int .i64 u6, .int .i64 u7] 32)).alloc (.cells #[.int .i64 0, .int .i64 0, .int .i64 0, .int .i64 0, .int .i64 0, .int .i64 0, .int .i64 0, .int .i64 0] 32)
  have B4 := (Blk.new (w.alloc (.cells #[.int .i64 v0, .int .i64 v1, .int .i64 v2, .int .i64 v3, .int .i64 v4, .int .i64 v5, .int .i64 v6, .int .i64 v7] 32)) #[.int .i64 u0, .int .i64 u1, .int .i64 u2, .int .i64 u3, .int .i64 u4, .int .i64 u5, .int .i64 u6, .int .i64 u7] 32).alloc (.cells #[.int .i64 0, .int .i64 0, .int .i64 0, .int .i64 0, .int .i64 0, .int .i64 0, .int .i64 0, .int .i64 0] 32)
  have B6 := Blk.new ((w.alloc (.cells #[.int .i64 v0, .int .i64 v1, .int .i64 v2, .int .i64 v3, .int .i64 v4, .int .i64 v5, .int .i64 v6, .int .i64 v7] 32)).alloc (.cells #[.int .i64 u0, .int .i64 u1, .int .i64 u2, .int .i64 u3, .int .i64 u4, .int .i64 u5, .int .i64 u6, .int .i64 u7] 32)) #[.int .i64 0, .int .i64 0, .int .i64 0, .int .i64 0, .int .i64 0, .int .i64 0, .int .i64 0, .int .i64 0] 32
  go_enter Try.func17, Try.ntmps17
  go_upto_region 1 with fail
  simp only [World.size_alloc] at B4 B6
  generalize (((w.alloc (.cells #[.int .i64 v0, .int .i64 v1, .int .i64 v2, .int .i64 v3, .int .i64 v4, .int .i64 v5, .int .i64 v6, .int .i64 v7] 32)).alloc (.cells #[.int .i64 u0, .int .i64 u1, .int .i64 u2, .int .i64 u3, .int .i64 u4, .int .i64 u5, .int .i64 u6, .int .i64 u7] 32)).alloc (.cells #[.int .i64 0, .int .i64 0, .int .i64 0, .int .i64 0, .int .i64 0, .int .i64 0, .int .i64 0, .int .i64 0] 32)) = w1 at *
  have cB3 := B3.cell
  have cB4 := B4.cell
  apply wp_region_reads2 _ (by kernel_rfl) (by kernel_rfl)
  case H =>
    intro y0 hy0
    have hne : Nonempty (Wx y0) := ⟨⟨y0, Ext.refl y0⟩⟩
    have q3 := fun (t : Wx y0) => (B3.ext (hy0.trans t.ext)).cell
    have q4 := fun (t : Wx y0) => (B4.ext (hy0.trans t.ext)).cell
    repeat (go_big_quiet_step (first | (go_at_call 15; with_reducible exact calm_of (HA.out _)) | (go_at_call 15; with_reducible exact calm_of (HB.out _))))
    exact wpQuiet_nil rfl
  intro w2 x2
  have B3 := B3.ext x2
  have B4 := B4.ext x2
  have B6 := B6.ext x2
  have x12 := x1.trans x2
  clear x1 x2 HA HB cB3 cB4
  have Bf := B6.setRow #[.int .i64 v0, .int .i64 v1, .int .i64 v2, .int .i64 v3, .int .i64 v4, .int .i64 v5, .int .i64 v6, .int .i64 v7]
  have Ef := x12.setRow (g := w.heap.size + 1 + 1) (by omega) #[.int .i64 v0, .int .i64 v1, .int .i64 v2, .int .i64 v3, .int .i64 v4, .int .i64 v5, .int .i64 v6, .int .i64 v7]

  go_wp2_with (first
    | ((with_reducible refine wpList_load_blk (op := ⟨some 21, _, _, _, _, _⟩) ?_ 32 (.tmp 3) ?_ (w.heap.size) ?_ (z := _) (T := 32) B3 Try.underlying32 ?_ ?_ ?_); rfl; rfl; rfl; rfl; kernel_rfl)
    | ((with_reducible refine wpList_store_blk (op := ⟨none, .store 32 (.tmp 6) (.tmp 21), _, _, _, _⟩) ?_ 32 (.tmp 6) (.tmp 21) ?_ (w.heap.size + 1 + 1) ?_ (cs := #[.int .i64 v0, .int .i64 v1, .int .i64 v2, .int .i64 v3, .int .i64 v4, .int .i64 v5, .int .i64 v6, .int .i64 v7]) ?_ (z := #[.int .i64 0, .int .i64 0, .int .i64 0, .int .i64 0, .int .i64 0, .int .i64 0, .int .i64 0, .int .i64 0]) (T := 32) ?_ ?_ ?_ ?_ ?_); rfl; rfl; rfl; rfl; exact B6; kernel_rfl; kernel_rfl; kernel_rfl)
    | fail)
  exact bodyPost_ret (v := .agg #[.int .i64 v0, .int .i64 v1, .int .i64 v2, .int .i64 v3, .int .i64 v4, .int .i64 v5, .int .i64 v6, .int .i64 v7]) (results_blk (b := w.heap.size + 1 + 1) (t := 6) (ty := 32) rfl rfl Bf Try.underlying32 rfl (by kernel_rfl)) rfl ⟨rfl, Ef⟩
set_option maxRecDepth 100000 in
set_option maxHeartbeats 4000000 in
theorem cross_keep2 (v0 v1 v2 v3 v4 v5 v6 v7 u0 u1 u2 u3 u4 u5 u6 u7 a b : Int) (k : Int) (w : World) (hA : ∀ u, Calls Try.prog 15 #[.agg #[.int .i64 v0, .int .i64 v1, .int .i64 v2, .int .i64 v3, .int .i64 v4, .int .i64 v5, .int .i64 v6, .int .i64 v7], .int .i64 k] u fun e w' => e = .returned (.int .i64 a) ∧ Ext u w') (hB : ∀ u, Calls Try.prog 15 #[.agg #[.int .i64 u0, .int .i64 u1, .int .i64 u2, .int .i64 u3, .int .i64 u4, .int .i64 u5, .int .i64 u6, .int .i64 u7], .int .i64 k] u fun e w' => e = .returned (.int .i64 b) ∧ Ext u w') (h1 : 0 ≤ a) (h : 0 ≤ b) : Calls Try.prog 17 #[.agg #[.int .i64 v0, .int .i64 v1, .int .i64 v2, .int .i64 v3, .int .i64 v4, .int .i64 v5, .int .i64 v6, .int .i64 v7], .agg #[.int .i64 u0, .int .i64 u1, .int .i64 u2, .int .i64 u3, .int .i64 u4, .int .i64 u5, .int .i64 u6, .int .i64 u7], .int .i64 k] w fun e w' => e = .returned (.agg #[.int .i64 v0, .int .i64 v1, .int .i64 v2, .int .i64 v3, .int .i64 v4, .int .i64 v5, .int .i64 v6, .int .i64 v7]) ∧ Ext w w' := by
  have HA := Lib.hid hA
  have HB := Lib.hid hB
  clear hA hB
  have x1 : Ext w (((w.alloc (.cells #[.int .i64 v0, .int .i64 v1, .int .i64 v2, .int .i64 v3, .int .i64 v4, .int .i64 v5, .int .i64 v6, .int .i64 v7] 32)).alloc (.cells #[.int .i64 u0, .int .i64 u1, .int .i64 u2, .int .i64 u3, .int .i64 u4, .int .i64 u5, .int .i64 u6, .int .i64 u7] 32)).alloc (.cells #[.int .i64 0, .int .i64 0, .int .i64 0, .int .i64 0, .int .i64 0, .int .i64 0, .int .i64 0, .int .i64 0] 32)) := (((Ext.refl w).alloc _ _).alloc _ _).alloc _ _
  have B3 := ((Blk.new w #[.int .i64 v0, .int .i64 v1, .int .i64 v2, .int .i64 v3, .int .i64 v4, .int .i64 v5, .int .i64 v6, .int .i64 v7] 32).alloc (.cells #[.int .i64 u0, .int .i64 u1, .int .i64 u2, .int .i64 u3, .int .i64 u4, .int .i64 u5, .int .i64 u6, .int .i64 u7] 32)).alloc (.cells #[.int .i64 0, .int .i64 0, .int .i64 0, .int .i64 0, .int .i64 0, .int .i64 0, .int .i64 0, .int .i64 0] 32)
  have B4 := (Blk.new (w.alloc (.cells #[.int .i64 v0, .int .i64 v1, .int .i64 v2, .int .i64 v3, .int .i64 v4, .int .i64 v5, .int .i64 v6, .int .i64 v7] 32)) #[.int .i64 u0, .int .i64 u1, .int .i64 u2, .int .i64 u3, .int .i64 u4, .int .i64 u5, .int .i64 u6, .int .i64 u7] 32).alloc (.cells #[.int .i64 0, .int .i64 0, .int .i64 0, .int .i64 0, .int .i64 0, .int .i64 0, .int .i64 0, .int .i64 0] 32)
  have B6 := Blk.new ((w.alloc (.cells #[.int .i64 v0, .int .i64 v1, .int .i64 v2, .int .i64 v3, .int .i64 v4, .int .i64 v5, .int .i64 v6, .int .i64 v7] 32)).alloc (.cells #[.int .i64 u0, .int .i64 u1, .int .i64 u2, .int .i64 u3, .int .i64 u4, .int .i64 u5, .int .i64 u6, .int .i64 u7] 32)) #[.int .i64 0, .int .i64 0, .int .i64 0, .int .i64 0, .int .i64 0, .int .i64 0, .int .i64 0, .int .i64 0] 32
  go_enter Try.func17, Try.ntmps17
  go_upto_region 1 with fail
  simp only [World.size_alloc] at B4 B6
  generalize (((w.alloc (.cells #[.int .i64 v0, .int .i64 v1, .int .i64 v2, .int .i64 v3, .int .i64 v4, .int .i64 v5, .int .i64 v6, .int .i64 v7] 32)).alloc (.cells #[.int .i64 u0, .int .i64 u1, .int .i64 u2, .int .i64 u3, .int .i64 u4, .int .i64 u5, .int .i64 u6, .int .i64 u7] 32)).alloc (.cells #[.int .i64 0, .int .i64 0, .int .i64 0, .int .i64 0, .int .i64 0, .int .i64 0, .int .i64 0, .int .i64 0] 32)) = w1 at *
  have cB3 := B3.cell
  have cB4 := B4.cell
  apply wp_region_reads2 _ (by kernel_rfl) (by kernel_rfl)
  case H =>
    intro y0 hy0
    have hne : Nonempty (Wx y0) := ⟨⟨y0, Ext.refl y0⟩⟩
    have q3 := fun (t : Wx y0) => (B3.ext (hy0.trans t.ext)).cell
    have q4 := fun (t : Wx y0) => (B4.ext (hy0.trans t.ext)).cell
    repeat (go_big_quiet_step (first | (go_at_call 15; with_reducible exact calm_of (HA.out _)) | (go_at_call 15; with_reducible exact calm_of (HB.out _))))
    exact wpQuiet_nil rfl
  intro w2 x2
  have B3 := B3.ext x2
  have B4 := B4.ext x2
  have B6 := B6.ext x2
  have x12 := x1.trans x2
  clear x1 x2 HA HB cB3 cB4
  have Bf := B6.setRow #[.int .i64 v0, .int .i64 v1, .int .i64 v2, .int .i64 v3, .int .i64 v4, .int .i64 v5, .int .i64 v6, .int .i64 v7]
  have Ef := x12.setRow (g := w.heap.size + 1 + 1) (by omega) #[.int .i64 v0, .int .i64 v1, .int .i64 v2, .int .i64 v3, .int .i64 v4, .int .i64 v5, .int .i64 v6, .int .i64 v7]
  have h1n : ¬ a < 0 := by omega
  go_wp2_with (first
    | ((with_reducible refine wpList_load_blk (op := ⟨some 21, _, _, _, _, _⟩) ?_ 32 (.tmp 3) ?_ (w.heap.size) ?_ (z := _) (T := 32) B3 Try.underlying32 ?_ ?_ ?_); rfl; rfl; rfl; rfl; kernel_rfl)
    | ((with_reducible refine wpList_store_blk (op := ⟨none, .store 32 (.tmp 6) (.tmp 21), _, _, _, _⟩) ?_ 32 (.tmp 6) (.tmp 21) ?_ (w.heap.size + 1 + 1) ?_ (cs := #[.int .i64 v0, .int .i64 v1, .int .i64 v2, .int .i64 v3, .int .i64 v4, .int .i64 v5, .int .i64 v6, .int .i64 v7]) ?_ (z := #[.int .i64 0, .int .i64 0, .int .i64 0, .int .i64 0, .int .i64 0, .int .i64 0, .int .i64 0, .int .i64 0]) (T := 32) ?_ ?_ ?_ ?_ ?_); rfl; rfl; rfl; rfl; exact B6; kernel_rfl; kernel_rfl; kernel_rfl)
    | fail)
  exact bodyPost_ret (v := .agg #[.int .i64 v0, .int .i64 v1, .int .i64 v2, .int .i64 v3, .int .i64 v4, .int .i64 v5, .int .i64 v6, .int .i64 v7]) (results_blk (b := w.heap.size + 1 + 1) (t := 6) (ty := 32) rfl rfl Bf Try.underlying32 rfl (by kernel_rfl)) rfl ⟨rfl, Ef⟩
set_option maxRecDepth 100000 in
set_option maxHeartbeats 4000000 in
theorem cross_cut (v0 v1 v2 v3 v4 v5 v6 v7 u0 u1 u2 u3 u4 u5 u6 u7 a b : Int) (k : Int) (w : World) (hA : ∀ u, Calls Try.prog 15 #[.agg #[.int .i64 v0, .int .i64 v1, .int .i64 v2, .int .i64 v3, .int .i64 v4, .int .i64 v5, .int .i64 v6, .int .i64 v7], .int .i64 k] u fun e w' => e = .returned (.int .i64 a) ∧ Ext u w') (hB : ∀ u, Calls Try.prog 15 #[.agg #[.int .i64 u0, .int .i64 u1, .int .i64 u2, .int .i64 u3, .int .i64 u4, .int .i64 u5, .int .i64 u6, .int .i64 u7], .int .i64 k] u fun e w' => e = .returned (.int .i64 b) ∧ Ext u w') (r0 r1 r2 r3 r4 r5 r6 r7 : Int) (ha : 0 ≤ a ∧ a ≤ 37748736) (hb : -37748736 ≤ b ∧ b < 0) (hP : ∀ u : World, Calls Try.prog 25 #[.agg #[.int .i64 v0, .int .i64 v1, .int .i64 v2, .int .i64 v3], .agg #[.int .i64 u0, .int .i64 u1, .int .i64 u2, .int .i64 u3], .int .i64 a, .int .i64 (a - b)] u fun e w' => e = .returned (.agg #[.int .i64 r0, .int .i64 r1, .int .i64 r2, .int .i64 r3]) ∧ Ext u w') (hQ : ∀ u : World, Calls Try.prog 25 #[.agg #[.int .i64 v4, .int .i64 v5, .int .i64 v6, .int .i64 v7], .agg #[.int .i64 u4, .int .i64 u5, .int .i64 u6, .int .i64 u7], .int .i64 a, .int .i64 (a - b)] u fun e w' => e = .returned (.agg #[.int .i64 r4, .int .i64 r5, .int .i64 r6, .int .i64 r7]) ∧ Ext u w') : Calls Try.prog 17 #[.agg #[.int .i64 v0, .int .i64 v1, .int .i64 v2, .int .i64 v3, .int .i64 v4, .int .i64 v5, .int .i64 v6, .int .i64 v7], .agg #[.int .i64 u0, .int .i64 u1, .int .i64 u2, .int .i64 u3, .int .i64 u4, .int .i64 u5, .int .i64 u6, .int .i64 u7], .int .i64 k] w fun e w' => e = .returned (.agg #[.int .i64 r0, .int .i64 r1, .int .i64 r2, .int .i64 r3, .int .i64 r4, .int .i64 r5, .int .i64 r6, .int .i64 r7]) ∧ Ext w w' := by
  have HP := Lib.hid hP
  have HQ := Lib.hid hQ
  clear hP hQ
  have HA := Lib.hid hA
  have HB := Lib.hid hB
  clear hA hB
  have x1 : Ext w (((w.alloc (.cells #[.int .i64 v0, .int .i64 v1, .int .i64 v2, .int .i64 v3, .int .i64 v4, .int .i64 v5, .int .i64 v6, .int .i64 v7] 32)).alloc (.cells #[.int .i64 u0, .int .i64 u1, .int .i64 u2, .int .i64 u3, .int .i64 u4, .int .i64 u5, .int .i64 u6, .int .i64 u7] 32)).alloc (.cells #[.int .i64 0, .int .i64 0, .int .i64 0, .int .i64 0, .int .i64 0, .int .i64 0, .int .i64 0, .int .i64 0] 32)) := (((Ext.refl w).alloc _ _).alloc _ _).alloc _ _
  have B3 := ((Blk.new w #[.int .i64 v0, .int .i64 v1, .int .i64 v2, .int .i64 v3, .int .i64 v4, .int .i64 v5, .int .i64 v6, .int .i64 v7] 32).alloc (.cells #[.int .i64 u0, .int .i64 u1, .int .i64 u2, .int .i64 u3, .int .i64 u4, .int .i64 u5, .int .i64 u6, .int .i64 u7] 32)).alloc (.cells #[.int .i64 0, .int .i64 0, .int .i64 0, .int .i64 0, .int .i64 0, .int .i64 0, .int .i64 0, .int .i64 0] 32)
  have B4 := (Blk.new (w.alloc (.cells #[.int .i64 v0, .int .i64 v1, .int .i64 v2, .int .i64 v3, .int .i64 v4, .int .i64 v5, .int .i64 v6, .int .i64 v7] 32)) #[.int .i64 u0, .int .i64 u1, .int .i64 u2, .int .i64 u3, .int .i64 u4, .int .i64 u5, .int .i64 u6, .int .i64 u7] 32).alloc (.cells #[.int .i64 0, .int .i64 0, .int .i64 0, .int .i64 0, .int .i64 0, .int .i64 0, .int .i64 0, .int .i64 0] 32)
  have B6 := Blk.new ((w.alloc (.cells #[.int .i64 v0, .int .i64 v1, .int .i64 v2, .int .i64 v3, .int .i64 v4, .int .i64 v5, .int .i64 v6, .int .i64 v7] 32)).alloc (.cells #[.int .i64 u0, .int .i64 u1, .int .i64 u2, .int .i64 u3, .int .i64 u4, .int .i64 u5, .int .i64 u6, .int .i64 u7] 32)) #[.int .i64 0, .int .i64 0, .int .i64 0, .int .i64 0, .int .i64 0, .int .i64 0, .int .i64 0, .int .i64 0] 32
  go_enter Try.func17, Try.ntmps17
  go_upto_region 1 with fail
  simp only [World.size_alloc] at B4 B6
  generalize (((w.alloc (.cells #[.int .i64 v0, .int .i64 v1, .int .i64 v2, .int .i64 v3, .int .i64 v4, .int .i64 v5, .int .i64 v6, .int .i64 v7] 32)).alloc (.cells #[.int .i64 u0, .int .i64 u1, .int .i64 u2, .int .i64 u3, .int .i64 u4, .int .i64 u5, .int .i64 u6, .int .i64 u7] 32)).alloc (.cells #[.int .i64 0, .int .i64 0, .int .i64 0, .int .i64 0, .int .i64 0, .int .i64 0, .int .i64 0, .int .i64 0] 32)) = w1 at *
  have cB3 := B3.cell
  have cB4 := B4.cell
  apply wp_region_reads2 _ (by kernel_rfl) (by kernel_rfl)
  case H =>
    intro y0 hy0
    have hne : Nonempty (Wx y0) := ⟨⟨y0, Ext.refl y0⟩⟩
    have q3 := fun (t : Wx y0) => (B3.ext (hy0.trans t.ext)).cell
    have q4 := fun (t : Wx y0) => (B4.ext (hy0.trans t.ext)).cell
    repeat (go_big_quiet_step (first | (go_at_call 15; with_reducible exact calm_of (HA.out _)) | (go_at_call 15; with_reducible exact calm_of (HB.out _))))
    exact wpQuiet_nil rfl
  intro w2 x2
  have B3 := B3.ext x2
  have B4 := B4.ext x2
  have B6 := B6.ext x2
  have x12 := x1.trans x2
  clear x1 x2 HA HB cB3 cB4
  have h1 : ¬ a < 0 := by omega
  have h2 : ¬ 0 ≤ b := by omega
  go_upto_region 4 with fail
  apply wp_region_vars [false, false, false, false, false, false, false, false, false, false, false, false, false, false, false, false, false, false, false, true] [w.heap.size + 1 + 1] [⟨none, 0, w.heap.size + 1 + 1, some 19, 32, #[.int .i64 0, .int .i64 0, .int .i64 0, .int .i64 0, .int .i64 0, .int .i64 0, .int .i64 0, .int .i64 0], #[.int .i64 r0, .int .i64 r1, .int .i64 r2, .int .i64 r3, .int .i64 r4, .int .i64 r5, .int .i64 r6, .int .i64 r7]⟩] _ (by kernel_rfl) (by kernel_rfl) (by kernel_rfl)
  case H =>
    intro x hx
    have hne : Nonempty (Wx x) := ⟨⟨x, Ext.refl x⟩⟩
    have q3 := fun (y : Wx x) => ((B3.calm hx (by simp; omega)).ext y.ext).cell
    have q4 := fun (y : Wx x) => ((B4.calm hx (by simp)).ext y.ext).cell
    simp only [eraseM]
    repeat (go_big_quiet_step (first | (go_at_call 25; with_reducible exact calm_of (HP.out _)) | (go_at_call 25; with_reducible exact calm_of (HQ.out _))))
    exact wpQuiet_nil rfl
  case hok =>
    simp only [List.forall_mem_cons, List.not_mem_nil, false_implies, implies_true, and_true]
    exact tgt_mine (v := .agg #[.int .i64 r0, .int .i64 r1, .int .i64 r2, .int .i64 r3, .int .i64 r4, .int .i64 r5, .int .i64 r6, .int .i64 r7]) (off := 0) (by simp) B6 rfl rfl rfl rfl rfl rfl (by kernel_rfl) (by kernel_rfl) (of_decide_eq_true (by kernel_rfl)) rfl
  case hdis =>
    intro k k' t t' hk hk' hkk ha ha'
    exfalso
    have h1 : k < 1 := (List.getElem?_eq_some_iff.1 hk).1
    have h2 : k' < 1 := (List.getElem?_eq_some_iff.1 hk').1
    omega
  rintro w4 f hw ⟨k0, l0, d0, u0, -⟩
  have e0 : f 0 = w.heap.size + 1 + 1 := k0
  rw [e0] at d0
  have Ef := Ext.calm_trans x12 hw (by simp; omega)
  clear k0 l0 u0 e0 hw HP HQ B3 B4 B6 x12
  simp only [pairs, putAll, Option.isSome_none, Bool.false_eq_true, if_false]
  go_wp2_with fail
  exact bodyPost_ret (v := .agg #[.int .i64 r0, .int .i64 r1, .int .i64 r2, .int .i64 r3, .int .i64 r4, .int .i64 r5, .int .i64 r6, .int .i64 r7]) (results_blk (b := w.heap.size + 1 + 1) (t := 6) (ty := 32) rfl rfl d0 Try.underlying32 rfl (by kernel_rfl)) rfl ⟨rfl, Ef⟩
theorem cross_any (v u : V8) (hv : v.in64) (hu : u.in64) (k : Nat) (w : World) : Calls Try.prog 17 #[.agg v.l.toArray, .agg u.l.toArray, .int .i64 (k : Int)] w fun e w' => e = .returned (.agg (crossZ v u k).l.toArray) ∧ Ext w w' := by
  have hA := insideN_any v hv k
  have hB := insideN_any u hu k
  have ba := insF_bd v.lim_fine.1 k
  have bb := insF_bd u.lim_fine.1 k
  unfold crossZ
  by_cases h1 : insF v.lim k < 0
  · rw [if_pos (.inl h1)]
    exact cross_keep1 v.p0 v.p1 v.p2 v.p3 v.c0 v.c1 v.c2 v.c3 u.p0 u.p1 u.p2 u.p3 u.c0 u.c1 u.c2 u.c3 _ _ k w hA hB h1
  · by_cases h2 : 0 ≤ insF u.lim k
    · rw [if_pos (.inr h2)]
      exact cross_keep2 v.p0 v.p1 v.p2 v.p3 v.c0 v.c1 v.c2 v.c3 u.p0 u.p1 u.p2 u.p3 u.c0 u.c1 u.c2 u.c3 _ _ k w hA hB (by omega) h2
    · rw [if_neg (by omega)]
      obtain ⟨a0, a1, a2, a3, a4, a5, a6, a7⟩ := hv
      obtain ⟨g0, g1, g2, g3, g4, g5, g6, g7⟩ := hu
      exact cross_cut v.p0 v.p1 v.p2 v.p3 v.c0 v.c1 v.c2 v.c3 u.p0 u.p1 u.p2 u.p3 u.c0 u.c1 u.c2 u.c3 _ _ k w hA hB _ _ _ _ _ _ _ _ (by omega) (by omega) (fun z => between_any _ _ _ _ _ _ _ _ _ _ a0 a1 a2 a3 g0 g1 g2 g3 (by omega) (by omega) (by omega) z) (fun z => between_any _ _ _ _ _ _ _ _ _ _ a4 a5 a6 a7 g4 g5 g6 g7 (by omega) (by omega) (by omega) z)
end Go.Proofs.Ytjohcngmoemmbaa
