/-
  DERIVED. The landed setup's Of (made by mksetreal.py). · The landed setup's join (made by mksetreal.py). · The landed setup's Make (made by mksetreal.py).
-/
import Derived.Test.YtglehnmkdapnpaaPkLim
import Derived.Test.YtglehnmkdapnpaaPkRef3
import Derived.Test.YtglehnmkdapnpaaPkEdge
namespace Go.Proofs.Ytglehnmkdapnpaa
open Go.RowKit
set_option linter.unusedVariables false
set_option maxRecDepth 100000 in
set_option maxHeartbeats 4000000 in
theorem floorBig (a b : Int) (w : World) (h1 : -4611686018427387904 ≤ a ∧ a ≤ 4611686018427387904) (h3 : 0 < b) (h4 : b ≤ 9223372036854775807) : Calls Try.prog 35 #[.int .i64 a, .int .i64 b] w fun e w' => e = .returned (.int .i64 (a / b)) ∧ Ext w w' := by
  have hb : b ≠ 0 := by omega
  have hbq : (b == 0) = false := by simpa using hb
  obtain ⟨h1, h2⟩ := h1
  obtain ⟨q1, q2⟩ := tdiv_bd a b (M := 4611686018427387904) h1 h2
  obtain ⟨r1, r2⟩ := tmod_bd a b (M := 4611686018427387904) h1 h2
  have HF := Lib.hid (flr_of_tdiv a b hb)
  have HG := Lib.hid (flr_pos a h3)
  go_enter Try.func35, Try.ntmps35
  go_wp2
  go_quiet (fail)
  go_wp2
  all_goals
    go_ret
    refine ⟨ret_int ?_, (Ext.refl _).drewN _⟩
    rw [← HG.out, HF.out]; clear HF HG h1 h2 h4 q1 q2 r1 r2
    by_cases c1 : a.tmod b < 0 <;> by_cases c2 : b < 0 <;> simp_all <;> omega
set_option maxRecDepth 100000 in
set_option maxHeartbeats 4000000 in
theorem of_main13 (p0 p1 p2 p3 c0 c1 c2 c3 w0 h0 W H q0 q1 q2 q3 F e0 e1 e2 r0 r1 r2 r3 r4 r5 r6 r7 : Int) (hF : maxI p3 256 = F) (bF : 256 ≤ F ∧ F ≤ 9223372036854775807) (bW : 1 ≤ W ∧ W ≤ 64) (bH : 1 ≤ H ∧ H ≤ 64)
    (b0 : -4294967296 ≤ 8 * W * q0 ∧ 8 * W * q0 ≤ 4294967296) (b1 : -4294967296 ≤ 8 * H * q1 ∧ 8 * H * q1 ≤ 4294967296) (b2 : -4194304 ≤ q2 ∧ q2 ≤ 4194304) (a0 : -4294967297 ≤ e0 ∧ e0 ≤ 4294967297) (a1 : -4294967297 ≤ e1 ∧ e1 ≤ 4294967297)
    (hW : ∀ u : World, Calls Try.prog 33 #[.agg #[.int .i64 p0, .int .i64 p1, .int .i64 p2, .int .i64 p3], .int .i64 4194304] u fun e w' => e = .returned (.agg #[.int .i64 q0, .int .i64 q1, .int .i64 q2, .int .i64 q3]) ∧ Ext u w') (hB : ∀ u : World, Calls Try.prog 34 #[.int .i64 1, .int .i64 w0, .int .i64 64] u fun e w' => e = .returned (.int .i64 W) ∧ Ext u w') (hD : ∀ u : World, Calls Try.prog 34 #[.int .i64 1, .int .i64 h0, .int .i64 64] u fun e w' => e = .returned (.int .i64 H) ∧ Ext u w')
    (hX : ∀ u : World, Calls Try.prog 35 #[.int .i64 (8 * W * q0), .int .i64 F] u fun e w' => e = .returned (.int .i64 e0) ∧ Ext u w') (hY : ∀ u : World, Calls Try.prog 35 #[.int .i64 (8 * H * q1), .int .i64 F] u fun e w' => e = .returned (.int .i64 e1) ∧ Ext u w') (hZ : ∀ u : World, Calls Try.prog 35 #[.int .i64 (65535 * q2), .int .i64 F] u fun e w' => e = .returned (.int .i64 e2) ∧ Ext u w')
    (hL : ∀ u : World, Calls Try.prog 32 #[.agg #[.int .i64 (8 * W + e0), .int .i64 (8 * H - e1), .int .i64 e2, .int .i64 F, .int .i64 c0, .int .i64 c1, .int .i64 c2, .int .i64 c3]] u fun e w' => e = .returned (.agg #[.int .i64 r0, .int .i64 r1, .int .i64 r2, .int .i64 r3, .int .i64 r4, .int .i64 r5, .int .i64 r6, .int .i64 r7]) ∧ Ext u w') (w : World) :
    Calls Try.prog 15 #[.agg #[.int .i64 p0, .int .i64 p1, .int .i64 p2, .int .i64 p3, .int .i64 c0, .int .i64 c1, .int .i64 c2, .int .i64 c3], .int .i64 w0, .int .i64 h0] w fun e w' => e = .returned (.agg #[.int .i64 r0, .int .i64 r1, .int .i64 r2, .int .i64 r3, .int .i64 r4, .int .i64 r5, .int .i64 r6, .int .i64 r7]) ∧ Ext w w' := by
  have wa : IntKind.i64.wrap (8 * W) = 8 * W := by rw [IntKind.wrap_i64]; omega
  have wa2 : IntKind.i64.wrap (8 * W * q0) = 8 * W * q0 := by rw [IntKind.wrap_i64]; omega
  have wb : IntKind.i64.wrap (8 * H) = 8 * H := by rw [IntKind.wrap_i64]; omega
  have wb2 : IntKind.i64.wrap (8 * H * q1) = 8 * H * q1 := by rw [IntKind.wrap_i64]; omega
  have wc : IntKind.i64.wrap (65535 * q2) = 65535 * q2 := by rw [IntKind.wrap_i64]; omega
  have wx : IntKind.i64.wrap (8 * W + e0) = 8 * W + e0 := by rw [IntKind.wrap_i64]; omega
  have wy : IntKind.i64.wrap (8 * H - e1) = 8 * H - e1 := by rw [IntKind.wrap_i64]; omega
  have HW := Lib.hid hW
  have HB := Lib.hid hB
  have HD := Lib.hid hD
  have HX := Lib.hid hX
  have HY := Lib.hid hY
  have HZ := Lib.hid hZ
  have HL := Lib.hid hL
  clear hW hB hD hX hY hZ hL
  clear b0 b1 b2 a0 a1
  have xx : Ext w ((w.alloc (.cells #[.int .i64 p0, .int .i64 p1, .int .i64 p2, .int .i64 p3, .int .i64 c0, .int .i64 c1, .int .i64 c2, .int .i64 c3] 32)).alloc (.cells #[.int .i64 0, .int .i64 0, .int .i64 0, .int .i64 0, .int .i64 0, .int .i64 0, .int .i64 0, .int .i64 0] 59)) := ((Ext.refl w).alloc _ _).alloc _ _
  have B3 := (Blk.new w #[.int .i64 p0, .int .i64 p1, .int .i64 p2, .int .i64 p3, .int .i64 c0, .int .i64 c1, .int .i64 c2, .int .i64 c3] 32).alloc (.cells #[.int .i64 0, .int .i64 0, .int .i64 0, .int .i64 0, .int .i64 0, .int .i64 0, .int .i64 0, .int .i64 0] 59)
  have B6 := Blk.new (w.alloc (.cells #[.int .i64 p0, .int .i64 p1, .int .i64 p2, .int .i64 p3, .int .i64 c0, .int .i64 c1, .int .i64 c2, .int .i64 c3] 32)) #[.int .i64 0, .int .i64 0, .int .i64 0, .int .i64 0, .int .i64 0, .int .i64 0, .int .i64 0, .int .i64 0] 59
  go_enter Try.func15, Try.ntmps15
  go_upto_region 1 with fail
  simp only [World.size_alloc] at B6
  generalize ((w.alloc (.cells #[.int .i64 p0, .int .i64 p1, .int .i64 p2, .int .i64 p3, .int .i64 c0, .int .i64 c1, .int .i64 c2, .int .i64 c3] 32)).alloc (.cells #[.int .i64 0, .int .i64 0, .int .i64 0, .int .i64 0, .int .i64 0, .int .i64 0, .int .i64 0, .int .i64 0] 59)) = w1 at *
  have R := Lib.hid (B3.mid13 0 [.int .i64 p0, .int .i64 p1, .int .i64 p2, .int .i64 p3] rfl)
  go_wp2_with (first
    | ((with_reducible refine wpList_load_mid (op := ⟨some 10, _, _, _, _, _⟩) ?_ 30 (.tmp 9) ?_ w.heap.size 0 ?_ [.int .i64 p0, .int .i64 p1, .int .i64 p2, .int .i64 p3] _ R.out Try.underlying30 ?_ ?_ ?_); rfl; rfl; rfl; rfl; kernel_rfl)
    | fail)
  refine (HW.out _).mono ?_
  rintro e w2 ⟨rfl, x2⟩
  have xx := xx.trans x2
  have B3 := B3.ext x2
  have B6 := B6.ext x2
  clear x2 R
  have hb7 := B6.lt
  have y7 : Ext w2 ((w2.alloc (.cells #[.int .i64 0, .int .i64 0, .int .i64 0, .int .i64 0] 30)).setRow w2.heap.size #[.int .i64 q0, .int .i64 q1, .int .i64 q2, .int .i64 q3]) := ((Ext.refl _).alloc _ _).setRow (Nat.le_refl _) _
  have B7 := (Blk.new w2 #[.int .i64 0, .int .i64 0, .int .i64 0, .int .i64 0] 30).setRow #[.int .i64 q0, .int .i64 q1, .int .i64 q2, .int .i64 q3]
  go_upto_region 2 with (first
    | ((with_reducible refine wpList_store_blk (op := ⟨none, .store 30 (.tmp 7) (.tmp 11), _, _, _, _⟩) ?_ 30 (.tmp 7) (.tmp 11) ?_ (w2.heap.size) ?_ (cs := #[.int .i64 q0, .int .i64 q1, .int .i64 q2, .int .i64 q3]) ?_ (z := #[.int .i64 0, .int .i64 0, .int .i64 0, .int .i64 0]) (T := 30) ?_ ?_ ?_ ?_ ?_); rfl; rfl; rfl; rfl; exact Blk.new w2 _ _; kernel_rfl; kernel_rfl; kernel_rfl)
    | fail)
  simp only [Act.put]
  have xx := xx.trans y7
  have B3 := B3.ext y7
  have B6 := B6.ext y7
  clear y7
  generalize (w2.alloc (.cells #[.int .i64 0, .int .i64 0, .int .i64 0, .int .i64 0] 30)).setRow w2.heap.size #[.int .i64 q0, .int .i64 q1, .int .i64 q2, .int .i64 q3] = w3 at *
  generalize w2.heap.size = k7 at *
  have hmx := maxI_fold
  have kc := B3.cell
  go_upto_region 3 with fail
  clear hmx hF
  go_wp2_with fail
  refine (HB.out _).mono ?_
  rintro e w4 ⟨rfl, x4⟩
  have xx := xx.trans x4
  have B3 := B3.ext x4
  have B6 := B6.ext x4
  have B7 := B7.ext x4
  clear x4 kc
  go_wp2_with fail
  refine (HD.out _).mono ?_
  rintro e w5 ⟨rfl, x5⟩
  have xx := xx.trans x5
  have B3 := B3.ext x5
  have B6 := B6.ext x5
  have B7 := B7.ext x5
  clear x5
  go_upto_region 4 with fail
  apply wp_region_vars [false, false, false, false, false, false, false, false, false, false, false, false, false, false, false, false, false, false, false, false, false, false, false, false, false, false, false, false, false, false, false, true] [w.heap.size + 1] [⟨none, 0, w.heap.size + 1, some 31, 59, #[.int .i64 0, .int .i64 0, .int .i64 0, .int .i64 0, .int .i64 0, .int .i64 0, .int .i64 0, .int .i64 0], #[.int .i64 r0, .int .i64 r1, .int .i64 r2, .int .i64 r3, .int .i64 r4, .int .i64 r5, .int .i64 r6, .int .i64 r7]⟩] _ (by kernel_rfl) (by kernel_rfl) (by kernel_rfl)
  case H =>
    intro x0 hx
    have hne : Nonempty (Wx x0) := ⟨⟨x0, Ext.refl x0⟩⟩
    have qB3 := fun (y : Wx x0) => ((B3.calm hx (by simp <;> omega)).ext y.ext).cell
    have qB7 := fun (y : Wx x0) => ((B7.calm hx (by simp <;> omega)).ext y.ext).cell
    simp only [eraseM]
    repeat (go_big_quiet_step (first | (go_at_call 35; with_reducible exact calm_of (HX.out _)) | (go_at_call 35; with_reducible exact calm_of (HY.out _)) | (go_at_call 35; with_reducible exact calm_of (HZ.out _)) | (go_at_call 32; with_reducible exact calm_of (HL.out _))))
    exact wpQuiet_nil rfl
  case hok =>
    simp only [List.forall_mem_cons, List.not_mem_nil, false_implies, implies_true, and_true]
    exact tgt_mine (v := .agg #[.int .i64 r0, .int .i64 r1, .int .i64 r2, .int .i64 r3, .int .i64 r4, .int .i64 r5, .int .i64 r6, .int .i64 r7]) (off := 0) (by simp) B6 rfl rfl rfl rfl rfl rfl (by kernel_rfl) (by kernel_rfl) (of_decide_eq_true (by kernel_rfl)) rfl
  case hdis =>
    intro k k' t t' hk hk' hkk ha ha'
    exfalso
    have h1 : k < 1 := (List.getElem?_eq_some_iff.1 hk).1
    have h2 : k' < 1 := (List.getElem?_eq_some_iff.1 hk').1
    omega
  rintro w6 f hw ⟨k0, l0, d0, u0, -⟩
  have e0' : f 0 = w.heap.size + 1 := k0
  rw [e0'] at d0
  simp only [pairs, putAll, Option.isSome_none, Bool.false_eq_true, if_false]
  have Ef := Ext.calm_trans xx hw (by simp)
  clear k0 l0 u0 e0' hw
  go_wp2_with fail
  exact bodyPost_ret (v := .agg #[.int .i64 r0, .int .i64 r1, .int .i64 r2, .int .i64 r3, .int .i64 r4, .int .i64 r5, .int .i64 r6, .int .i64 r7]) (results_blk (b := w.heap.size + 1) (t := 6) (ty := 59) rfl rfl d0 Try.underlying59 rfl (by kernel_rfl)) rfl ⟨rfl, Ef⟩
theorem mul_w {W q : Int} (hW : 1 ≤ W ∧ W ≤ 64) (hq : -4194304 ≤ q ∧ q ≤ 4194304) : -4294967296 ≤ 8 * W * q ∧ 8 * W * q ≤ 4294967296 := by
  have := mul_in hq hW
  have e : 8 * W * q = q * W * 8 := by rw [Int.mul_comm (8 * W), Int.mul_comm 8 W, Int.mul_assoc]
  omega
theorem sof_any (v : V8) (hv : v.in64) (W H : Int) (hW : I64 W) (hH : I64 H) (w : World) : Calls Try.prog 15 #[.agg v.l.toArray, .int .i64 W, .int .i64 H] w fun e w' => e = .returned (.agg (ofF v W H).l.toArray) ∧ Ext w w' := by
  obtain ⟨h0, h1, h2, h3, h4, h5, h6, h7⟩ := hv
  have bW := bdI_bd W (lo := 1) (hi := 64) (by omega)
  have bH := bdI_bd H (lo := 1) (hi := 64) (by omega)
  have m0 := mul_w bW (lim4_bd v.p0)
  have m1 := mul_w bH (lim4_bd v.p1)
  have l2 := lim4_bd v.p2
  have bF : 256 ≤ max v.p3 256 ∧ max v.p3 256 ≤ 9223372036854775807 := by omega
  have d0 := div_in (n := 8 * bdI W 1 64 * lim4 v.p0) (d := max v.p3 256) (M := 4294967296) m0 (by omega) (by omega)
  have d1 := div_in (n := 8 * bdI H 1 64 * lim4 v.p1) (d := max v.p3 256) (M := 4294967296) m1 (by omega) (by omega)
  have d2 := div_in (n := 65535 * lim4 v.p2) (d := max v.p3 256) (M := 4611686018427387904) (by omega) (by omega) (by omega)
  have hL := fun u => slim_any ⟨8 * bdI W 1 64 + 8 * bdI W 1 64 * lim4 v.p0 / max v.p3 256, 8 * bdI H 1 64 - 8 * bdI H 1 64 * lim4 v.p1 / max v.p3 256, 65535 * lim4 v.p2 / max v.p3 256, max v.p3 256, v.c0, v.c1, v.c2, v.c3⟩ ⟨by unfold I64; dsimp only; omega, by unfold I64; dsimp only; omega, by unfold I64; dsimp only; omega, by unfold I64; dsimp only; omega, h4, h5, h6, h7⟩ u
  have e3 : farB (max v.p3 256) = max v.p3 256 := by unfold farB; omega
  unfold Cn.lim at hL
  simp only [e3] at hL
  exact of_main13 _ _ _ _ _ _ _ _ W H _ _ _ _ _ _ _ _ _ _ _ _ _ _ _ _ _ _ (maxI_eq _ _) bF bW bH m0 m1 l2 (by omega) (by omega) (fun u => vwithin_lim v.p0 v.p1 v.p2 v.p3 h0 h1 h2 h3 u) (fun u => sbet_any 1 W 64 (by omega) hW (by omega) u) (fun u => sbet_any 1 H 64 (by omega) hH (by omega) u)
    (fun u => floorBig _ _ u (by omega) (by omega) (by omega)) (fun u => floorBig _ _ u (by omega) (by omega) (by omega)) (fun u => floorBig _ _ u (by omega) (by omega) (by omega)) hL w
end Go.Proofs.Ytglehnmkdapnpaa

namespace Go.Proofs.Ytglehnmkdapnpaa
open Go.RowKit
set_option linter.unusedVariables false
theorem run_min4 (ts : Array TypeId) (t : TypeId) (x y z u : Int) (w : World) : (Builtin.min_ ts t #[.int .i64 x, .int .i64 y, .int .i64 z, .int .i64 u]).run Try.prog w = .ok (.int .i64 (minI (minI (minI x y) z) u)) w := by
  simp [Builtin.min_, Builtin.min2, minI]
  rfl
set_option maxRecDepth 100000 in
set_option maxHeartbeats 4000000 in
theorem idxC3 (a0 a1 a2 a3 a4 a5 a6 a7 b0 b1 b2 b3 b4 b5 b6 b7 c0 c1 c2 c3 c4 c5 c6 c7 : Value) (w : World) :
    (Instr.index 99 (.agg #[a0, a1, a2, a3, a4, a5, a6, a7, b0, b1, b2, b3, b4, b5, b6, b7, c0, c1, c2, c3, c4, c5, c6, c7]) (.int .i64 0)).run Try.prog w = .ok (.agg #[a0, a1, a2, a3, a4, a5, a6, a7]) w ∧
    (Instr.index 99 (.agg #[a0, a1, a2, a3, a4, a5, a6, a7, b0, b1, b2, b3, b4, b5, b6, b7, c0, c1, c2, c3, c4, c5, c6, c7]) (.int .i64 1)).run Try.prog w = .ok (.agg #[b0, b1, b2, b3, b4, b5, b6, b7]) w ∧
    (Instr.index 99 (.agg #[a0, a1, a2, a3, a4, a5, a6, a7, b0, b1, b2, b3, b4, b5, b6, b7, c0, c1, c2, c3, c4, c5, c6, c7]) (.int .i64 2)).run Try.prog w = .ok (.agg #[c0, c1, c2, c3, c4, c5, c6, c7]) w := by
  refine ⟨?_, ?_, ?_⟩ <;> simp [Instr.index, asIntOf, run_underlying Try.underlying99, go_sem, part]
set_option maxRecDepth 100000 in
set_option maxHeartbeats 4000000 in
theorem join_main (x0 y0 d0 f0 a0 a1 a2 a3 x1 y1 d1 f1 b0 b1 b2 b3 x2 y2 d2 f2 c0 c1 c2 c3 n0 n1 n2 t0 t1 t2 L : Int) (hM : minI (minI (minI f0 f1) f2) 4194304 = L) (bL : 1 ≤ L ∧ L ≤ 4194304) (z0 : ¬ f0 = 0) (q0 : (1024 * L).tdiv f0 = t0) (bt0 : 0 ≤ t0 ∧ t0 ≤ 1024) (m0 : maxI 1 t0 = n0)  (z1 : ¬ f1 = 0) (q1 : (1024 * L).tdiv f1 = t1) (bt1 : 0 ≤ t1 ∧ t1 ≤ 1024) (m1 : maxI 1 t1 = n1)  (z2 : ¬ f2 = 0) (q2 : (1024 * L).tdiv f2 = t2) (bt2 : 0 ≤ t2 ∧ t2 ≤ 1024) (m2 : maxI 1 t2 = n2) (w : World) : Calls Try.prog 31 #[.agg #[.int .i64 x0, .int .i64 y0, .int .i64 d0, .int .i64 f0, .int .i64 a0, .int .i64 a1, .int .i64 a2, .int .i64 a3, .int .i64 x1, .int .i64 y1, .int .i64 d1, .int .i64 f1, .int .i64 b0, .int .i64 b1, .int .i64 b2, .int .i64 b3, .int .i64 x2, .int .i64 y2, .int .i64 d2, .int .i64 f2, .int .i64 c0, .int .i64 c1, .int .i64 c2, .int .i64 c3]] w fun e w' => e = .returned (.agg #[.int .i64 x0, .int .i64 y0, .int .i64 x1, .int .i64 y1, .int .i64 x2, .int .i64 y2, .int .i64 d0, .int .i64 d1, .int .i64 d2, .int .i64 n0, .int .i64 n1, .int .i64 n2, .int .i64 a0, .int .i64 a1, .int .i64 a2, .int .i64 a3, .int .i64 b0, .int .i64 b1, .int .i64 b2, .int .i64 b3, .int .i64 c0, .int .i64 c1, .int .i64 c2, .int .i64 c3]) ∧ Ext w w' := by
  have wl : IntKind.i64.wrap (1024 * L) = 1024 * L := by rw [IntKind.wrap_i64]; omega
  have xx : Ext w ((w.alloc (.cells #[.int .i64 x0, .int .i64 y0, .int .i64 d0, .int .i64 f0, .int .i64 a0, .int .i64 a1, .int .i64 a2, .int .i64 a3, .int .i64 x1, .int .i64 y1, .int .i64 d1, .int .i64 f1, .int .i64 b0, .int .i64 b1, .int .i64 b2, .int .i64 b3, .int .i64 x2, .int .i64 y2, .int .i64 d2, .int .i64 f2, .int .i64 c0, .int .i64 c1, .int .i64 c2, .int .i64 c3] 99)).alloc (.cells #[.int .i64 0, .int .i64 0, .int .i64 0, .int .i64 0, .int .i64 0, .int .i64 0, .int .i64 0, .int .i64 0, .int .i64 0, .int .i64 0, .int .i64 0, .int .i64 0, .int .i64 0, .int .i64 0, .int .i64 0, .int .i64 0, .int .i64 0, .int .i64 0, .int .i64 0, .int .i64 0, .int .i64 0, .int .i64 0, .int .i64 0, .int .i64 0] 55)) := ((Ext.refl w).alloc _ _).alloc _ _
  have B1 := (Blk.new w #[.int .i64 x0, .int .i64 y0, .int .i64 d0, .int .i64 f0, .int .i64 a0, .int .i64 a1, .int .i64 a2, .int .i64 a3, .int .i64 x1, .int .i64 y1, .int .i64 d1, .int .i64 f1, .int .i64 b0, .int .i64 b1, .int .i64 b2, .int .i64 b3, .int .i64 x2, .int .i64 y2, .int .i64 d2, .int .i64 f2, .int .i64 c0, .int .i64 c1, .int .i64 c2, .int .i64 c3] 99).alloc (.cells #[.int .i64 0, .int .i64 0, .int .i64 0, .int .i64 0, .int .i64 0, .int .i64 0, .int .i64 0, .int .i64 0, .int .i64 0, .int .i64 0, .int .i64 0, .int .i64 0, .int .i64 0, .int .i64 0, .int .i64 0, .int .i64 0, .int .i64 0, .int .i64 0, .int .i64 0, .int .i64 0, .int .i64 0, .int .i64 0, .int .i64 0, .int .i64 0] 55)
  have B2 := Blk.new (w.alloc (.cells #[.int .i64 x0, .int .i64 y0, .int .i64 d0, .int .i64 f0, .int .i64 a0, .int .i64 a1, .int .i64 a2, .int .i64 a3, .int .i64 x1, .int .i64 y1, .int .i64 d1, .int .i64 f1, .int .i64 b0, .int .i64 b1, .int .i64 b2, .int .i64 b3, .int .i64 x2, .int .i64 y2, .int .i64 d2, .int .i64 f2, .int .i64 c0, .int .i64 c1, .int .i64 c2, .int .i64 c3] 99)) #[.int .i64 0, .int .i64 0, .int .i64 0, .int .i64 0, .int .i64 0, .int .i64 0, .int .i64 0, .int .i64 0, .int .i64 0, .int .i64 0, .int .i64 0, .int .i64 0, .int .i64 0, .int .i64 0, .int .i64 0, .int .i64 0, .int .i64 0, .int .i64 0, .int .i64 0, .int .i64 0, .int .i64 0, .int .i64 0, .int .i64 0, .int .i64 0] 55
  go_enter Try.func31, Try.ntmps31
  go_upto_region 1 with fail
  simp only [World.size_alloc] at B2
  generalize ((w.alloc (.cells #[.int .i64 x0, .int .i64 y0, .int .i64 d0, .int .i64 f0, .int .i64 a0, .int .i64 a1, .int .i64 a2, .int .i64 a3, .int .i64 x1, .int .i64 y1, .int .i64 d1, .int .i64 f1, .int .i64 b0, .int .i64 b1, .int .i64 b2, .int .i64 b3, .int .i64 x2, .int .i64 y2, .int .i64 d2, .int .i64 f2, .int .i64 c0, .int .i64 c1, .int .i64 c2, .int .i64 c3] 99)).alloc (.cells #[.int .i64 0, .int .i64 0, .int .i64 0, .int .i64 0, .int .i64 0, .int .i64 0, .int .i64 0, .int .i64 0, .int .i64 0, .int .i64 0, .int .i64 0, .int .i64 0, .int .i64 0, .int .i64 0, .int .i64 0, .int .i64 0, .int .i64 0, .int .i64 0, .int .i64 0, .int .i64 0, .int .i64 0, .int .i64 0, .int .i64 0, .int .i64 0] 55)) = w1 at *
  have hmn := run_min4
  have kc := B1.cell
  go_upto_region 2 with fail
  clear kc hmn hM
  go_wp2_with (first
    | ((with_reducible refine wpList_load_blk (op := ⟨some 16, _, _, _, _, _⟩) ?_ 99 (.tmp 1) ?_ (w.heap.size) ?_ (z := _) (T := 99) B1 Try.underlying99 ?_ ?_ ?_); rfl; rfl; rfl; rfl; kernel_rfl)
    | fail)
  have hX := fun u => idxC3 (.int .i64 x0) (.int .i64 y0) (.int .i64 d0) (.int .i64 f0) (.int .i64 a0) (.int .i64 a1) (.int .i64 a2) (.int .i64 a3) (.int .i64 x1) (.int .i64 y1) (.int .i64 d1) (.int .i64 f1) (.int .i64 b0) (.int .i64 b1) (.int .i64 b2) (.int .i64 b3) (.int .i64 x2) (.int .i64 y2) (.int .i64 d2) (.int .i64 f2) (.int .i64 c0) (.int .i64 c1) (.int .i64 c2) (.int .i64 c3) u
  refine wp_loop_rounds 4 ?_
  rw [rounds_succ]
  have hb2 := B2.lt
  have y5 : Ext w1 ((w1.alloc (.cells #[.int .i64 0, .int .i64 0, .int .i64 0, .int .i64 0, .int .i64 0, .int .i64 0, .int .i64 0, .int .i64 0] 59)).setRow w1.heap.size #[.int .i64 x0, .int .i64 y0, .int .i64 d0, .int .i64 f0, .int .i64 a0, .int .i64 a1, .int .i64 a2, .int .i64 a3]) := ((Ext.refl _).alloc _ _).setRow (Nat.le_refl _) _
  have B5 := (Blk.new w1 #[.int .i64 0, .int .i64 0, .int .i64 0, .int .i64 0, .int .i64 0, .int .i64 0, .int .i64 0, .int .i64 0] 59).setRow #[.int .i64 x0, .int .i64 y0, .int .i64 d0, .int .i64 f0, .int .i64 a0, .int .i64 a1, .int .i64 a2, .int .i64 a3]
  go_upto_region 5 with (first
    | ((with_reducible refine wpList_store_blk (op := ⟨none, .store 59 (.tmp 5) (.tmp 20), _, _, _, _⟩) ?_ 59 (.tmp 5) (.tmp 20) ?_ (w1.heap.size) ?_ (cs := #[.int .i64 x0, .int .i64 y0, .int .i64 d0, .int .i64 f0, .int .i64 a0, .int .i64 a1, .int .i64 a2, .int .i64 a3]) ?_ (z := #[.int .i64 0, .int .i64 0, .int .i64 0, .int .i64 0, .int .i64 0, .int .i64 0, .int .i64 0, .int .i64 0]) (T := 59) ?_ ?_ ?_ ?_ ?_); rfl; rfl; rfl; rfl; exact Blk.new w1 _ _; kernel_rfl; kernel_rfl; kernel_rfl)
    | fail)
  try simp only [Act.put]
  have xx := xx.trans y5
  have B2 := B2.ext y5
  clear y5
  generalize (w1.alloc (.cells #[.int .i64 0, .int .i64 0, .int .i64 0, .int .i64 0, .int .i64 0, .int .i64 0, .int .i64 0, .int .i64 0] 59)).setRow w1.heap.size #[.int .i64 x0, .int .i64 y0, .int .i64 d0, .int .i64 f0, .int .i64 a0, .int .i64 a1, .int .i64 a2, .int .i64 a3] = w8_0 at *
  generalize w1.heap.size = kk0 at *
  have k5n : ¬ kk0 = w.heap.size + 1 := by omega
  have k5m : ¬ w.heap.size + 1 = kk0 := by omega
  have kc2 := B2.cell
  have kf2 := B2.frozen
  have kc5 := B5.cell
  have hmx := maxI_fold
  go_upto_region 9 with fail
  have B2 : Blk ((((((((w8_0.setCell ⟨w.heap.size + 1, 0, none⟩ (.int .i64 x0)).setCell ⟨w.heap.size + 1, 1, none⟩ (.int .i64 y0)).setCell ⟨w.heap.size + 1, 6, none⟩ (.int .i64 d0)).setCell ⟨w.heap.size + 1, 9, none⟩ (.int .i64 n0)).setCell ⟨w.heap.size + 1, 12, none⟩ (.int .i64 a0)).setCell ⟨w.heap.size + 1, 13, none⟩ (.int .i64 a1)).setCell ⟨w.heap.size + 1, 14, none⟩ (.int .i64 a2)).setCell ⟨w.heap.size + 1, 15, none⟩ (.int .i64 a3)) (w.heap.size + 1) #[.int .i64 x0, .int .i64 y0, .int .i64 0, .int .i64 0, .int .i64 0, .int .i64 0, .int .i64 d0, .int .i64 0, .int .i64 0, .int .i64 n0, .int .i64 0, .int .i64 0, .int .i64 a0, .int .i64 a1, .int .i64 a2, .int .i64 a3, .int .i64 0, .int .i64 0, .int .i64 0, .int .i64 0, .int .i64 0, .int .i64 0, .int .i64 0, .int .i64 0] 55 := by simpa using ((((((((B2.set 0 (.int .i64 x0)).set 1 (.int .i64 y0)).set 6 (.int .i64 d0)).set 9 (.int .i64 n0)).set 12 (.int .i64 a0)).set 13 (.int .i64 a1)).set 14 (.int .i64 a2)).set 15 (.int .i64 a3))
  have xx := ((((((((xx.setCell (p := ⟨w.heap.size + 1, 0, none⟩) (by simp only; omega) (.int .i64 x0)).setCell (p := ⟨w.heap.size + 1, 1, none⟩) (by simp only; omega) (.int .i64 y0)).setCell (p := ⟨w.heap.size + 1, 6, none⟩) (by simp only; omega) (.int .i64 d0)).setCell (p := ⟨w.heap.size + 1, 9, none⟩) (by simp only; omega) (.int .i64 n0)).setCell (p := ⟨w.heap.size + 1, 12, none⟩) (by simp only; omega) (.int .i64 a0)).setCell (p := ⟨w.heap.size + 1, 13, none⟩) (by simp only; omega) (.int .i64 a1)).setCell (p := ⟨w.heap.size + 1, 14, none⟩) (by simp only; omega) (.int .i64 a2)).setCell (p := ⟨w.heap.size + 1, 15, none⟩) (by simp only; omega) (.int .i64 a3))
  clear kc2 kf2 kc5 hmx B5 k5n k5m hb2 q0 m0
  generalize ((((((((w8_0.setCell ⟨w.heap.size + 1, 0, none⟩ (.int .i64 x0)).setCell ⟨w.heap.size + 1, 1, none⟩ (.int .i64 y0)).setCell ⟨w.heap.size + 1, 6, none⟩ (.int .i64 d0)).setCell ⟨w.heap.size + 1, 9, none⟩ (.int .i64 n0)).setCell ⟨w.heap.size + 1, 12, none⟩ (.int .i64 a0)).setCell ⟨w.heap.size + 1, 13, none⟩ (.int .i64 a1)).setCell ⟨w.heap.size + 1, 14, none⟩ (.int .i64 a2)).setCell ⟨w.heap.size + 1, 15, none⟩ (.int .i64 a3)) = w9_0 at *
  go_wp2_with fail
  rw [rounds_succ]
  have hb2 := B2.lt
  have y5 : Ext w9_0 ((w9_0.alloc (.cells #[.int .i64 0, .int .i64 0, .int .i64 0, .int .i64 0, .int .i64 0, .int .i64 0, .int .i64 0, .int .i64 0] 59)).setRow w9_0.heap.size #[.int .i64 x1, .int .i64 y1, .int .i64 d1, .int .i64 f1, .int .i64 b0, .int .i64 b1, .int .i64 b2, .int .i64 b3]) := ((Ext.refl _).alloc _ _).setRow (Nat.le_refl _) _
  have B5 := (Blk.new w9_0 #[.int .i64 0, .int .i64 0, .int .i64 0, .int .i64 0, .int .i64 0, .int .i64 0, .int .i64 0, .int .i64 0] 59).setRow #[.int .i64 x1, .int .i64 y1, .int .i64 d1, .int .i64 f1, .int .i64 b0, .int .i64 b1, .int .i64 b2, .int .i64 b3]
  go_upto_region 5 with (first
    | ((with_reducible refine wpList_store_blk (op := ⟨none, .store 59 (.tmp 5) (.tmp 20), _, _, _, _⟩) ?_ 59 (.tmp 5) (.tmp 20) ?_ (w9_0.heap.size) ?_ (cs := #[.int .i64 x1, .int .i64 y1, .int .i64 d1, .int .i64 f1, .int .i64 b0, .int .i64 b1, .int .i64 b2, .int .i64 b3]) ?_ (z := #[.int .i64 0, .int .i64 0, .int .i64 0, .int .i64 0, .int .i64 0, .int .i64 0, .int .i64 0, .int .i64 0]) (T := 59) ?_ ?_ ?_ ?_ ?_); rfl; rfl; rfl; rfl; exact Blk.new w9_0 _ _; kernel_rfl; kernel_rfl; kernel_rfl)
    | fail)
  try simp only [Act.put]
  have xx := xx.trans y5
  have B2 := B2.ext y5
  clear y5
  generalize (w9_0.alloc (.cells #[.int .i64 0, .int .i64 0, .int .i64 0, .int .i64 0, .int .i64 0, .int .i64 0, .int .i64 0, .int .i64 0] 59)).setRow w9_0.heap.size #[.int .i64 x1, .int .i64 y1, .int .i64 d1, .int .i64 f1, .int .i64 b0, .int .i64 b1, .int .i64 b2, .int .i64 b3] = w8_1 at *
  generalize w9_0.heap.size = kk1 at *
  have k5n : ¬ kk1 = w.heap.size + 1 := by omega
  have k5m : ¬ w.heap.size + 1 = kk1 := by omega
  have kc2 := B2.cell
  have kf2 := B2.frozen
  have kc5 := B5.cell
  have hmx := maxI_fold
  go_upto_region 9 with fail
  have B2 : Blk ((((((((w8_1.setCell ⟨w.heap.size + 1, 2, none⟩ (.int .i64 x1)).setCell ⟨w.heap.size + 1, 3, none⟩ (.int .i64 y1)).setCell ⟨w.heap.size + 1, 7, none⟩ (.int .i64 d1)).setCell ⟨w.heap.size + 1, 10, none⟩ (.int .i64 n1)).setCell ⟨w.heap.size + 1, 16, none⟩ (.int .i64 b0)).setCell ⟨w.heap.size + 1, 17, none⟩ (.int .i64 b1)).setCell ⟨w.heap.size + 1, 18, none⟩ (.int .i64 b2)).setCell ⟨w.heap.size + 1, 19, none⟩ (.int .i64 b3)) (w.heap.size + 1) #[.int .i64 x0, .int .i64 y0, .int .i64 x1, .int .i64 y1, .int .i64 0, .int .i64 0, .int .i64 d0, .int .i64 d1, .int .i64 0, .int .i64 n0, .int .i64 n1, .int .i64 0, .int .i64 a0, .int .i64 a1, .int .i64 a2, .int .i64 a3, .int .i64 b0, .int .i64 b1, .int .i64 b2, .int .i64 b3, .int .i64 0, .int .i64 0, .int .i64 0, .int .i64 0] 55 := by simpa using ((((((((B2.set 2 (.int .i64 x1)).set 3 (.int .i64 y1)).set 7 (.int .i64 d1)).set 10 (.int .i64 n1)).set 16 (.int .i64 b0)).set 17 (.int .i64 b1)).set 18 (.int .i64 b2)).set 19 (.int .i64 b3))
  have xx := ((((((((xx.setCell (p := ⟨w.heap.size + 1, 2, none⟩) (by simp only; omega) (.int .i64 x1)).setCell (p := ⟨w.heap.size + 1, 3, none⟩) (by simp only; omega) (.int .i64 y1)).setCell (p := ⟨w.heap.size + 1, 7, none⟩) (by simp only; omega) (.int .i64 d1)).setCell (p := ⟨w.heap.size + 1, 10, none⟩) (by simp only; omega) (.int .i64 n1)).setCell (p := ⟨w.heap.size + 1, 16, none⟩) (by simp only; omega) (.int .i64 b0)).setCell (p := ⟨w.heap.size + 1, 17, none⟩) (by simp only; omega) (.int .i64 b1)).setCell (p := ⟨w.heap.size + 1, 18, none⟩) (by simp only; omega) (.int .i64 b2)).setCell (p := ⟨w.heap.size + 1, 19, none⟩) (by simp only; omega) (.int .i64 b3))
  clear kc2 kf2 kc5 hmx B5 k5n k5m hb2 q1 m1
  generalize ((((((((w8_1.setCell ⟨w.heap.size + 1, 2, none⟩ (.int .i64 x1)).setCell ⟨w.heap.size + 1, 3, none⟩ (.int .i64 y1)).setCell ⟨w.heap.size + 1, 7, none⟩ (.int .i64 d1)).setCell ⟨w.heap.size + 1, 10, none⟩ (.int .i64 n1)).setCell ⟨w.heap.size + 1, 16, none⟩ (.int .i64 b0)).setCell ⟨w.heap.size + 1, 17, none⟩ (.int .i64 b1)).setCell ⟨w.heap.size + 1, 18, none⟩ (.int .i64 b2)).setCell ⟨w.heap.size + 1, 19, none⟩ (.int .i64 b3)) = w9_1 at *
  go_wp2_with fail
  rw [rounds_succ]
  have hb2 := B2.lt
  have y5 : Ext w9_1 ((w9_1.alloc (.cells #[.int .i64 0, .int .i64 0, .int .i64 0, .int .i64 0, .int .i64 0, .int .i64 0, .int .i64 0, .int .i64 0] 59)).setRow w9_1.heap.size #[.int .i64 x2, .int .i64 y2, .int .i64 d2, .int .i64 f2, .int .i64 c0, .int .i64 c1, .int .i64 c2, .int .i64 c3]) := ((Ext.refl _).alloc _ _).setRow (Nat.le_refl _) _
  have B5 := (Blk.new w9_1 #[.int .i64 0, .int .i64 0, .int .i64 0, .int .i64 0, .int .i64 0, .int .i64 0, .int .i64 0, .int .i64 0] 59).setRow #[.int .i64 x2, .int .i64 y2, .int .i64 d2, .int .i64 f2, .int .i64 c0, .int .i64 c1, .int .i64 c2, .int .i64 c3]
  go_upto_region 5 with (first
    | ((with_reducible refine wpList_store_blk (op := ⟨none, .store 59 (.tmp 5) (.tmp 20), _, _, _, _⟩) ?_ 59 (.tmp 5) (.tmp 20) ?_ (w9_1.heap.size) ?_ (cs := #[.int .i64 x2, .int .i64 y2, .int .i64 d2, .int .i64 f2, .int .i64 c0, .int .i64 c1, .int .i64 c2, .int .i64 c3]) ?_ (z := #[.int .i64 0, .int .i64 0, .int .i64 0, .int .i64 0, .int .i64 0, .int .i64 0, .int .i64 0, .int .i64 0]) (T := 59) ?_ ?_ ?_ ?_ ?_); rfl; rfl; rfl; rfl; exact Blk.new w9_1 _ _; kernel_rfl; kernel_rfl; kernel_rfl)
    | fail)
  try simp only [Act.put]
  have xx := xx.trans y5
  have B2 := B2.ext y5
  clear y5
  generalize (w9_1.alloc (.cells #[.int .i64 0, .int .i64 0, .int .i64 0, .int .i64 0, .int .i64 0, .int .i64 0, .int .i64 0, .int .i64 0] 59)).setRow w9_1.heap.size #[.int .i64 x2, .int .i64 y2, .int .i64 d2, .int .i64 f2, .int .i64 c0, .int .i64 c1, .int .i64 c2, .int .i64 c3] = w8_2 at *
  generalize w9_1.heap.size = kk2 at *
  have k5n : ¬ kk2 = w.heap.size + 1 := by omega
  have k5m : ¬ w.heap.size + 1 = kk2 := by omega
  have kc2 := B2.cell
  have kf2 := B2.frozen
  have kc5 := B5.cell
  have hmx := maxI_fold
  go_upto_region 9 with fail
  have B2 : Blk ((((((((w8_2.setCell ⟨w.heap.size + 1, 4, none⟩ (.int .i64 x2)).setCell ⟨w.heap.size + 1, 5, none⟩ (.int .i64 y2)).setCell ⟨w.heap.size + 1, 8, none⟩ (.int .i64 d2)).setCell ⟨w.heap.size + 1, 11, none⟩ (.int .i64 n2)).setCell ⟨w.heap.size + 1, 20, none⟩ (.int .i64 c0)).setCell ⟨w.heap.size + 1, 21, none⟩ (.int .i64 c1)).setCell ⟨w.heap.size + 1, 22, none⟩ (.int .i64 c2)).setCell ⟨w.heap.size + 1, 23, none⟩ (.int .i64 c3)) (w.heap.size + 1) #[.int .i64 x0, .int .i64 y0, .int .i64 x1, .int .i64 y1, .int .i64 x2, .int .i64 y2, .int .i64 d0, .int .i64 d1, .int .i64 d2, .int .i64 n0, .int .i64 n1, .int .i64 n2, .int .i64 a0, .int .i64 a1, .int .i64 a2, .int .i64 a3, .int .i64 b0, .int .i64 b1, .int .i64 b2, .int .i64 b3, .int .i64 c0, .int .i64 c1, .int .i64 c2, .int .i64 c3] 55 := by simpa using ((((((((B2.set 4 (.int .i64 x2)).set 5 (.int .i64 y2)).set 8 (.int .i64 d2)).set 11 (.int .i64 n2)).set 20 (.int .i64 c0)).set 21 (.int .i64 c1)).set 22 (.int .i64 c2)).set 23 (.int .i64 c3))
  have xx := ((((((((xx.setCell (p := ⟨w.heap.size + 1, 4, none⟩) (by simp only; omega) (.int .i64 x2)).setCell (p := ⟨w.heap.size + 1, 5, none⟩) (by simp only; omega) (.int .i64 y2)).setCell (p := ⟨w.heap.size + 1, 8, none⟩) (by simp only; omega) (.int .i64 d2)).setCell (p := ⟨w.heap.size + 1, 11, none⟩) (by simp only; omega) (.int .i64 n2)).setCell (p := ⟨w.heap.size + 1, 20, none⟩) (by simp only; omega) (.int .i64 c0)).setCell (p := ⟨w.heap.size + 1, 21, none⟩) (by simp only; omega) (.int .i64 c1)).setCell (p := ⟨w.heap.size + 1, 22, none⟩) (by simp only; omega) (.int .i64 c2)).setCell (p := ⟨w.heap.size + 1, 23, none⟩) (by simp only; omega) (.int .i64 c3))
  clear kc2 kf2 kc5 hmx B5 k5n k5m hb2 q2 m2
  generalize ((((((((w8_2.setCell ⟨w.heap.size + 1, 4, none⟩ (.int .i64 x2)).setCell ⟨w.heap.size + 1, 5, none⟩ (.int .i64 y2)).setCell ⟨w.heap.size + 1, 8, none⟩ (.int .i64 d2)).setCell ⟨w.heap.size + 1, 11, none⟩ (.int .i64 n2)).setCell ⟨w.heap.size + 1, 20, none⟩ (.int .i64 c0)).setCell ⟨w.heap.size + 1, 21, none⟩ (.int .i64 c1)).setCell ⟨w.heap.size + 1, 22, none⟩ (.int .i64 c2)).setCell ⟨w.heap.size + 1, 23, none⟩ (.int .i64 c3)) = w9_2 at *
  go_wp2_with fail
  rw [rounds_succ]
  have Bf := B2.setRow #[.int .i64 x0, .int .i64 y0, .int .i64 x1, .int .i64 y1, .int .i64 x2, .int .i64 y2, .int .i64 d0, .int .i64 d1, .int .i64 d2, .int .i64 n0, .int .i64 n1, .int .i64 n2, .int .i64 a0, .int .i64 a1, .int .i64 a2, .int .i64 a3, .int .i64 b0, .int .i64 b1, .int .i64 b2, .int .i64 b3, .int .i64 c0, .int .i64 c1, .int .i64 c2, .int .i64 c3]
  have Ef := xx.setRow (g := w.heap.size + 1) (by omega) #[.int .i64 x0, .int .i64 y0, .int .i64 x1, .int .i64 y1, .int .i64 x2, .int .i64 y2, .int .i64 d0, .int .i64 d1, .int .i64 d2, .int .i64 n0, .int .i64 n1, .int .i64 n2, .int .i64 a0, .int .i64 a1, .int .i64 a2, .int .i64 a3, .int .i64 b0, .int .i64 b1, .int .i64 b2, .int .i64 b3, .int .i64 c0, .int .i64 c1, .int .i64 c2, .int .i64 c3]
  go_wp2_with (first
    | ((with_reducible refine wpList_load_blk (op := ⟨some 46, _, _, _, _, _⟩) ?_ 55 (.tmp 2) ?_ (w.heap.size + 1) ?_ (z := _) (T := 55) B2 Try.underlying55 ?_ ?_ ?_); rfl; rfl; rfl; rfl; kernel_rfl)
    | ((with_reducible refine wpList_store_blk (op := ⟨none, .store 55 (.tmp 2) (.tmp 46), _, _, _, _⟩) ?_ 55 (.tmp 2) (.tmp 46) ?_ (w.heap.size + 1) ?_ (cs := #[.int .i64 x0, .int .i64 y0, .int .i64 x1, .int .i64 y1, .int .i64 x2, .int .i64 y2, .int .i64 d0, .int .i64 d1, .int .i64 d2, .int .i64 n0, .int .i64 n1, .int .i64 n2, .int .i64 a0, .int .i64 a1, .int .i64 a2, .int .i64 a3, .int .i64 b0, .int .i64 b1, .int .i64 b2, .int .i64 b3, .int .i64 c0, .int .i64 c1, .int .i64 c2, .int .i64 c3]) ?_ (z := #[.int .i64 x0, .int .i64 y0, .int .i64 x1, .int .i64 y1, .int .i64 x2, .int .i64 y2, .int .i64 d0, .int .i64 d1, .int .i64 d2, .int .i64 n0, .int .i64 n1, .int .i64 n2, .int .i64 a0, .int .i64 a1, .int .i64 a2, .int .i64 a3, .int .i64 b0, .int .i64 b1, .int .i64 b2, .int .i64 b3, .int .i64 c0, .int .i64 c1, .int .i64 c2, .int .i64 c3]) (T := 55) ?_ ?_ ?_ ?_ ?_); rfl; rfl; rfl; rfl; exact B2; kernel_rfl; kernel_rfl; kernel_rfl)
    | fail)
  exact bodyPost_ret (v := .agg #[.int .i64 x0, .int .i64 y0, .int .i64 x1, .int .i64 y1, .int .i64 x2, .int .i64 y2, .int .i64 d0, .int .i64 d1, .int .i64 d2, .int .i64 n0, .int .i64 n1, .int .i64 n2, .int .i64 a0, .int .i64 a1, .int .i64 a2, .int .i64 a3, .int .i64 b0, .int .i64 b1, .int .i64 b2, .int .i64 b3, .int .i64 c0, .int .i64 c1, .int .i64 c2, .int .i64 c3]) (results_blk (b := w.heap.size + 1) (t := 2) (ty := 55) rfl rfl Bf Try.underlying55 rfl (by kernel_rfl)) rfl ⟨rfl, Ef⟩
theorem near_t (l f : Int) (hl : 1 ≤ l ∧ l ≤ farB f) : 0 ≤ (1024 * l).tdiv (farB f) ∧ (1024 * l).tdiv (farB f) ≤ 1024 ∧ maxI 1 ((1024 * l).tdiv (farB f)) = nearF l f := by
  have hf : 1 ≤ farB f := by unfold farB; omega
  have e : (1024 * l).tdiv (farB f) = 1024 * l / farB f := Int.tdiv_eq_ediv_of_nonneg (by omega)
  have le : 1024 * l / farB f ≤ 1024 := Int.ediv_le_of_le_mul (by omega) (Int.mul_le_mul_of_nonneg_left hl.2 (by omega))
  have ge : 0 ≤ 1024 * l / farB f := Int.ediv_nonneg (by omega) (by omega)
  rw [e]
  refine ⟨ge, le, ?_⟩
  rw [maxI_eq]
  rfl
theorem join_any (a b c : Cn) (w : World) : Calls Try.prog 31 #[.agg (a.lim.l ++ (b.lim.l ++ c.lim.l)).toArray] w fun e w' => e = .returned (.agg (triF a b c).l.toArray) ∧ Ext w w' := by
  obtain ⟨l0, l1, l2, l3⟩ := least_bd a b c
  have n0 := near_t (leastF a b c) a.f ⟨l0, l1⟩
  have n1 := near_t (leastF a b c) b.f ⟨l0, l2⟩
  have n2 := near_t (leastF a b c) c.f ⟨l0, l3⟩
  have hl : leastF a b c ≤ 4194304 := by unfold leastF; omega
  have hm : minI (minI (minI (farB a.f) (farB b.f)) (farB c.f)) 4194304 = leastF a b c := by
    rw [minI_eq, minI_eq, minI_eq]
    rfl
  have za : ¬ farB a.f = 0 := by unfold farB; omega
  have zb : ¬ farB b.f = 0 := by unfold farB; omega
  have zc : ¬ farB c.f = 0 := by unfold farB; omega
  exact join_main a.lim.x a.lim.y a.lim.d a.lim.f a.lim.c0 a.lim.c1 a.lim.c2 a.lim.c3 b.lim.x b.lim.y b.lim.d b.lim.f b.lim.c0 b.lim.c1 b.lim.c2 b.lim.c3 c.lim.x c.lim.y c.lim.d c.lim.f c.lim.c0 c.lim.c1 c.lim.c2 c.lim.c3 _ _ _ _ _ _ _ hm ⟨l0, hl⟩ za rfl ⟨n0.1, n0.2.1⟩ n0.2.2 zb rfl ⟨n1.1, n1.2.1⟩ n1.2.2 zc rfl ⟨n2.1, n2.2.1⟩ n2.2.2 w
end Go.Proofs.Ytglehnmkdapnpaa

namespace Go.Proofs.Ytglehnmkdapnpaa
open Go.RowKit
set_option linter.unusedVariables false
set_option maxRecDepth 100000 in
set_option maxHeartbeats 4000000 in
theorem make_zero (a0 a1 a2 a3 a4 a5 a6 a7 b0 b1 b2 b3 b4 b5 b6 b7 c0 c1 c2 c3 c4 c5 c6 c7 k ar : Int) (hS : ∀ u : World, Calls Try.prog 30 #[.agg #[.int .i64 a0, .int .i64 a1], .agg #[.int .i64 b0, .int .i64 b1], .agg #[.int .i64 c0, .int .i64 c1]] u fun e w' => e = .returned (.int .i64 ar) ∧ Ext u w') (h1 : ar = 0) (w : World) : Calls Try.prog 14 #[.agg #[.int .i64 a0, .int .i64 a1, .int .i64 a2, .int .i64 a3, .int .i64 a4, .int .i64 a5, .int .i64 a6, .int .i64 a7], .agg #[.int .i64 b0, .int .i64 b1, .int .i64 b2, .int .i64 b3, .int .i64 b4, .int .i64 b5, .int .i64 b6, .int .i64 b7], .agg #[.int .i64 c0, .int .i64 c1, .int .i64 c2, .int .i64 c3, .int .i64 c4, .int .i64 c5, .int .i64 c6, .int .i64 c7], .int .u8 k] w fun e w' => e = .returned (.tuple #[.agg #[.int .i64 0, .int .i64 0, .int .i64 0, .int .i64 0, .int .i64 0, .int .i64 0, .int .i64 0, .int .i64 0, .int .i64 0, .int .i64 0, .int .i64 0, .int .i64 0, .int .i64 0, .int .i64 0, .int .i64 0, .int .i64 0, .int .i64 0, .int .i64 0, .int .i64 0, .int .i64 0, .int .i64 0, .int .i64 0, .int .i64 0, .int .i64 0], .bool false]) ∧ Ext w w' := by
  subst h1
  have HS := Lib.hid hS
  clear hS
  have xx : Ext w ((((w.alloc (.cells #[.int .i64 a0, .int .i64 a1, .int .i64 a2, .int .i64 a3, .int .i64 a4, .int .i64 a5, .int .i64 a6, .int .i64 a7] 59)).alloc (.cells #[.int .i64 b0, .int .i64 b1, .int .i64 b2, .int .i64 b3, .int .i64 b4, .int .i64 b5, .int .i64 b6, .int .i64 b7] 59)).alloc (.cells #[.int .i64 c0, .int .i64 c1, .int .i64 c2, .int .i64 c3, .int .i64 c4, .int .i64 c5, .int .i64 c6, .int .i64 c7] 59)).alloc (.cells #[.int .i64 0, .int .i64 0, .int .i64 0, .int .i64 0, .int .i64 0, .int .i64 0, .int .i64 0, .int .i64 0, .int .i64 0, .int .i64 0, .int .i64 0, .int .i64 0, .int .i64 0, .int .i64 0, .int .i64 0, .int .i64 0, .int .i64 0, .int .i64 0, .int .i64 0, .int .i64 0, .int .i64 0, .int .i64 0, .int .i64 0, .int .i64 0] 55)) := ((((Ext.refl w).alloc _ _).alloc _ _).alloc _ _).alloc _ _
  have B4 := (((Blk.new w #[.int .i64 a0, .int .i64 a1, .int .i64 a2, .int .i64 a3, .int .i64 a4, .int .i64 a5, .int .i64 a6, .int .i64 a7] 59).alloc (.cells #[.int .i64 b0, .int .i64 b1, .int .i64 b2, .int .i64 b3, .int .i64 b4, .int .i64 b5, .int .i64 b6, .int .i64 b7] 59)).alloc (.cells #[.int .i64 c0, .int .i64 c1, .int .i64 c2, .int .i64 c3, .int .i64 c4, .int .i64 c5, .int .i64 c6, .int .i64 c7] 59)).alloc (.cells #[.int .i64 0, .int .i64 0, .int .i64 0, .int .i64 0, .int .i64 0, .int .i64 0, .int .i64 0, .int .i64 0, .int .i64 0, .int .i64 0, .int .i64 0, .int .i64 0, .int .i64 0, .int .i64 0, .int .i64 0, .int .i64 0, .int .i64 0, .int .i64 0, .int .i64 0, .int .i64 0, .int .i64 0, .int .i64 0, .int .i64 0, .int .i64 0] 55)
  have B5 := ((Blk.new (w.alloc (.cells #[.int .i64 a0, .int .i64 a1, .int .i64 a2, .int .i64 a3, .int .i64 a4, .int .i64 a5, .int .i64 a6, .int .i64 a7] 59)) #[.int .i64 b0, .int .i64 b1, .int .i64 b2, .int .i64 b3, .int .i64 b4, .int .i64 b5, .int .i64 b6, .int .i64 b7] 59).alloc (.cells #[.int .i64 c0, .int .i64 c1, .int .i64 c2, .int .i64 c3, .int .i64 c4, .int .i64 c5, .int .i64 c6, .int .i64 c7] 59)).alloc (.cells #[.int .i64 0, .int .i64 0, .int .i64 0, .int .i64 0, .int .i64 0, .int .i64 0, .int .i64 0, .int .i64 0, .int .i64 0, .int .i64 0, .int .i64 0, .int .i64 0, .int .i64 0, .int .i64 0, .int .i64 0, .int .i64 0, .int .i64 0, .int .i64 0, .int .i64 0, .int .i64 0, .int .i64 0, .int .i64 0, .int .i64 0, .int .i64 0] 55)
  have B6 := (Blk.new ((w.alloc (.cells #[.int .i64 a0, .int .i64 a1, .int .i64 a2, .int .i64 a3, .int .i64 a4, .int .i64 a5, .int .i64 a6, .int .i64 a7] 59)).alloc (.cells #[.int .i64 b0, .int .i64 b1, .int .i64 b2, .int .i64 b3, .int .i64 b4, .int .i64 b5, .int .i64 b6, .int .i64 b7] 59)) #[.int .i64 c0, .int .i64 c1, .int .i64 c2, .int .i64 c3, .int .i64 c4, .int .i64 c5, .int .i64 c6, .int .i64 c7] 59).alloc (.cells #[.int .i64 0, .int .i64 0, .int .i64 0, .int .i64 0, .int .i64 0, .int .i64 0, .int .i64 0, .int .i64 0, .int .i64 0, .int .i64 0, .int .i64 0, .int .i64 0, .int .i64 0, .int .i64 0, .int .i64 0, .int .i64 0, .int .i64 0, .int .i64 0, .int .i64 0, .int .i64 0, .int .i64 0, .int .i64 0, .int .i64 0, .int .i64 0] 55)
  have B8 := Blk.new (((w.alloc (.cells #[.int .i64 a0, .int .i64 a1, .int .i64 a2, .int .i64 a3, .int .i64 a4, .int .i64 a5, .int .i64 a6, .int .i64 a7] 59)).alloc (.cells #[.int .i64 b0, .int .i64 b1, .int .i64 b2, .int .i64 b3, .int .i64 b4, .int .i64 b5, .int .i64 b6, .int .i64 b7] 59)).alloc (.cells #[.int .i64 c0, .int .i64 c1, .int .i64 c2, .int .i64 c3, .int .i64 c4, .int .i64 c5, .int .i64 c6, .int .i64 c7] 59)) #[.int .i64 0, .int .i64 0, .int .i64 0, .int .i64 0, .int .i64 0, .int .i64 0, .int .i64 0, .int .i64 0, .int .i64 0, .int .i64 0, .int .i64 0, .int .i64 0, .int .i64 0, .int .i64 0, .int .i64 0, .int .i64 0, .int .i64 0, .int .i64 0, .int .i64 0, .int .i64 0, .int .i64 0, .int .i64 0, .int .i64 0, .int .i64 0] 55
  go_enter Try.func14, Try.ntmps14
  go_upto_region 1 with fail
  simp only [World.size_alloc] at B5 B6 B8
  generalize ((((w.alloc (.cells #[.int .i64 a0, .int .i64 a1, .int .i64 a2, .int .i64 a3, .int .i64 a4, .int .i64 a5, .int .i64 a6, .int .i64 a7] 59)).alloc (.cells #[.int .i64 b0, .int .i64 b1, .int .i64 b2, .int .i64 b3, .int .i64 b4, .int .i64 b5, .int .i64 b6, .int .i64 b7] 59)).alloc (.cells #[.int .i64 c0, .int .i64 c1, .int .i64 c2, .int .i64 c3, .int .i64 c4, .int .i64 c5, .int .i64 c6, .int .i64 c7] 59)).alloc (.cells #[.int .i64 0, .int .i64 0, .int .i64 0, .int .i64 0, .int .i64 0, .int .i64 0, .int .i64 0, .int .i64 0, .int .i64 0, .int .i64 0, .int .i64 0, .int .i64 0, .int .i64 0, .int .i64 0, .int .i64 0, .int .i64 0, .int .i64 0, .int .i64 0, .int .i64 0, .int .i64 0, .int .i64 0, .int .i64 0, .int .i64 0, .int .i64 0] 55)) = w1 at *
  have R4 := Lib.hid (B4.mid13 0 [.int .i64 a0, .int .i64 a1] rfl)
  have R5 := Lib.hid (B5.mid13 0 [.int .i64 b0, .int .i64 b1] rfl)
  have R6 := Lib.hid (B6.mid13 0 [.int .i64 c0, .int .i64 c1] rfl)
  go_wp2_with (first
    | ((with_reducible refine wpList_load_mid (op := ⟨some 12, _, _, _, _, _⟩) ?_ 50 (.tmp 11) ?_ w.heap.size 0 ?_ [.int .i64 a0, .int .i64 a1] _ R4.out Try.underlying50 ?_ ?_ ?_); rfl; rfl; rfl; rfl; kernel_rfl)
    | ((with_reducible refine wpList_load_mid (op := ⟨some 14, _, _, _, _, _⟩) ?_ 50 (.tmp 13) ?_ (w.heap.size + 1) 0 ?_ [.int .i64 b0, .int .i64 b1] _ R5.out Try.underlying50 ?_ ?_ ?_); rfl; rfl; rfl; rfl; kernel_rfl)
    | ((with_reducible refine wpList_load_mid (op := ⟨some 16, _, _, _, _, _⟩) ?_ 50 (.tmp 15) ?_ (w.heap.size + 1 + 1) 0 ?_ [.int .i64 c0, .int .i64 c1] _ R6.out Try.underlying50 ?_ ?_ ?_); rfl; rfl; rfl; rfl; kernel_rfl)
    | fail)
  refine (HS.out _).mono ?_
  rintro e w2 ⟨rfl, x2⟩
  have xx := xx.trans x2
  have B4 := B4.ext x2
  have B5 := B5.ext x2
  have B6 := B6.ext x2
  have B8 := B8.ext x2
  clear x2 R4 R5 R6 HS
  have Bf := B8.setRow #[.int .i64 0, .int .i64 0, .int .i64 0, .int .i64 0, .int .i64 0, .int .i64 0, .int .i64 0, .int .i64 0, .int .i64 0, .int .i64 0, .int .i64 0, .int .i64 0, .int .i64 0, .int .i64 0, .int .i64 0, .int .i64 0, .int .i64 0, .int .i64 0, .int .i64 0, .int .i64 0, .int .i64 0, .int .i64 0, .int .i64 0, .int .i64 0]
  have Ef := xx.setRow (g := w.heap.size + 1 + 1 + 1) (by omega) #[.int .i64 0, .int .i64 0, .int .i64 0, .int .i64 0, .int .i64 0, .int .i64 0, .int .i64 0, .int .i64 0, .int .i64 0, .int .i64 0, .int .i64 0, .int .i64 0, .int .i64 0, .int .i64 0, .int .i64 0, .int .i64 0, .int .i64 0, .int .i64 0, .int .i64 0, .int .i64 0, .int .i64 0, .int .i64 0, .int .i64 0, .int .i64 0]
  go_wp2_with (first
    | ((with_reducible refine wpList_build13 (o := ⟨some 36, _, _, _, _, _⟩) ?_ 55 #[] ?_ #[.int .i64 0, .int .i64 0, .int .i64 0, .int .i64 0, .int .i64 0, .int .i64 0, .int .i64 0, .int .i64 0, .int .i64 0, .int .i64 0, .int .i64 0, .int .i64 0, .int .i64 0, .int .i64 0, .int .i64 0, .int .i64 0, .int .i64 0, .int .i64 0, .int .i64 0, .int .i64 0, .int .i64 0, .int .i64 0, .int .i64 0, .int .i64 0] ?_ ?_); rfl; rfl; kernel_rfl)
    | ((with_reducible refine wpList_store_blk (op := ⟨none, .store 55 (.tmp 8) (.tmp 36), _, _, _, _⟩) ?_ 55 (.tmp 8) (.tmp 36) ?_ (w.heap.size + 1 + 1 + 1) ?_ (cs := #[.int .i64 0, .int .i64 0, .int .i64 0, .int .i64 0, .int .i64 0, .int .i64 0, .int .i64 0, .int .i64 0, .int .i64 0, .int .i64 0, .int .i64 0, .int .i64 0, .int .i64 0, .int .i64 0, .int .i64 0, .int .i64 0, .int .i64 0, .int .i64 0, .int .i64 0, .int .i64 0, .int .i64 0, .int .i64 0, .int .i64 0, .int .i64 0]) ?_ (z := #[.int .i64 0, .int .i64 0, .int .i64 0, .int .i64 0, .int .i64 0, .int .i64 0, .int .i64 0, .int .i64 0, .int .i64 0, .int .i64 0, .int .i64 0, .int .i64 0, .int .i64 0, .int .i64 0, .int .i64 0, .int .i64 0, .int .i64 0, .int .i64 0, .int .i64 0, .int .i64 0, .int .i64 0, .int .i64 0, .int .i64 0, .int .i64 0]) (T := 55) ?_ ?_ ?_ ?_ ?_); rfl; rfl; rfl; rfl; exact B8; kernel_rfl; kernel_rfl; kernel_rfl)
    | fail)
  exact bodyPost_ret (v := .tuple #[.agg #[.int .i64 0, .int .i64 0, .int .i64 0, .int .i64 0, .int .i64 0, .int .i64 0, .int .i64 0, .int .i64 0, .int .i64 0, .int .i64 0, .int .i64 0, .int .i64 0, .int .i64 0, .int .i64 0, .int .i64 0, .int .i64 0, .int .i64 0, .int .i64 0, .int .i64 0, .int .i64 0, .int .i64 0, .int .i64 0, .int .i64 0, .int .i64 0], .bool false]) (results_blk2 (b := w.heap.size + 1 + 1 + 1) (t := 8) (s := 9) (ty := 55) rfl rfl Bf Try.underlying55 rfl (by kernel_rfl) rfl) rfl ⟨rfl, Ef⟩
set_option maxRecDepth 100000 in
set_option maxHeartbeats 4000000 in
theorem make_back (a0 a1 a2 a3 a4 a5 a6 a7 b0 b1 b2 b3 b4 b5 b6 b7 c0 c1 c2 c3 c4 c5 c6 c7 k ar : Int) (hS : ∀ u : World, Calls Try.prog 30 #[.agg #[.int .i64 a0, .int .i64 a1], .agg #[.int .i64 b0, .int .i64 b1], .agg #[.int .i64 c0, .int .i64 c1]] u fun e w' => e = .returned (.int .i64 ar) ∧ Ext u w') (h1 : ar < 0) (h2 : k = 1) (w : World) : Calls Try.prog 14 #[.agg #[.int .i64 a0, .int .i64 a1, .int .i64 a2, .int .i64 a3, .int .i64 a4, .int .i64 a5, .int .i64 a6, .int .i64 a7], .agg #[.int .i64 b0, .int .i64 b1, .int .i64 b2, .int .i64 b3, .int .i64 b4, .int .i64 b5, .int .i64 b6, .int .i64 b7], .agg #[.int .i64 c0, .int .i64 c1, .int .i64 c2, .int .i64 c3, .int .i64 c4, .int .i64 c5, .int .i64 c6, .int .i64 c7], .int .u8 k] w fun e w' => e = .returned (.tuple #[.agg #[.int .i64 0, .int .i64 0, .int .i64 0, .int .i64 0, .int .i64 0, .int .i64 0, .int .i64 0, .int .i64 0, .int .i64 0, .int .i64 0, .int .i64 0, .int .i64 0, .int .i64 0, .int .i64 0, .int .i64 0, .int .i64 0, .int .i64 0, .int .i64 0, .int .i64 0, .int .i64 0, .int .i64 0, .int .i64 0, .int .i64 0, .int .i64 0], .bool false]) ∧ Ext w w' := by
  subst h2
  have h3 : ¬ ar = 0 := by omega
  have HS := Lib.hid hS
  clear hS
  have xx : Ext w ((((w.alloc (.cells #[.int .i64 a0, .int .i64 a1, .int .i64 a2, .int .i64 a3, .int .i64 a4, .int .i64 a5, .int .i64 a6, .int .i64 a7] 59)).alloc (.cells #[.int .i64 b0, .int .i64 b1, .int .i64 b2, .int .i64 b3, .int .i64 b4, .int .i64 b5, .int .i64 b6, .int .i64 b7] 59)).alloc (.cells #[.int .i64 c0, .int .i64 c1, .int .i64 c2, .int .i64 c3, .int .i64 c4, .int .i64 c5, .int .i64 c6, .int .i64 c7] 59)).alloc (.cells #[.int .i64 0, .int .i64 0, .int .i64 0, .int .i64 0, .int .i64 0, .int .i64 0, .int .i64 0, .int .i64 0, .int .i64 0, .int .i64 0, .int .i64 0, .int .i64 0, .int .i64 0, .int .i64 0, .int .i64 0, .int .i64 0, .int .i64 0, .int .i64 0, .int .i64 0, .int .i64 0, .int .i64 0, .int .i64 0, .int .i64 0, .int .i64 0] 55)) := ((((Ext.refl w).alloc _ _).alloc _ _).alloc _ _).alloc _ _
  have B4 := (((Blk.new w #[.int .i64 a0, .int .i64 a1, .int .i64 a2, .int .i64 a3, .int .i64 a4, .int .i64 a5, .int .i64 a6, .int .i64 a7] 59).alloc (.cells #[.int .i64 b0, .int .i64 b1, .int .i64 b2, .int .i64 b3, .int .i64 b4, .int .i64 b5, .int .i64 b6, .int .i64 b7] 59)).alloc (.cells #[.int .i64 c0, .int .i64 c1, .int .i64 c2, .int .i64 c3, .int .i64 c4, .int .i64 c5, .int .i64 c6, .int .i64 c7] 59)).alloc (.cells #[.int .i64 0, .int .i64 0, .int .i64 0, .int .i64 0, .int .i64 0, .int .i64 0, .int .i64 0, .int .i64 0, .int .i64 0, .int .i64 0, .int .i64 0, .int .i64 0, .int .i64 0, .int .i64 0, .int .i64 0, .int .i64 0, .int .i64 0, .int .i64 0, .int .i64 0, .int .i64 0, .int .i64 0, .int .i64 0, .int .i64 0, .int .i64 0] 55)
  have B5 := ((Blk.new (w.alloc (.cells #[.int .i64 a0, .int .i64 a1, .int .i64 a2, .int .i64 a3, .int .i64 a4, .int .i64 a5, .int .i64 a6, .int .i64 a7] 59)) #[.int .i64 b0, .int .i64 b1, .int .i64 b2, .int .i64 b3, .int .i64 b4, .int .i64 b5, .int .i64 b6, .int .i64 b7] 59).alloc (.cells #[.int .i64 c0, .int .i64 c1, .int .i64 c2, .int .i64 c3, .int .i64 c4, .int .i64 c5, .int .i64 c6, .int .i64 c7] 59)).alloc (.cells #[.int .i64 0, .int .i64 0, .int .i64 0, .int .i64 0, .int .i64 0, .int .i64 0, .int .i64 0, .int .i64 0, .int .i64 0, .int .i64 0, .int .i64 0, .int .i64 0, .int .i64 0, .int .i64 0, .int .i64 0, .int .i64 0, .int .i64 0, .int .i64 0, .int .i64 0, .int .i64 0, .int .i64 0, .int .i64 0, .int .i64 0, .int .i64 0] 55)
  have B6 := (Blk.new ((w.alloc (.cells #[.int .i64 a0, .int .i64 a1, .int .i64 a2, .int .i64 a3, .int .i64 a4, .int .i64 a5, .int .i64 a6, .int .i64 a7] 59)).alloc (.cells #[.int .i64 b0, .int .i64 b1, .int .i64 b2, .int .i64 b3, .int .i64 b4, .int .i64 b5, .int .i64 b6, .int .i64 b7] 59)) #[.int .i64 c0, .int .i64 c1, .int .i64 c2, .int .i64 c3, .int .i64 c4, .int .i64 c5, .int .i64 c6, .int .i64 c7] 59).alloc (.cells #[.int .i64 0, .int .i64 0, .int .i64 0, .int .i64 0, .int .i64 0, .int .i64 0, .int .i64 0, .int .i64 0, .int .i64 0, .int .i64 0, .int .i64 0, .int .i64 0, .int .i64 0, .int .i64 0, .int .i64 0, .int .i64 0, .int .i64 0, .int .i64 0, .int .i64 0, .int .i64 0, .int .i64 0, .int .i64 0, .int .i64 0, .int .i64 0] 55)
  have B8 := Blk.new (((w.alloc (.cells #[.int .i64 a0, .int .i64 a1, .int .i64 a2, .int .i64 a3, .int .i64 a4, .int .i64 a5, .int .i64 a6, .int .i64 a7] 59)).alloc (.cells #[.int .i64 b0, .int .i64 b1, .int .i64 b2, .int .i64 b3, .int .i64 b4, .int .i64 b5, .int .i64 b6, .int .i64 b7] 59)).alloc (.cells #[.int .i64 c0, .int .i64 c1, .int .i64 c2, .int .i64 c3, .int .i64 c4, .int .i64 c5, .int .i64 c6, .int .i64 c7] 59)) #[.int .i64 0, .int .i64 0, .int .i64 0, .int .i64 0, .int .i64 0, .int .i64 0, .int .i64 0, .int .i64 0, .int .i64 0, .int .i64 0, .int .i64 0, .int .i64 0, .int .i64 0, .int .i64 0, .int .i64 0, .int .i64 0, .int .i64 0, .int .i64 0, .int .i64 0, .int .i64 0, .int .i64 0, .int .i64 0, .int .i64 0, .int .i64 0] 55
  go_enter Try.func14, Try.ntmps14
  go_upto_region 1 with fail
  simp only [World.size_alloc] at B5 B6 B8
  generalize ((((w.alloc (.cells #[.int .i64 a0, .int .i64 a1, .int .i64 a2, .int .i64 a3, .int .i64 a4, .int .i64 a5, .int .i64 a6, .int .i64 a7] 59)).alloc (.cells #[.int .i64 b0, .int .i64 b1, .int .i64 b2, .int .i64 b3, .int .i64 b4, .int .i64 b5, .int .i64 b6, .int .i64 b7] 59)).alloc (.cells #[.int .i64 c0, .int .i64 c1, .int .i64 c2, .int .i64 c3, .int .i64 c4, .int .i64 c5, .int .i64 c6, .int .i64 c7] 59)).alloc (.cells #[.int .i64 0, .int .i64 0, .int .i64 0, .int .i64 0, .int .i64 0, .int .i64 0, .int .i64 0, .int .i64 0, .int .i64 0, .int .i64 0, .int .i64 0, .int .i64 0, .int .i64 0, .int .i64 0, .int .i64 0, .int .i64 0, .int .i64 0, .int .i64 0, .int .i64 0, .int .i64 0, .int .i64 0, .int .i64 0, .int .i64 0, .int .i64 0] 55)) = w1 at *
  have R4 := Lib.hid (B4.mid13 0 [.int .i64 a0, .int .i64 a1] rfl)
  have R5 := Lib.hid (B5.mid13 0 [.int .i64 b0, .int .i64 b1] rfl)
  have R6 := Lib.hid (B6.mid13 0 [.int .i64 c0, .int .i64 c1] rfl)
  go_wp2_with (first
    | ((with_reducible refine wpList_load_mid (op := ⟨some 12, _, _, _, _, _⟩) ?_ 50 (.tmp 11) ?_ w.heap.size 0 ?_ [.int .i64 a0, .int .i64 a1] _ R4.out Try.underlying50 ?_ ?_ ?_); rfl; rfl; rfl; rfl; kernel_rfl)
    | ((with_reducible refine wpList_load_mid (op := ⟨some 14, _, _, _, _, _⟩) ?_ 50 (.tmp 13) ?_ (w.heap.size + 1) 0 ?_ [.int .i64 b0, .int .i64 b1] _ R5.out Try.underlying50 ?_ ?_ ?_); rfl; rfl; rfl; rfl; kernel_rfl)
    | ((with_reducible refine wpList_load_mid (op := ⟨some 16, _, _, _, _, _⟩) ?_ 50 (.tmp 15) ?_ (w.heap.size + 1 + 1) 0 ?_ [.int .i64 c0, .int .i64 c1] _ R6.out Try.underlying50 ?_ ?_ ?_); rfl; rfl; rfl; rfl; kernel_rfl)
    | fail)
  refine (HS.out _).mono ?_
  rintro e w2 ⟨rfl, x2⟩
  have xx := xx.trans x2
  have B4 := B4.ext x2
  have B5 := B5.ext x2
  have B6 := B6.ext x2
  have B8 := B8.ext x2
  clear x2 R4 R5 R6 HS
  have Bf := B8.setRow #[.int .i64 0, .int .i64 0, .int .i64 0, .int .i64 0, .int .i64 0, .int .i64 0, .int .i64 0, .int .i64 0, .int .i64 0, .int .i64 0, .int .i64 0, .int .i64 0, .int .i64 0, .int .i64 0, .int .i64 0, .int .i64 0, .int .i64 0, .int .i64 0, .int .i64 0, .int .i64 0, .int .i64 0, .int .i64 0, .int .i64 0, .int .i64 0]
  have Ef := xx.setRow (g := w.heap.size + 1 + 1 + 1) (by omega) #[.int .i64 0, .int .i64 0, .int .i64 0, .int .i64 0, .int .i64 0, .int .i64 0, .int .i64 0, .int .i64 0, .int .i64 0, .int .i64 0, .int .i64 0, .int .i64 0, .int .i64 0, .int .i64 0, .int .i64 0, .int .i64 0, .int .i64 0, .int .i64 0, .int .i64 0, .int .i64 0, .int .i64 0, .int .i64 0, .int .i64 0, .int .i64 0]
  go_wp2_with (first
    | ((with_reducible refine wpList_build13 (o := ⟨some 36, _, _, _, _, _⟩) ?_ 55 #[] ?_ #[.int .i64 0, .int .i64 0, .int .i64 0, .int .i64 0, .int .i64 0, .int .i64 0, .int .i64 0, .int .i64 0, .int .i64 0, .int .i64 0, .int .i64 0, .int .i64 0, .int .i64 0, .int .i64 0, .int .i64 0, .int .i64 0, .int .i64 0, .int .i64 0, .int .i64 0, .int .i64 0, .int .i64 0, .int .i64 0, .int .i64 0, .int .i64 0] ?_ ?_); rfl; rfl; kernel_rfl)
    | ((with_reducible refine wpList_store_blk (op := ⟨none, .store 55 (.tmp 8) (.tmp 36), _, _, _, _⟩) ?_ 55 (.tmp 8) (.tmp 36) ?_ (w.heap.size + 1 + 1 + 1) ?_ (cs := #[.int .i64 0, .int .i64 0, .int .i64 0, .int .i64 0, .int .i64 0, .int .i64 0, .int .i64 0, .int .i64 0, .int .i64 0, .int .i64 0, .int .i64 0, .int .i64 0, .int .i64 0, .int .i64 0, .int .i64 0, .int .i64 0, .int .i64 0, .int .i64 0, .int .i64 0, .int .i64 0, .int .i64 0, .int .i64 0, .int .i64 0, .int .i64 0]) ?_ (z := #[.int .i64 0, .int .i64 0, .int .i64 0, .int .i64 0, .int .i64 0, .int .i64 0, .int .i64 0, .int .i64 0, .int .i64 0, .int .i64 0, .int .i64 0, .int .i64 0, .int .i64 0, .int .i64 0, .int .i64 0, .int .i64 0, .int .i64 0, .int .i64 0, .int .i64 0, .int .i64 0, .int .i64 0, .int .i64 0, .int .i64 0, .int .i64 0]) (T := 55) ?_ ?_ ?_ ?_ ?_); rfl; rfl; rfl; rfl; exact B8; kernel_rfl; kernel_rfl; kernel_rfl)
    | fail)
  exact bodyPost_ret (v := .tuple #[.agg #[.int .i64 0, .int .i64 0, .int .i64 0, .int .i64 0, .int .i64 0, .int .i64 0, .int .i64 0, .int .i64 0, .int .i64 0, .int .i64 0, .int .i64 0, .int .i64 0, .int .i64 0, .int .i64 0, .int .i64 0, .int .i64 0, .int .i64 0, .int .i64 0, .int .i64 0, .int .i64 0, .int .i64 0, .int .i64 0, .int .i64 0, .int .i64 0], .bool false]) (results_blk2 (b := w.heap.size + 1 + 1 + 1) (t := 8) (s := 9) (ty := 55) rfl rfl Bf Try.underlying55 rfl (by kernel_rfl) rfl) rfl ⟨rfl, Ef⟩
set_option maxRecDepth 100000 in
set_option maxHeartbeats 4000000 in
theorem make_front (a0 a1 a2 a3 a4 a5 a6 a7 b0 b1 b2 b3 b4 b5 b6 b7 c0 c1 c2 c3 c4 c5 c6 c7 k ar : Int) (hS : ∀ u : World, Calls Try.prog 30 #[.agg #[.int .i64 a0, .int .i64 a1], .agg #[.int .i64 b0, .int .i64 b1], .agg #[.int .i64 c0, .int .i64 c1]] u fun e w' => e = .returned (.int .i64 ar) ∧ Ext u w') (h1 : 0 < ar) (h2 : k = 2) (w : World) : Calls Try.prog 14 #[.agg #[.int .i64 a0, .int .i64 a1, .int .i64 a2, .int .i64 a3, .int .i64 a4, .int .i64 a5, .int .i64 a6, .int .i64 a7], .agg #[.int .i64 b0, .int .i64 b1, .int .i64 b2, .int .i64 b3, .int .i64 b4, .int .i64 b5, .int .i64 b6, .int .i64 b7], .agg #[.int .i64 c0, .int .i64 c1, .int .i64 c2, .int .i64 c3, .int .i64 c4, .int .i64 c5, .int .i64 c6, .int .i64 c7], .int .u8 k] w fun e w' => e = .returned (.tuple #[.agg #[.int .i64 0, .int .i64 0, .int .i64 0, .int .i64 0, .int .i64 0, .int .i64 0, .int .i64 0, .int .i64 0, .int .i64 0, .int .i64 0, .int .i64 0, .int .i64 0, .int .i64 0, .int .i64 0, .int .i64 0, .int .i64 0, .int .i64 0, .int .i64 0, .int .i64 0, .int .i64 0, .int .i64 0, .int .i64 0, .int .i64 0, .int .i64 0], .bool false]) ∧ Ext w w' := by
  subst h2
  have h3 : ¬ ar = 0 := by omega
  have h4 : ¬ ar < 0 := by omega
  have HS := Lib.hid hS
  clear hS
  have xx : Ext w ((((w.alloc (.cells #[.int .i64 a0, .int .i64 a1, .int .i64 a2, .int .i64 a3, .int .i64 a4, .int .i64 a5, .int .i64 a6, .int .i64 a7] 59)).alloc (.cells #[.int .i64 b0, .int .i64 b1, .int .i64 b2, .int .i64 b3, .int .i64 b4, .int .i64 b5, .int .i64 b6, .int .i64 b7] 59)).alloc (.cells #[.int .i64 c0, .int .i64 c1, .int .i64 c2, .int .i64 c3, .int .i64 c4, .int .i64 c5, .int .i64 c6, .int .i64 c7] 59)).alloc (.cells #[.int .i64 0, .int .i64 0, .int .i64 0, .int .i64 0, .int .i64 0, .int .i64 0, .int .i64 0, .int .i64 0, .int .i64 0, .int .i64 0, .int .i64 0, .int .i64 0, .int .i64 0, .int .i64 0, .int .i64 0, .int .i64 0, .int .i64 0, .int .i64 0, .int .i64 0, .int .i64 0, .int .i64 0, .int .i64 0, .int .i64 0, .int .i64 0] 55)) := ((((Ext.refl w).alloc _ _).alloc _ _).alloc _ _).alloc _ _
  have B4 := (((Blk.new w #[.int .i64 a0, .int .i64 a1, .int .i64 a2, .int .i64 a3, .int .i64 a4, .int .i64 a5, .int .i64 a6, .int .i64 a7] 59).alloc (.cells #[.int .i64 b0, .int .i64 b1, .int .i64 b2, .int .i64 b3, .int .i64 b4, .int .i64 b5, .int .i64 b6, .int .i64 b7] 59)).alloc (.cells #[.int .i64 c0, .int .i64 c1, .int .i64 c2, .int .i64 c3, .int .i64 c4, .int .i64 c5, .int .i64 c6, .int .i64 c7] 59)).alloc (.cells #[.int .i64 0, .int .i64 0, .int .i64 0, .int .i64 0, .int .i64 0, .int .i64 0, .int .i64 0, .int .i64 0, .int .i64 0, .int .i64 0, .int .i64 0, .int .i64 0, .int .i64 0, .int .i64 0, .int .i64 0, .int .i64 0, .int .i64 0, .int .i64 0, .int .i64 0, .int .i64 0, .int .i64 0, .int .i64 0, .int .i64 0, .int .i64 0] 55)
  have B5 := ((Blk.new (w.alloc (.cells #[.int .i64 a0, .int .i64 a1, .int .i64 a2, .int .i64 a3, .int .i64 a4, .int .i64 a5, .int .i64 a6, .int .i64 a7] 59)) #[.int .i64 b0, .int .i64 b1, .int .i64 b2, .int .i64 b3, .int .i64 b4, .int .i64 b5, .int .i64 b6, .int .i64 b7] 59).alloc (.cells #[.int .i64 c0, .int .i64 c1, .int .i64 c2, .int .i64 c3, .int .i64 c4, .int .i64 c5, .int .i64 c6, .int .i64 c7] 59)).alloc (.cells #[.int .i64 0, .int .i64 0, .int .i64 0, .int .i64 0, .int .i64 0, .int .i64 0, .int .i64 0, .int .i64 0, .int .i64 0, .int .i64 0, .int .i64 0, .int .i64 0, .int .i64 0, .int .i64 0, .int .i64 0, .int .i64 0, .int .i64 0, .int .i64 0, .int .i64 0, .int .i64 0, .int .i64 0, .int .i64 0, .int .i64 0, .int .i64 0] 55)
  have B6 := (Blk.new ((w.alloc (.cells #[.int .i64 a0, .int .i64 a1, .int .i64 a2, .int .i64 a3, .int .i64 a4, .int .i64 a5, .int .i64 a6, .int .i64 a7] 59)).alloc (.cells #[.int .i64 b0, .int .i64 b1, .int .i64 b2, .int .i64 b3, .int .i64 b4, .int .i64 b5, .int .i64 b6, .int .i64 b7] 59)) #[.int .i64 c0, .int .i64 c1, .int .i64 c2, .int .i64 c3, .int .i64 c4, .int .i64 c5, .int .i64 c6, .int .i64 c7] 59).alloc (.cells #[.int .i64 0, .int .i64 0, .int .i64 0, .int .i64 0, .int .i64 0, .int .i64 0, .int .i64 0, .int .i64 0, .int .i64 0, .int .i64 0, .int .i64 0, .int .i64 0, .int .i64 0, .int .i64 0, .int .i64 0, .int .i64 0, .int .i64 0, .int .i64 0, .int .i64 0, .int .i64 0, .int .i64 0, .int .i64 0, .int .i64 0, .int .i64 0] 55)
  have B8 := Blk.new (((w.alloc (.cells #[.int .i64 a0, .int .i64 a1, .int .i64 a2, .int .i64 a3, .int .i64 a4, .int .i64 a5, .int .i64 a6, .int .i64 a7] 59)).alloc (.cells #[.int .i64 b0, .int .i64 b1, .int .i64 b2, .int .i64 b3, .int .i64 b4, .int .i64 b5, .int .i64 b6, .int .i64 b7] 59)).alloc (.cells #[.int .i64 c0, .int .i64 c1, .int .i64 c2, .int .i64 c3, .int .i64 c4, .int .i64 c5, .int .i64 c6, .int .i64 c7] 59)) #[.int .i64 0, .int .i64 0, .int .i64 0, .int .i64 0, .int .i64 0, .int .i64 0, .int .i64 0, .int .i64 0, .int .i64 0, .int .i64 0, .int .i64 0, .int .i64 0, .int .i64 0, .int .i64 0, .int .i64 0, .int .i64 0, .int .i64 0, .int .i64 0, .int .i64 0, .int .i64 0, .int .i64 0, .int .i64 0, .int .i64 0, .int .i64 0] 55
  go_enter Try.func14, Try.ntmps14
  go_upto_region 1 with fail
  simp only [World.size_alloc] at B5 B6 B8
  generalize ((((w.alloc (.cells #[.int .i64 a0, .int .i64 a1, .int .i64 a2, .int .i64 a3, .int .i64 a4, .int .i64 a5, .int .i64 a6, .int .i64 a7] 59)).alloc (.cells #[.int .i64 b0, .int .i64 b1, .int .i64 b2, .int .i64 b3, .int .i64 b4, .int .i64 b5, .int .i64 b6, .int .i64 b7] 59)).alloc (.cells #[.int .i64 c0, .int .i64 c1, .int .i64 c2, .int .i64 c3, .int .i64 c4, .int .i64 c5, .int .i64 c6, .int .i64 c7] 59)).alloc (.cells #[.int .i64 0, .int .i64 0, .int .i64 0, .int .i64 0, .int .i64 0, .int .i64 0, .int .i64 0, .int .i64 0, .int .i64 0, .int .i64 0, .int .i64 0, .int .i64 0, .int .i64 0, .int .i64 0, .int .i64 0, .int .i64 0, .int .i64 0, .int .i64 0, .int .i64 0, .int .i64 0, .int .i64 0, .int .i64 0, .int .i64 0, .int .i64 0] 55)) = w1 at *
  have R4 := Lib.hid (B4.mid13 0 [.int .i64 a0, .int .i64 a1] rfl)
  have R5 := Lib.hid (B5.mid13 0 [.int .i64 b0, .int .i64 b1] rfl)
  have R6 := Lib.hid (B6.mid13 0 [.int .i64 c0, .int .i64 c1] rfl)
  go_wp2_with (first
    | ((with_reducible refine wpList_load_mid (op := ⟨some 12, _, _, _, _, _⟩) ?_ 50 (.tmp 11) ?_ w.heap.size 0 ?_ [.int .i64 a0, .int .i64 a1] _ R4.out Try.underlying50 ?_ ?_ ?_); rfl; rfl; rfl; rfl; kernel_rfl)
    | ((with_reducible refine wpList_load_mid (op := ⟨some 14, _, _, _, _, _⟩) ?_ 50 (.tmp 13) ?_ (w.heap.size + 1) 0 ?_ [.int .i64 b0, .int .i64 b1] _ R5.out Try.underlying50 ?_ ?_ ?_); rfl; rfl; rfl; rfl; kernel_rfl)
    | ((with_reducible refine wpList_load_mid (op := ⟨some 16, _, _, _, _, _⟩) ?_ 50 (.tmp 15) ?_ (w.heap.size + 1 + 1) 0 ?_ [.int .i64 c0, .int .i64 c1] _ R6.out Try.underlying50 ?_ ?_ ?_); rfl; rfl; rfl; rfl; kernel_rfl)
    | fail)
  refine (HS.out _).mono ?_
  rintro e w2 ⟨rfl, x2⟩
  have xx := xx.trans x2
  have B4 := B4.ext x2
  have B5 := B5.ext x2
  have B6 := B6.ext x2
  have B8 := B8.ext x2
  clear x2 R4 R5 R6 HS
  have Bf := B8.setRow #[.int .i64 0, .int .i64 0, .int .i64 0, .int .i64 0, .int .i64 0, .int .i64 0, .int .i64 0, .int .i64 0, .int .i64 0, .int .i64 0, .int .i64 0, .int .i64 0, .int .i64 0, .int .i64 0, .int .i64 0, .int .i64 0, .int .i64 0, .int .i64 0, .int .i64 0, .int .i64 0, .int .i64 0, .int .i64 0, .int .i64 0, .int .i64 0]
  have Ef := xx.setRow (g := w.heap.size + 1 + 1 + 1) (by omega) #[.int .i64 0, .int .i64 0, .int .i64 0, .int .i64 0, .int .i64 0, .int .i64 0, .int .i64 0, .int .i64 0, .int .i64 0, .int .i64 0, .int .i64 0, .int .i64 0, .int .i64 0, .int .i64 0, .int .i64 0, .int .i64 0, .int .i64 0, .int .i64 0, .int .i64 0, .int .i64 0, .int .i64 0, .int .i64 0, .int .i64 0, .int .i64 0]
  go_wp2_with (first
    | ((with_reducible refine wpList_build13 (o := ⟨some 36, _, _, _, _, _⟩) ?_ 55 #[] ?_ #[.int .i64 0, .int .i64 0, .int .i64 0, .int .i64 0, .int .i64 0, .int .i64 0, .int .i64 0, .int .i64 0, .int .i64 0, .int .i64 0, .int .i64 0, .int .i64 0, .int .i64 0, .int .i64 0, .int .i64 0, .int .i64 0, .int .i64 0, .int .i64 0, .int .i64 0, .int .i64 0, .int .i64 0, .int .i64 0, .int .i64 0, .int .i64 0] ?_ ?_); rfl; rfl; kernel_rfl)
    | ((with_reducible refine wpList_store_blk (op := ⟨none, .store 55 (.tmp 8) (.tmp 36), _, _, _, _⟩) ?_ 55 (.tmp 8) (.tmp 36) ?_ (w.heap.size + 1 + 1 + 1) ?_ (cs := #[.int .i64 0, .int .i64 0, .int .i64 0, .int .i64 0, .int .i64 0, .int .i64 0, .int .i64 0, .int .i64 0, .int .i64 0, .int .i64 0, .int .i64 0, .int .i64 0, .int .i64 0, .int .i64 0, .int .i64 0, .int .i64 0, .int .i64 0, .int .i64 0, .int .i64 0, .int .i64 0, .int .i64 0, .int .i64 0, .int .i64 0, .int .i64 0]) ?_ (z := #[.int .i64 0, .int .i64 0, .int .i64 0, .int .i64 0, .int .i64 0, .int .i64 0, .int .i64 0, .int .i64 0, .int .i64 0, .int .i64 0, .int .i64 0, .int .i64 0, .int .i64 0, .int .i64 0, .int .i64 0, .int .i64 0, .int .i64 0, .int .i64 0, .int .i64 0, .int .i64 0, .int .i64 0, .int .i64 0, .int .i64 0, .int .i64 0]) (T := 55) ?_ ?_ ?_ ?_ ?_); rfl; rfl; rfl; rfl; exact B8; kernel_rfl; kernel_rfl; kernel_rfl)
    | fail)
  exact bodyPost_ret (v := .tuple #[.agg #[.int .i64 0, .int .i64 0, .int .i64 0, .int .i64 0, .int .i64 0, .int .i64 0, .int .i64 0, .int .i64 0, .int .i64 0, .int .i64 0, .int .i64 0, .int .i64 0, .int .i64 0, .int .i64 0, .int .i64 0, .int .i64 0, .int .i64 0, .int .i64 0, .int .i64 0, .int .i64 0, .int .i64 0, .int .i64 0, .int .i64 0, .int .i64 0], .bool false]) (results_blk2 (b := w.heap.size + 1 + 1 + 1) (t := 8) (s := 9) (ty := 55) rfl rfl Bf Try.underlying55 rfl (by kernel_rfl) rfl) rfl ⟨rfl, Ef⟩
set_option maxRecDepth 100000 in
set_option maxHeartbeats 4000000 in
theorem make_pos (a0 a1 a2 a3 a4 a5 a6 a7 b0 b1 b2 b3 b4 b5 b6 b7 c0 c1 c2 c3 c4 c5 c6 c7 k ar la0 la1 la2 la3 la4 la5 la6 la7 lb0 lb1 lb2 lb3 lb4 lb5 lb6 lb7 lc0 lc1 lc2 lc3 lc4 lc5 lc6 lc7 m0 m1 m2 m3 m4 m5 m6 m7 m8 m9 m10 m11 m12 m13 m14 m15 m16 m17 m18 m19 m20 m21 m22 m23 : Int) (hS : ∀ u : World, Calls Try.prog 30 #[.agg #[.int .i64 a0, .int .i64 a1], .agg #[.int .i64 b0, .int .i64 b1], .agg #[.int .i64 c0, .int .i64 c1]] u fun e w' => e = .returned (.int .i64 ar) ∧ Ext u w') (h1 : 0 < ar) (h2 : k ≠ 2) (hA : ∀ u : World, Calls Try.prog 32 #[.agg #[.int .i64 a0, .int .i64 a1, .int .i64 a2, .int .i64 a3, .int .i64 a4, .int .i64 a5, .int .i64 a6, .int .i64 a7]] u fun e w' => e = .returned (.agg #[.int .i64 la0, .int .i64 la1, .int .i64 la2, .int .i64 la3, .int .i64 la4, .int .i64 la5, .int .i64 la6, .int .i64 la7]) ∧ Ext u w') (hB : ∀ u : World, Calls Try.prog 32 #[.agg #[.int .i64 b0, .int .i64 b1, .int .i64 b2, .int .i64 b3, .int .i64 b4, .int .i64 b5, .int .i64 b6, .int .i64 b7]] u fun e w' => e = .returned (.agg #[.int .i64 lb0, .int .i64 lb1, .int .i64 lb2, .int .i64 lb3, .int .i64 lb4, .int .i64 lb5, .int .i64 lb6, .int .i64 lb7]) ∧ Ext u w') (hC : ∀ u : World, Calls Try.prog 32 #[.agg #[.int .i64 c0, .int .i64 c1, .int .i64 c2, .int .i64 c3, .int .i64 c4, .int .i64 c5, .int .i64 c6, .int .i64 c7]] u fun e w' => e = .returned (.agg #[.int .i64 lc0, .int .i64 lc1, .int .i64 lc2, .int .i64 lc3, .int .i64 lc4, .int .i64 lc5, .int .i64 lc6, .int .i64 lc7]) ∧ Ext u w')
    (hJ : ∀ u : World, Calls Try.prog 31 #[.agg #[.int .i64 la0, .int .i64 la1, .int .i64 la2, .int .i64 la3, .int .i64 la4, .int .i64 la5, .int .i64 la6, .int .i64 la7, .int .i64 lb0, .int .i64 lb1, .int .i64 lb2, .int .i64 lb3, .int .i64 lb4, .int .i64 lb5, .int .i64 lb6, .int .i64 lb7, .int .i64 lc0, .int .i64 lc1, .int .i64 lc2, .int .i64 lc3, .int .i64 lc4, .int .i64 lc5, .int .i64 lc6, .int .i64 lc7]] u fun e w' => e = .returned (.agg #[.int .i64 m0, .int .i64 m1, .int .i64 m2, .int .i64 m3, .int .i64 m4, .int .i64 m5, .int .i64 m6, .int .i64 m7, .int .i64 m8, .int .i64 m9, .int .i64 m10, .int .i64 m11, .int .i64 m12, .int .i64 m13, .int .i64 m14, .int .i64 m15, .int .i64 m16, .int .i64 m17, .int .i64 m18, .int .i64 m19, .int .i64 m20, .int .i64 m21, .int .i64 m22, .int .i64 m23]) ∧ Ext u w') (w : World) : Calls Try.prog 14 #[.agg #[.int .i64 a0, .int .i64 a1, .int .i64 a2, .int .i64 a3, .int .i64 a4, .int .i64 a5, .int .i64 a6, .int .i64 a7], .agg #[.int .i64 b0, .int .i64 b1, .int .i64 b2, .int .i64 b3, .int .i64 b4, .int .i64 b5, .int .i64 b6, .int .i64 b7], .agg #[.int .i64 c0, .int .i64 c1, .int .i64 c2, .int .i64 c3, .int .i64 c4, .int .i64 c5, .int .i64 c6, .int .i64 c7], .int .u8 k] w fun e w' => e = .returned (.tuple #[.agg #[.int .i64 m0, .int .i64 m1, .int .i64 m2, .int .i64 m3, .int .i64 m4, .int .i64 m5, .int .i64 m6, .int .i64 m7, .int .i64 m8, .int .i64 m9, .int .i64 m10, .int .i64 m11, .int .i64 m12, .int .i64 m13, .int .i64 m14, .int .i64 m15, .int .i64 m16, .int .i64 m17, .int .i64 m18, .int .i64 m19, .int .i64 m20, .int .i64 m21, .int .i64 m22, .int .i64 m23], .bool true]) ∧ Ext w w' := by
  have h3 : ¬ ar = 0 := by omega
  have h4 : ¬ ar < 0 := by omega
  have e2 : (k == 2) = false := by simpa using h2
  have e1 : (ar == 0) = false := by simpa using h3
  have HS := Lib.hid hS
  have HA := Lib.hid hA
  have HB := Lib.hid hB
  have HC := Lib.hid hC
  have HJ := Lib.hid hJ
  clear hS hA hB hC hJ
  have xx : Ext w ((((w.alloc (.cells #[.int .i64 a0, .int .i64 a1, .int .i64 a2, .int .i64 a3, .int .i64 a4, .int .i64 a5, .int .i64 a6, .int .i64 a7] 59)).alloc (.cells #[.int .i64 b0, .int .i64 b1, .int .i64 b2, .int .i64 b3, .int .i64 b4, .int .i64 b5, .int .i64 b6, .int .i64 b7] 59)).alloc (.cells #[.int .i64 c0, .int .i64 c1, .int .i64 c2, .int .i64 c3, .int .i64 c4, .int .i64 c5, .int .i64 c6, .int .i64 c7] 59)).alloc (.cells #[.int .i64 0, .int .i64 0, .int .i64 0, .int .i64 0, .int .i64 0, .int .i64 0, .int .i64 0, .int .i64 0, .int .i64 0, .int .i64 0, .int .i64 0, .int .i64 0, .int .i64 0, .int .i64 0, .int .i64 0, .int .i64 0, .int .i64 0, .int .i64 0, .int .i64 0, .int .i64 0, .int .i64 0, .int .i64 0, .int .i64 0, .int .i64 0] 55)) := ((((Ext.refl w).alloc _ _).alloc _ _).alloc _ _).alloc _ _
  have B4 := (((Blk.new w #[.int .i64 a0, .int .i64 a1, .int .i64 a2, .int .i64 a3, .int .i64 a4, .int .i64 a5, .int .i64 a6, .int .i64 a7] 59).alloc (.cells #[.int .i64 b0, .int .i64 b1, .int .i64 b2, .int .i64 b3, .int .i64 b4, .int .i64 b5, .int .i64 b6, .int .i64 b7] 59)).alloc (.cells #[.int .i64 c0, .int .i64 c1, .int .i64 c2, .int .i64 c3, .int .i64 c4, .int .i64 c5, .int .i64 c6, .int .i64 c7] 59)).alloc (.cells #[.int .i64 0, .int .i64 0, .int .i64 0, .int .i64 0, .int .i64 0, .int .i64 0, .int .i64 0, .int .i64 0, .int .i64 0, .int .i64 0, .int .i64 0, .int .i64 0, .int .i64 0, .int .i64 0, .int .i64 0, .int .i64 0, .int .i64 0, .int .i64 0, .int .i64 0, .int .i64 0, .int .i64 0, .int .i64 0, .int .i64 0, .int .i64 0] 55)
  have B5 := ((Blk.new (w.alloc (.cells #[.int .i64 a0, .int .i64 a1, .int .i64 a2, .int .i64 a3, .int .i64 a4, .int .i64 a5, .int .i64 a6, .int .i64 a7] 59)) #[.int .i64 b0, .int .i64 b1, .int .i64 b2, .int .i64 b3, .int .i64 b4, .int .i64 b5, .int .i64 b6, .int .i64 b7] 59).alloc (.cells #[.int .i64 c0, .int .i64 c1, .int .i64 c2, .int .i64 c3, .int .i64 c4, .int .i64 c5, .int .i64 c6, .int .i64 c7] 59)).alloc (.cells #[.int .i64 0, .int .i64 0, .int .i64 0, .int .i64 0, .int .i64 0, .int .i64 0, .int .i64 0, .int .i64 0, .int .i64 0, .int .i64 0, .int .i64 0, .int .i64 0, .int .i64 0, .int .i64 0, .int .i64 0, .int .i64 0, .int .i64 0, .int .i64 0, .int .i64 0, .int .i64 0, .int .i64 0, .int .i64 0, .int .i64 0, .int .i64 0] 55)
  have B6 := (Blk.new ((w.alloc (.cells #[.int .i64 a0, .int .i64 a1, .int .i64 a2, .int .i64 a3, .int .i64 a4, .int .i64 a5, .int .i64 a6, .int .i64 a7] 59)).alloc (.cells #[.int .i64 b0, .int .i64 b1, .int .i64 b2, .int .i64 b3, .int .i64 b4, .int .i64 b5, .int .i64 b6, .int .i64 b7] 59)) #[.int .i64 c0, .int .i64 c1, .int .i64 c2, .int .i64 c3, .int .i64 c4, .int .i64 c5, .int .i64 c6, .int .i64 c7] 59).alloc (.cells #[.int .i64 0, .int .i64 0, .int .i64 0, .int .i64 0, .int .i64 0, .int .i64 0, .int .i64 0, .int .i64 0, .int .i64 0, .int .i64 0, .int .i64 0, .int .i64 0, .int .i64 0, .int .i64 0, .int .i64 0, .int .i64 0, .int .i64 0, .int .i64 0, .int .i64 0, .int .i64 0, .int .i64 0, .int .i64 0, .int .i64 0, .int .i64 0] 55)
  have B8 := Blk.new (((w.alloc (.cells #[.int .i64 a0, .int .i64 a1, .int .i64 a2, .int .i64 a3, .int .i64 a4, .int .i64 a5, .int .i64 a6, .int .i64 a7] 59)).alloc (.cells #[.int .i64 b0, .int .i64 b1, .int .i64 b2, .int .i64 b3, .int .i64 b4, .int .i64 b5, .int .i64 b6, .int .i64 b7] 59)).alloc (.cells #[.int .i64 c0, .int .i64 c1, .int .i64 c2, .int .i64 c3, .int .i64 c4, .int .i64 c5, .int .i64 c6, .int .i64 c7] 59)) #[.int .i64 0, .int .i64 0, .int .i64 0, .int .i64 0, .int .i64 0, .int .i64 0, .int .i64 0, .int .i64 0, .int .i64 0, .int .i64 0, .int .i64 0, .int .i64 0, .int .i64 0, .int .i64 0, .int .i64 0, .int .i64 0, .int .i64 0, .int .i64 0, .int .i64 0, .int .i64 0, .int .i64 0, .int .i64 0, .int .i64 0, .int .i64 0] 55
  go_enter Try.func14, Try.ntmps14
  go_upto_region 1 with fail
  simp only [World.size_alloc] at B5 B6 B8
  generalize ((((w.alloc (.cells #[.int .i64 a0, .int .i64 a1, .int .i64 a2, .int .i64 a3, .int .i64 a4, .int .i64 a5, .int .i64 a6, .int .i64 a7] 59)).alloc (.cells #[.int .i64 b0, .int .i64 b1, .int .i64 b2, .int .i64 b3, .int .i64 b4, .int .i64 b5, .int .i64 b6, .int .i64 b7] 59)).alloc (.cells #[.int .i64 c0, .int .i64 c1, .int .i64 c2, .int .i64 c3, .int .i64 c4, .int .i64 c5, .int .i64 c6, .int .i64 c7] 59)).alloc (.cells #[.int .i64 0, .int .i64 0, .int .i64 0, .int .i64 0, .int .i64 0, .int .i64 0, .int .i64 0, .int .i64 0, .int .i64 0, .int .i64 0, .int .i64 0, .int .i64 0, .int .i64 0, .int .i64 0, .int .i64 0, .int .i64 0, .int .i64 0, .int .i64 0, .int .i64 0, .int .i64 0, .int .i64 0, .int .i64 0, .int .i64 0, .int .i64 0] 55)) = w1 at *
  have R4 := Lib.hid (B4.mid13 0 [.int .i64 a0, .int .i64 a1] rfl)
  have R5 := Lib.hid (B5.mid13 0 [.int .i64 b0, .int .i64 b1] rfl)
  have R6 := Lib.hid (B6.mid13 0 [.int .i64 c0, .int .i64 c1] rfl)
  go_wp2_with (first
    | ((with_reducible refine wpList_load_mid (op := ⟨some 12, _, _, _, _, _⟩) ?_ 50 (.tmp 11) ?_ w.heap.size 0 ?_ [.int .i64 a0, .int .i64 a1] _ R4.out Try.underlying50 ?_ ?_ ?_); rfl; rfl; rfl; rfl; kernel_rfl)
    | ((with_reducible refine wpList_load_mid (op := ⟨some 14, _, _, _, _, _⟩) ?_ 50 (.tmp 13) ?_ (w.heap.size + 1) 0 ?_ [.int .i64 b0, .int .i64 b1] _ R5.out Try.underlying50 ?_ ?_ ?_); rfl; rfl; rfl; rfl; kernel_rfl)
    | ((with_reducible refine wpList_load_mid (op := ⟨some 16, _, _, _, _, _⟩) ?_ 50 (.tmp 15) ?_ (w.heap.size + 1 + 1) 0 ?_ [.int .i64 c0, .int .i64 c1] _ R6.out Try.underlying50 ?_ ?_ ?_); rfl; rfl; rfl; rfl; kernel_rfl)
    | fail)
  refine (HS.out _).mono ?_
  rintro e w2 ⟨rfl, x2⟩
  have xx := xx.trans x2
  have B4 := B4.ext x2
  have B5 := B5.ext x2
  have B6 := B6.ext x2
  have B8 := B8.ext x2
  clear x2 R4 R5 R6 HS
  go_upto_region 6 with fail
  apply wp_region_vars [false, false, false, false, false, false, false, false, true, false] [w.heap.size + 1 + 1 + 1] [⟨none, 0, w.heap.size + 1 + 1 + 1, some 8, 55, #[.int .i64 0, .int .i64 0, .int .i64 0, .int .i64 0, .int .i64 0, .int .i64 0, .int .i64 0, .int .i64 0, .int .i64 0, .int .i64 0, .int .i64 0, .int .i64 0, .int .i64 0, .int .i64 0, .int .i64 0, .int .i64 0, .int .i64 0, .int .i64 0, .int .i64 0, .int .i64 0, .int .i64 0, .int .i64 0, .int .i64 0, .int .i64 0], #[.int .i64 m0, .int .i64 m1, .int .i64 m2, .int .i64 m3, .int .i64 m4, .int .i64 m5, .int .i64 m6, .int .i64 m7, .int .i64 m8, .int .i64 m9, .int .i64 m10, .int .i64 m11, .int .i64 m12, .int .i64 m13, .int .i64 m14, .int .i64 m15, .int .i64 m16, .int .i64 m17, .int .i64 m18, .int .i64 m19, .int .i64 m20, .int .i64 m21, .int .i64 m22, .int .i64 m23]⟩] _ (by kernel_rfl) (by kernel_rfl) (by kernel_rfl)
  case H =>
    intro x0 hx
    have hne : Nonempty (Wx x0) := ⟨⟨x0, Ext.refl x0⟩⟩
    have qB4 := fun (y : Wx x0) => ((B4.calm hx (by simp <;> omega)).ext y.ext).cell
    have qB5 := fun (y : Wx x0) => ((B5.calm hx (by simp <;> omega)).ext y.ext).cell
    have qB6 := fun (y : Wx x0) => ((B6.calm hx (by simp <;> omega)).ext y.ext).cell
    simp only [eraseM]
    repeat (go_big_quiet_step (first | (go_at_call 32; with_reducible exact calm_of (HA.out _)) | (go_at_call 32; with_reducible exact calm_of (HB.out _)) | (go_at_call 32; with_reducible exact calm_of (HC.out _)) | (go_at_call 31; with_reducible exact calm_of (HJ.out _))))
    exact wpQuiet_nil rfl
  case hok =>
    simp only [List.forall_mem_cons, List.not_mem_nil, false_implies, implies_true, and_true]
    exact tgt_mine (v := .agg #[.int .i64 m0, .int .i64 m1, .int .i64 m2, .int .i64 m3, .int .i64 m4, .int .i64 m5, .int .i64 m6, .int .i64 m7, .int .i64 m8, .int .i64 m9, .int .i64 m10, .int .i64 m11, .int .i64 m12, .int .i64 m13, .int .i64 m14, .int .i64 m15, .int .i64 m16, .int .i64 m17, .int .i64 m18, .int .i64 m19, .int .i64 m20, .int .i64 m21, .int .i64 m22, .int .i64 m23]) (off := 0) (by simp) B8 rfl rfl rfl rfl rfl rfl (by kernel_rfl) (by kernel_rfl) (of_decide_eq_true (by kernel_rfl)) rfl
  case hdis =>
    intro k k' t t' hk hk' hkk ha ha'
    exfalso
    have h1 : k < 1 := (List.getElem?_eq_some_iff.1 hk).1
    have h2 : k' < 1 := (List.getElem?_eq_some_iff.1 hk').1
    omega
  rintro w6 f hw ⟨k0, l0, d0, u0, -⟩
  have e0' : f 0 = w.heap.size + 1 + 1 + 1 := k0
  rw [e0'] at d0
  simp only [pairs, putAll, Option.isSome_none, Bool.false_eq_true, if_false]
  have Ef := Ext.calm_trans xx hw (by simp; omega)
  clear k0 l0 u0 e0' hw
  go_wp2_with fail
  exact bodyPost_ret (v := .tuple #[.agg #[.int .i64 m0, .int .i64 m1, .int .i64 m2, .int .i64 m3, .int .i64 m4, .int .i64 m5, .int .i64 m6, .int .i64 m7, .int .i64 m8, .int .i64 m9, .int .i64 m10, .int .i64 m11, .int .i64 m12, .int .i64 m13, .int .i64 m14, .int .i64 m15, .int .i64 m16, .int .i64 m17, .int .i64 m18, .int .i64 m19, .int .i64 m20, .int .i64 m21, .int .i64 m22, .int .i64 m23], .bool true]) (results_blk2 (b := w.heap.size + 1 + 1 + 1) (t := 8) (s := 9) (ty := 55) rfl rfl d0 Try.underlying55 rfl (by kernel_rfl) rfl) rfl ⟨rfl, Ef⟩
set_option maxRecDepth 100000 in
set_option maxHeartbeats 4000000 in
theorem make_neg (a0 a1 a2 a3 a4 a5 a6 a7 b0 b1 b2 b3 b4 b5 b6 b7 c0 c1 c2 c3 c4 c5 c6 c7 k ar la0 la1 la2 la3 la4 la5 la6 la7 lb0 lb1 lb2 lb3 lb4 lb5 lb6 lb7 lc0 lc1 lc2 lc3 lc4 lc5 lc6 lc7 m0 m1 m2 m3 m4 m5 m6 m7 m8 m9 m10 m11 m12 m13 m14 m15 m16 m17 m18 m19 m20 m21 m22 m23 : Int) (hS : ∀ u : World, Calls Try.prog 30 #[.agg #[.int .i64 a0, .int .i64 a1], .agg #[.int .i64 b0, .int .i64 b1], .agg #[.int .i64 c0, .int .i64 c1]] u fun e w' => e = .returned (.int .i64 ar) ∧ Ext u w') (h1 : ar < 0) (h2 : k ≠ 1) (hA : ∀ u : World, Calls Try.prog 32 #[.agg #[.int .i64 a0, .int .i64 a1, .int .i64 a2, .int .i64 a3, .int .i64 a4, .int .i64 a5, .int .i64 a6, .int .i64 a7]] u fun e w' => e = .returned (.agg #[.int .i64 la0, .int .i64 la1, .int .i64 la2, .int .i64 la3, .int .i64 la4, .int .i64 la5, .int .i64 la6, .int .i64 la7]) ∧ Ext u w') (hB : ∀ u : World, Calls Try.prog 32 #[.agg #[.int .i64 b0, .int .i64 b1, .int .i64 b2, .int .i64 b3, .int .i64 b4, .int .i64 b5, .int .i64 b6, .int .i64 b7]] u fun e w' => e = .returned (.agg #[.int .i64 lb0, .int .i64 lb1, .int .i64 lb2, .int .i64 lb3, .int .i64 lb4, .int .i64 lb5, .int .i64 lb6, .int .i64 lb7]) ∧ Ext u w') (hC : ∀ u : World, Calls Try.prog 32 #[.agg #[.int .i64 c0, .int .i64 c1, .int .i64 c2, .int .i64 c3, .int .i64 c4, .int .i64 c5, .int .i64 c6, .int .i64 c7]] u fun e w' => e = .returned (.agg #[.int .i64 lc0, .int .i64 lc1, .int .i64 lc2, .int .i64 lc3, .int .i64 lc4, .int .i64 lc5, .int .i64 lc6, .int .i64 lc7]) ∧ Ext u w')
    (hJ : ∀ u : World, Calls Try.prog 31 #[.agg #[.int .i64 la0, .int .i64 la1, .int .i64 la2, .int .i64 la3, .int .i64 la4, .int .i64 la5, .int .i64 la6, .int .i64 la7, .int .i64 lc0, .int .i64 lc1, .int .i64 lc2, .int .i64 lc3, .int .i64 lc4, .int .i64 lc5, .int .i64 lc6, .int .i64 lc7, .int .i64 lb0, .int .i64 lb1, .int .i64 lb2, .int .i64 lb3, .int .i64 lb4, .int .i64 lb5, .int .i64 lb6, .int .i64 lb7]] u fun e w' => e = .returned (.agg #[.int .i64 m0, .int .i64 m1, .int .i64 m2, .int .i64 m3, .int .i64 m4, .int .i64 m5, .int .i64 m6, .int .i64 m7, .int .i64 m8, .int .i64 m9, .int .i64 m10, .int .i64 m11, .int .i64 m12, .int .i64 m13, .int .i64 m14, .int .i64 m15, .int .i64 m16, .int .i64 m17, .int .i64 m18, .int .i64 m19, .int .i64 m20, .int .i64 m21, .int .i64 m22, .int .i64 m23]) ∧ Ext u w') (w : World) : Calls Try.prog 14 #[.agg #[.int .i64 a0, .int .i64 a1, .int .i64 a2, .int .i64 a3, .int .i64 a4, .int .i64 a5, .int .i64 a6, .int .i64 a7], .agg #[.int .i64 b0, .int .i64 b1, .int .i64 b2, .int .i64 b3, .int .i64 b4, .int .i64 b5, .int .i64 b6, .int .i64 b7], .agg #[.int .i64 c0, .int .i64 c1, .int .i64 c2, .int .i64 c3, .int .i64 c4, .int .i64 c5, .int .i64 c6, .int .i64 c7], .int .u8 k] w fun e w' => e = .returned (.tuple #[.agg #[.int .i64 m0, .int .i64 m1, .int .i64 m2, .int .i64 m3, .int .i64 m4, .int .i64 m5, .int .i64 m6, .int .i64 m7, .int .i64 m8, .int .i64 m9, .int .i64 m10, .int .i64 m11, .int .i64 m12, .int .i64 m13, .int .i64 m14, .int .i64 m15, .int .i64 m16, .int .i64 m17, .int .i64 m18, .int .i64 m19, .int .i64 m20, .int .i64 m21, .int .i64 m22, .int .i64 m23], .bool true]) ∧ Ext w w' := by
  have h3 : ¬ ar = 0 := by omega
  have h4 : ¬ 0 < ar := by omega
  have e2 : (k == 1) = false := by simpa using h2
  have e1 : (ar == 0) = false := by simpa using h3
  have HS := Lib.hid hS
  have HA := Lib.hid hA
  have HB := Lib.hid hB
  have HC := Lib.hid hC
  have HJ := Lib.hid hJ
  clear hS hA hB hC hJ
  have xx : Ext w ((((w.alloc (.cells #[.int .i64 a0, .int .i64 a1, .int .i64 a2, .int .i64 a3, .int .i64 a4, .int .i64 a5, .int .i64 a6, .int .i64 a7] 59)).alloc (.cells #[.int .i64 b0, .int .i64 b1, .int .i64 b2, .int .i64 b3, .int .i64 b4, .int .i64 b5, .int .i64 b6, .int .i64 b7] 59)).alloc (.cells #[.int .i64 c0, .int .i64 c1, .int .i64 c2, .int .i64 c3, .int .i64 c4, .int .i64 c5, .int .i64 c6, .int .i64 c7] 59)).alloc (.cells #[.int .i64 0, .int .i64 0, .int .i64 0, .int .i64 0, .int .i64 0, .int .i64 0, .int .i64 0, .int .i64 0, .int .i64 0, .int .i64 0, .int .i64 0, .int .i64 0, .int .i64 0, .int .i64 0, .int .i64 0, .int .i64 0, .int .i64 0, .int .i64 0, .int .i64 0, .int .i64 0, .int .i64 0, .int .i64 0, .int .i64 0, .int .i64 0] 55)) := ((((Ext.refl w).alloc _ _).alloc _ _).alloc _ _).alloc _ _
  have B4 := (((Blk.new w #[.int .i64 a0, .int .i64 a1, .int .i64 a2, .int .i64 a3, .int .i64 a4, .int .i64 a5, .int .i64 a6, .int .i64 a7] 59).alloc (.cells #[.int .i64 b0, .int .i64 b1, .int .i64 b2, .int .i64 b3, .int .i64 b4, .int .i64 b5, .int .i64 b6, .int .i64 b7] 59)).alloc (.cells #[.int .i64 c0, .int .i64 c1, .int .i64 c2, .int .i64 c3, .int .i64 c4, .int .i64 c5, .int .i64 c6, .int .i64 c7] 59)).alloc (.cells #[.int .i64 0, .int .i64 0, .int .i64 0, .int .i64 0, .int .i64 0, .int .i64 0, .int .i64 0, .int .i64 0, .int .i64 0, .int .i64 0, .int .i64 0, .int .i64 0, .int .i64 0, .int .i64 0, .int .i64 0, .int .i64 0, .int .i64 0, .int .i64 0, .int .i64 0, .int .i64 0, .int .i64 0, .int .i64 0, .int .i64 0, .int .i64 0] 55)
  have B5 := ((Blk.new (w.alloc (.cells #[.int .i64 a0, .int .i64 a1, .int .i64 a2, .int .i64 a3, .int .i64 a4, .int .i64 a5, .int .i64 a6, .int .i64 a7] 59)) #[.int .i64 b0, .int .i64 b1, .int .i64 b2, .int .i64 b3, .int .i64 b4, .int .i64 b5, .int .i64 b6, .int .i64 b7] 59).alloc (.cells #[.int .i64 c0, .int .i64 c1, .int .i64 c2, .int .i64 c3, .int .i64 c4, .int .i64 c5, .int .i64 c6, .int .i64 c7] 59)).alloc (.cells #[.int .i64 0, .int .i64 0, .int .i64 0, .int .i64 0, .int .i64 0, .int .i64 0, .int .i64 0, .int .i64 0, .int .i64 0, .int .i64 0, .int .i64 0, .int .i64 0, .int .i64 0, .int .i64 0, .int .i64 0, .int .i64 0, .int .i64 0, .int .i64 0, .int .i64 0, .int .i64 0, .int .i64 0, .int .i64 0, .int .i64 0, .int .i64 0] 55)
  have B6 := (Blk.new ((w.alloc (.cells #[.int .i64 a0, .int .i64 a1, .int .i64 a2, .int .i64 a3, .int .i64 a4, .int .i64 a5, .int .i64 a6, .int .i64 a7] 59)).alloc (.cells #[.int .i64 b0, .int .i64 b1, .int .i64 b2, .int .i64 b3, .int .i64 b4, .int .i64 b5, .int .i64 b6, .int .i64 b7] 59)) #[.int .i64 c0, .int .i64 c1, .int .i64 c2, .int .i64 c3, .int .i64 c4, .int .i64 c5, .int .i64 c6, .int .i64 c7] 59).alloc (.cells #[.int .i64 0, .int .i64 0, .int .i64 0, .int .i64 0, .int .i64 0, .int .i64 0, .int .i64 0, .int .i64 0, .int .i64 0, .int .i64 0, .int .i64 0, .int .i64 0, .int .i64 0, .int .i64 0, .int .i64 0, .int .i64 0, .int .i64 0, .int .i64 0, .int .i64 0, .int .i64 0, .int .i64 0, .int .i64 0, .int .i64 0, .int .i64 0] 55)
  have B8 := Blk.new (((w.alloc (.cells #[.int .i64 a0, .int .i64 a1, .int .i64 a2, .int .i64 a3, .int .i64 a4, .int .i64 a5, .int .i64 a6, .int .i64 a7] 59)).alloc (.cells #[.int .i64 b0, .int .i64 b1, .int .i64 b2, .int .i64 b3, .int .i64 b4, .int .i64 b5, .int .i64 b6, .int .i64 b7] 59)).alloc (.cells #[.int .i64 c0, .int .i64 c1, .int .i64 c2, .int .i64 c3, .int .i64 c4, .int .i64 c5, .int .i64 c6, .int .i64 c7] 59)) #[.int .i64 0, .int .i64 0, .int .i64 0, .int .i64 0, .int .i64 0, .int .i64 0, .int .i64 0, .int .i64 0, .int .i64 0, .int .i64 0, .int .i64 0, .int .i64 0, .int .i64 0, .int .i64 0, .int .i64 0, .int .i64 0, .int .i64 0, .int .i64 0, .int .i64 0, .int .i64 0, .int .i64 0, .int .i64 0, .int .i64 0, .int .i64 0] 55
  go_enter Try.func14, Try.ntmps14
  go_upto_region 1 with fail
  simp only [World.size_alloc] at B5 B6 B8
  generalize ((((w.alloc (.cells #[.int .i64 a0, .int .i64 a1, .int .i64 a2, .int .i64 a3, .int .i64 a4, .int .i64 a5, .int .i64 a6, .int .i64 a7] 59)).alloc (.cells #[.int .i64 b0, .int .i64 b1, .int .i64 b2, .int .i64 b3, .int .i64 b4, .int .i64 b5, .int .i64 b6, .int .i64 b7] 59)).alloc (.cells #[.int .i64 c0, .int .i64 c1, .int .i64 c2, .int .i64 c3, .int .i64 c4, .int .i64 c5, .int .i64 c6, .int .i64 c7] 59)).alloc (.cells #[.int .i64 0, .int .i64 0, .int .i64 0, .int .i64 0, .int .i64 0, .int .i64 0, .int .i64 0, .int .i64 0, .int .i64 0, .int .i64 0, .int .i64 0, .int .i64 0, .int .i64 0, .int .i64 0, .int .i64 0, .int .i64 0, .int .i64 0, .int .i64 0, .int .i64 0, .int .i64 0, .int .i64 0, .int .i64 0, .int .i64 0, .int .i64 0] 55)) = w1 at *
  have R4 := Lib.hid (B4.mid13 0 [.int .i64 a0, .int .i64 a1] rfl)
  have R5 := Lib.hid (B5.mid13 0 [.int .i64 b0, .int .i64 b1] rfl)
  have R6 := Lib.hid (B6.mid13 0 [.int .i64 c0, .int .i64 c1] rfl)
  go_wp2_with (first
    | ((with_reducible refine wpList_load_mid (op := ⟨some 12, _, _, _, _, _⟩) ?_ 50 (.tmp 11) ?_ w.heap.size 0 ?_ [.int .i64 a0, .int .i64 a1] _ R4.out Try.underlying50 ?_ ?_ ?_); rfl; rfl; rfl; rfl; kernel_rfl)
    | ((with_reducible refine wpList_load_mid (op := ⟨some 14, _, _, _, _, _⟩) ?_ 50 (.tmp 13) ?_ (w.heap.size + 1) 0 ?_ [.int .i64 b0, .int .i64 b1] _ R5.out Try.underlying50 ?_ ?_ ?_); rfl; rfl; rfl; rfl; kernel_rfl)
    | ((with_reducible refine wpList_load_mid (op := ⟨some 16, _, _, _, _, _⟩) ?_ 50 (.tmp 15) ?_ (w.heap.size + 1 + 1) 0 ?_ [.int .i64 c0, .int .i64 c1] _ R6.out Try.underlying50 ?_ ?_ ?_); rfl; rfl; rfl; rfl; kernel_rfl)
    | fail)
  refine (HS.out _).mono ?_
  rintro e w2 ⟨rfl, x2⟩
  have xx := xx.trans x2
  have B4 := B4.ext x2
  have B5 := B5.ext x2
  have B6 := B6.ext x2
  have B8 := B8.ext x2
  clear x2 R4 R5 R6 HS
  have B6x := B6.farRow (g := w.heap.size + 1) (by omega) #[.int .i64 c0, .int .i64 c1, .int .i64 c2, .int .i64 c3, .int .i64 c4, .int .i64 c5, .int .i64 c6, .int .i64 c7]
  go_upto_region 6 with (first
    | ((with_reducible refine wpList_load_blk (op := ⟨some 39, _, _, _, _, _⟩) ?_ 59 (.tmp 6) ?_ (w.heap.size + 1 + 1) ?_ (z := _) (T := 59) B6 Try.underlying59 ?_ ?_ ?_); rfl; rfl; rfl; rfl; kernel_rfl)
    | ((with_reducible refine wpList_load_blk (op := ⟨some 40, _, _, _, _, _⟩) ?_ 59 (.tmp 5) ?_ (w.heap.size + 1) ?_ (z := _) (T := 59) B5 Try.underlying59 ?_ ?_ ?_); rfl; rfl; rfl; rfl; kernel_rfl)
    | ((with_reducible refine wpList_store_blk (op := ⟨none, .store 59 (.tmp 5) (.tmp 39), _, _, _, _⟩) ?_ 59 (.tmp 5) (.tmp 39) ?_ (w.heap.size + 1) ?_ (cs := #[.int .i64 c0, .int .i64 c1, .int .i64 c2, .int .i64 c3, .int .i64 c4, .int .i64 c5, .int .i64 c6, .int .i64 c7]) ?_ (z := #[.int .i64 b0, .int .i64 b1, .int .i64 b2, .int .i64 b3, .int .i64 b4, .int .i64 b5, .int .i64 b6, .int .i64 b7]) (T := 59) ?_ ?_ ?_ ?_ ?_); rfl; rfl; rfl; rfl; exact B5; kernel_rfl; kernel_rfl; kernel_rfl)
    | ((with_reducible refine wpList_store_blk (op := ⟨none, .store 59 (.tmp 6) (.tmp 40), _, _, _, _⟩) ?_ 59 (.tmp 6) (.tmp 40) ?_ (w.heap.size + 1 + 1) ?_ (cs := #[.int .i64 b0, .int .i64 b1, .int .i64 b2, .int .i64 b3, .int .i64 b4, .int .i64 b5, .int .i64 b6, .int .i64 b7]) ?_ (z := #[.int .i64 c0, .int .i64 c1, .int .i64 c2, .int .i64 c3, .int .i64 c4, .int .i64 c5, .int .i64 c6, .int .i64 c7]) (T := 59) ?_ ?_ ?_ ?_ ?_); rfl; rfl; rfl; rfl; exact B6x; kernel_rfl; kernel_rfl; kernel_rfl)
    | fail)
  simp only [Act.put, List.setIfInBounds_toArray, List.set_cons_succ, List.set_cons_zero]
  have B4 := ((B4.farRow (g := w.heap.size + 1) (by omega) #[.int .i64 c0, .int .i64 c1, .int .i64 c2, .int .i64 c3, .int .i64 c4, .int .i64 c5, .int .i64 c6, .int .i64 c7]).farRow (g := w.heap.size + 1 + 1) (by omega) #[.int .i64 b0, .int .i64 b1, .int .i64 b2, .int .i64 b3, .int .i64 b4, .int .i64 b5, .int .i64 b6, .int .i64 b7])
  have B8 := ((B8.farRow (g := w.heap.size + 1) (by omega) #[.int .i64 c0, .int .i64 c1, .int .i64 c2, .int .i64 c3, .int .i64 c4, .int .i64 c5, .int .i64 c6, .int .i64 c7]).farRow (g := w.heap.size + 1 + 1) (by omega) #[.int .i64 b0, .int .i64 b1, .int .i64 b2, .int .i64 b3, .int .i64 b4, .int .i64 b5, .int .i64 b6, .int .i64 b7])
  have B5 := (B5.setRow #[.int .i64 c0, .int .i64 c1, .int .i64 c2, .int .i64 c3, .int .i64 c4, .int .i64 c5, .int .i64 c6, .int .i64 c7]).farRow (g := w.heap.size + 1 + 1) (by omega) #[.int .i64 b0, .int .i64 b1, .int .i64 b2, .int .i64 b3, .int .i64 b4, .int .i64 b5, .int .i64 b6, .int .i64 b7]
  have B6 := B6x.setRow #[.int .i64 b0, .int .i64 b1, .int .i64 b2, .int .i64 b3, .int .i64 b4, .int .i64 b5, .int .i64 b6, .int .i64 b7]
  have xx := (xx.setRow (g := w.heap.size + 1) (by omega) #[.int .i64 c0, .int .i64 c1, .int .i64 c2, .int .i64 c3, .int .i64 c4, .int .i64 c5, .int .i64 c6, .int .i64 c7]).setRow (g := w.heap.size + 1 + 1) (by omega) #[.int .i64 b0, .int .i64 b1, .int .i64 b2, .int .i64 b3, .int .i64 b4, .int .i64 b5, .int .i64 b6, .int .i64 b7]
  generalize ((w2.setRow (w.heap.size + 1) #[.int .i64 c0, .int .i64 c1, .int .i64 c2, .int .i64 c3, .int .i64 c4, .int .i64 c5, .int .i64 c6, .int .i64 c7]).setRow (w.heap.size + 1 + 1) #[.int .i64 b0, .int .i64 b1, .int .i64 b2, .int .i64 b3, .int .i64 b4, .int .i64 b5, .int .i64 b6, .int .i64 b7]) = w3 at *
  apply wp_region_vars [false, false, false, false, false, false, false, false, true, false] [w.heap.size + 1 + 1 + 1] [⟨none, 0, w.heap.size + 1 + 1 + 1, some 8, 55, #[.int .i64 0, .int .i64 0, .int .i64 0, .int .i64 0, .int .i64 0, .int .i64 0, .int .i64 0, .int .i64 0, .int .i64 0, .int .i64 0, .int .i64 0, .int .i64 0, .int .i64 0, .int .i64 0, .int .i64 0, .int .i64 0, .int .i64 0, .int .i64 0, .int .i64 0, .int .i64 0, .int .i64 0, .int .i64 0, .int .i64 0, .int .i64 0], #[.int .i64 m0, .int .i64 m1, .int .i64 m2, .int .i64 m3, .int .i64 m4, .int .i64 m5, .int .i64 m6, .int .i64 m7, .int .i64 m8, .int .i64 m9, .int .i64 m10, .int .i64 m11, .int .i64 m12, .int .i64 m13, .int .i64 m14, .int .i64 m15, .int .i64 m16, .int .i64 m17, .int .i64 m18, .int .i64 m19, .int .i64 m20, .int .i64 m21, .int .i64 m22, .int .i64 m23]⟩] _ (by kernel_rfl) (by kernel_rfl) (by kernel_rfl)
  case H =>
    intro x0 hx
    have hne : Nonempty (Wx x0) := ⟨⟨x0, Ext.refl x0⟩⟩
    have qB4 := fun (y : Wx x0) => ((B4.calm hx (by simp <;> omega)).ext y.ext).cell
    have qB5 := fun (y : Wx x0) => ((B5.calm hx (by simp <;> omega)).ext y.ext).cell
    have qB6 := fun (y : Wx x0) => ((B6.calm hx (by simp <;> omega)).ext y.ext).cell
    simp only [eraseM]
    repeat (go_big_quiet_step (first | (go_at_call 32; with_reducible exact calm_of (HA.out _)) | (go_at_call 32; with_reducible exact calm_of (HB.out _)) | (go_at_call 32; with_reducible exact calm_of (HC.out _)) | (go_at_call 31; with_reducible exact calm_of (HJ.out _))))
    exact wpQuiet_nil rfl
  case hok =>
    simp only [List.forall_mem_cons, List.not_mem_nil, false_implies, implies_true, and_true]
    exact tgt_mine (v := .agg #[.int .i64 m0, .int .i64 m1, .int .i64 m2, .int .i64 m3, .int .i64 m4, .int .i64 m5, .int .i64 m6, .int .i64 m7, .int .i64 m8, .int .i64 m9, .int .i64 m10, .int .i64 m11, .int .i64 m12, .int .i64 m13, .int .i64 m14, .int .i64 m15, .int .i64 m16, .int .i64 m17, .int .i64 m18, .int .i64 m19, .int .i64 m20, .int .i64 m21, .int .i64 m22, .int .i64 m23]) (off := 0) (by simp) B8 rfl rfl rfl rfl rfl rfl (by kernel_rfl) (by kernel_rfl) (of_decide_eq_true (by kernel_rfl)) rfl
  case hdis =>
    intro k k' t t' hk hk' hkk ha ha'
    exfalso
    have h1 : k < 1 := (List.getElem?_eq_some_iff.1 hk).1
    have h2 : k' < 1 := (List.getElem?_eq_some_iff.1 hk').1
    omega
  rintro w6 f hw ⟨k0, l0, d0, u0, -⟩
  have e0' : f 0 = w.heap.size + 1 + 1 + 1 := k0
  rw [e0'] at d0
  simp only [pairs, putAll, Option.isSome_none, Bool.false_eq_true, if_false]
  have Ef := Ext.calm_trans xx hw (by simp; omega)
  clear k0 l0 u0 e0' hw
  go_wp2_with fail
  exact bodyPost_ret (v := .tuple #[.agg #[.int .i64 m0, .int .i64 m1, .int .i64 m2, .int .i64 m3, .int .i64 m4, .int .i64 m5, .int .i64 m6, .int .i64 m7, .int .i64 m8, .int .i64 m9, .int .i64 m10, .int .i64 m11, .int .i64 m12, .int .i64 m13, .int .i64 m14, .int .i64 m15, .int .i64 m16, .int .i64 m17, .int .i64 m18, .int .i64 m19, .int .i64 m20, .int .i64 m21, .int .i64 m22, .int .i64 m23], .bool true]) (results_blk2 (b := w.heap.size + 1 + 1 + 1) (t := 8) (s := 9) (ty := 55) rfl rfl d0 Try.underlying55 rfl (by kernel_rfl) rfl) rfl ⟨rfl, Ef⟩
end Go.Proofs.Ytglehnmkdapnpaa

