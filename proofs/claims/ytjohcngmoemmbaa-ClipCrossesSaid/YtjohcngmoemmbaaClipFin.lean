/-
  DERIVED. The landed clip's last limits (made by mkclip.py).
-/
import Derived.Test.YtjohcngmoemmbaaClipIns
import Derived.Test.YtjohcngmoemmbaaVecMM
import Derived.Test.YtjohcngmoemmbaaParts
namespace Go.Proofs.Ytjohcngmoemmbaa
open Go.RowKit
set_option linter.unusedVariables false
theorem limC_eq (n : Int) : minZ (maxZ n 0) 65536 = limC n := by
  unfold minZ maxZ limC clampZ
  omega
theorem maxZ_bd (n : Int) : -9223372036854775808 ≤ maxZ n 0 ∧ maxZ n 0 ≤ 9223372036854775807 := by unfold maxZ clampZ; omega
set_option maxRecDepth 100000 in
set_option maxHeartbeats 4000000 in
theorem vmall12 (n : Int) (w : World) : Calls Try.prog 32 #[.int .i64 n] w fun e w' => e = .returned (.agg #[.int .i64 n, .int .i64 n, .int .i64 n, .int .i64 n]) ∧ Ext w w' := by
  go_enter Try.func32, Try.ntmps32
  go_wp2
  refine bodyPost_ret (v := .agg #[.int .i64 n, .int .i64 n, .int .i64 n, .int .i64 n]) (by simp [results, Try.results32, go_sem]) rfl ⟨rfl, ?_⟩
  repeat (first | exact Ext.refl _ | apply Ext.drew | apply Ext.drewN | apply Ext.alloc)
set_option maxRecDepth 100000 in
set_option maxHeartbeats 4000000 in
theorem colour_main (c0 c1 c2 c3 g0 g1 g2 g3 r0 r1 r2 r3 : Int) (hM : ∀ u : World, Calls Try.prog 31 #[.agg #[.int .i64 c0, .int .i64 c1, .int .i64 c2, .int .i64 c3], .agg #[.int .i64 0, .int .i64 0, .int .i64 0, .int .i64 0]] u fun e w' => e = .returned (.agg #[.int .i64 g0, .int .i64 g1, .int .i64 g2, .int .i64 g3]) ∧ Ext u w') (hN : ∀ u : World, Calls Try.prog 33 #[.agg #[.int .i64 g0, .int .i64 g1, .int .i64 g2, .int .i64 g3], .agg #[.int .i64 65536, .int .i64 65536, .int .i64 65536, .int .i64 65536]] u fun e w' => e = .returned (.agg #[.int .i64 r0, .int .i64 r1, .int .i64 r2, .int .i64 r3]) ∧ Ext u w') (w : World) : Calls Try.prog 30 #[.agg #[.int .i64 c0, .int .i64 c1, .int .i64 c2, .int .i64 c3]] w fun e w' => e = .returned (.agg #[.int .i64 r0, .int .i64 r1, .int .i64 r2, .int .i64 r3]) ∧ Ext w w' := by
  have HM := Lib.hid hM
  have HN := Lib.hid hN
  clear hM hN
  have x1 : Ext w ((w.alloc (.cells #[.int .i64 c0, .int .i64 c1, .int .i64 c2, .int .i64 c3] 30)).alloc (.cells #[.int .i64 0, .int .i64 0, .int .i64 0, .int .i64 0] 30)) := ((Ext.refl w).alloc _ _).alloc _ _
  have B1 := (Blk.new w #[.int .i64 c0, .int .i64 c1, .int .i64 c2, .int .i64 c3] 30).alloc (.cells #[.int .i64 0, .int .i64 0, .int .i64 0, .int .i64 0] 30)
  have B2 := Blk.new (w.alloc (.cells #[.int .i64 c0, .int .i64 c1, .int .i64 c2, .int .i64 c3] 30)) #[.int .i64 0, .int .i64 0, .int .i64 0, .int .i64 0] 30
  go_enter Try.func30, Try.ntmps30
  go_upto_region 1 with fail
  simp only [World.size_alloc] at B2
  generalize ((w.alloc (.cells #[.int .i64 c0, .int .i64 c1, .int .i64 c2, .int .i64 c3] 30)).alloc (.cells #[.int .i64 0, .int .i64 0, .int .i64 0, .int .i64 0] 30)) = w1 at *
  apply wp_region_vars [false, false, false, false, false, true] [w.heap.size + 1] [⟨none, 0, w.heap.size + 1, some 5, 30, #[.int .i64 0, .int .i64 0, .int .i64 0, .int .i64 0], #[.int .i64 r0, .int .i64 r1, .int .i64 r2, .int .i64 r3]⟩] _ (by kernel_rfl) (by kernel_rfl) (by kernel_rfl)
  case H =>
    intro x hx
    have hne : Nonempty (Wx x) := ⟨⟨x, Ext.refl x⟩⟩
    have q3 := fun (y : Wx x) => ((B1.calm hx (by simp)).ext y.ext).cell
    simp only [eraseM]
    repeat (go_big_quiet_step (first | (go_at_call 32; with_reducible exact calm_of (vmall12 _ _)) | (go_at_call 31; with_reducible exact calm_of (HM.out _)) | (go_at_call 33; with_reducible exact calm_of (HN.out _))))
    exact wpQuiet_nil rfl
  case hok =>
    simp only [List.forall_mem_cons, List.not_mem_nil, false_implies, implies_true, and_true]
    exact tgt_mine (v := .agg #[.int .i64 r0, .int .i64 r1, .int .i64 r2, .int .i64 r3]) (off := 0) (by simp) B2 rfl rfl rfl rfl rfl rfl (by kernel_rfl) (by kernel_rfl) (of_decide_eq_true (by kernel_rfl)) rfl
  case hdis =>
    intro k k' t t' hk hk' hkk ha ha'
    exfalso
    have h1 : k < 1 := (List.getElem?_eq_some_iff.1 hk).1
    have h2 : k' < 1 := (List.getElem?_eq_some_iff.1 hk').1
    omega
  rintro w4 f hw ⟨k0, l0, d0, u0, -⟩
  have e0 : f 0 = w.heap.size + 1 := k0
  rw [e0] at d0
  have Ef := Ext.calm_trans x1 hw (by simp)
  clear k0 l0 u0 e0 hw HM HN B1 B2 x1
  simp only [pairs, putAll, Option.isSome_none, Bool.false_eq_true, if_false]
  go_wp2_with fail
  exact bodyPost_ret (v := .agg #[.int .i64 r0, .int .i64 r1, .int .i64 r2, .int .i64 r3]) (results_blk (b := w.heap.size + 1) (t := 2) (ty := 30) rfl rfl d0 Try.underlying30 rfl (by kernel_rfl)) rfl ⟨rfl, Ef⟩
theorem colour_lim (c0 c1 c2 c3 : Int) (b0 : -9223372036854775808 ≤ c0 ∧ c0 ≤ 9223372036854775807) (b1 : -9223372036854775808 ≤ c1 ∧ c1 ≤ 9223372036854775807) (b2 : -9223372036854775808 ≤ c2 ∧ c2 ≤ 9223372036854775807) (b3 : -9223372036854775808 ≤ c3 ∧ c3 ≤ 9223372036854775807) (w : World) : Calls Try.prog 30 #[.agg #[.int .i64 c0, .int .i64 c1, .int .i64 c2, .int .i64 c3]] w fun e w' => e = .returned (.agg #[.int .i64 (limC c0), .int .i64 (limC c1), .int .i64 (limC c2), .int .i64 (limC c3)]) ∧ Ext w w' := by
  refine colour_main c0 c1 c2 c3 _ _ _ _ _ _ _ _ (fun u => vec_maxZ _ _ _ _ _ _ _ _ b0 (by omega) b1 (by omega) b2 (by omega) b3 (by omega) u) (fun u => ?_) w
  have := vec_minZ _ _ _ _ _ _ _ _ (maxZ_bd c0) (show -9223372036854775808 ≤ (65536 : Int) ∧ (65536 : Int) ≤ 9223372036854775807 by omega) (maxZ_bd c1) (show -9223372036854775808 ≤ (65536 : Int) ∧ (65536 : Int) ≤ 9223372036854775807 by omega) (maxZ_bd c2) (show -9223372036854775808 ≤ (65536 : Int) ∧ (65536 : Int) ≤ 9223372036854775807 by omega) (maxZ_bd c3) (show -9223372036854775808 ≤ (65536 : Int) ∧ (65536 : Int) ≤ 9223372036854775807 by omega) u
  simp only [limC_eq] at this
  exact this
set_option maxRecDepth 100000 in
set_option maxHeartbeats 4000000 in
theorem limited_main (p0 p1 p2 p3 c0 c1 c2 c3 q0 q1 q2 q3 r0 r1 r2 r3 s : Int) (hs : max q3 256 = s) (hW : ∀ u : World, Calls Try.prog 14 #[.agg #[.int .i64 p0, .int .i64 p1, .int .i64 p2, .int .i64 p3], .int .i64 4194304] u fun e w' => e = .returned (.agg #[.int .i64 q0, .int .i64 q1, .int .i64 q2, .int .i64 q3]) ∧ Ext u w') (hC : ∀ u : World, Calls Try.prog 30 #[.agg #[.int .i64 c0, .int .i64 c1, .int .i64 c2, .int .i64 c3]] u fun e w' => e = .returned (.agg #[.int .i64 r0, .int .i64 r1, .int .i64 r2, .int .i64 r3]) ∧ Ext u w') (w : World) : Calls Try.prog 27 #[.agg #[.int .i64 p0, .int .i64 p1, .int .i64 p2, .int .i64 p3, .int .i64 c0, .int .i64 c1, .int .i64 c2, .int .i64 c3]] w fun e w' => e = .returned (.agg #[.int .i64 q0, .int .i64 q1, .int .i64 q2, .int .i64 s, .int .i64 r0, .int .i64 r1, .int .i64 r2, .int .i64 r3]) ∧ Ext w w' := by
  have HW := Lib.hid hW
  have HC := Lib.hid hC
  clear hW hC
  have x1 : Ext w ((w.alloc (.cells #[.int .i64 p0, .int .i64 p1, .int .i64 p2, .int .i64 p3, .int .i64 c0, .int .i64 c1, .int .i64 c2, .int .i64 c3] 32)).alloc (.cells #[.int .i64 0, .int .i64 0, .int .i64 0, .int .i64 0, .int .i64 0, .int .i64 0, .int .i64 0, .int .i64 0] 32)) := ((Ext.refl w).alloc _ _).alloc _ _
  have B1 := (Blk.new w #[.int .i64 p0, .int .i64 p1, .int .i64 p2, .int .i64 p3, .int .i64 c0, .int .i64 c1, .int .i64 c2, .int .i64 c3] 32).alloc (.cells #[.int .i64 0, .int .i64 0, .int .i64 0, .int .i64 0, .int .i64 0, .int .i64 0, .int .i64 0, .int .i64 0] 32)
  have B2 := Blk.new (w.alloc (.cells #[.int .i64 p0, .int .i64 p1, .int .i64 p2, .int .i64 p3, .int .i64 c0, .int .i64 c1, .int .i64 c2, .int .i64 c3] 32)) #[.int .i64 0, .int .i64 0, .int .i64 0, .int .i64 0, .int .i64 0, .int .i64 0, .int .i64 0, .int .i64 0] 32
  go_enter Try.func27, Try.ntmps27
  go_upto_region 1 with fail
  simp only [World.size_alloc] at B2
  generalize ((w.alloc (.cells #[.int .i64 p0, .int .i64 p1, .int .i64 p2, .int .i64 p3, .int .i64 c0, .int .i64 c1, .int .i64 c2, .int .i64 c3] 32)).alloc (.cells #[.int .i64 0, .int .i64 0, .int .i64 0, .int .i64 0, .int .i64 0, .int .i64 0, .int .i64 0, .int .i64 0] 32)) = w1 at *
  have cB1 := B1.cell
  go_wp2_with fail
  refine (HW.out _).mono ?_
  rintro e w2 ⟨rfl, x2⟩
  have x12 := x1.trans x2
  have B1 := B1.ext x2
  have B2 := B2.ext x2
  have hb3 : w.heap.size + 1 < w2.heap.size := B2.lt
  have y3 : Ext w2 ((w2.alloc (.cells #[.int .i64 0, .int .i64 0, .int .i64 0, .int .i64 0] 30)).setRow w2.heap.size #[.int .i64 q0, .int .i64 q1, .int .i64 q2, .int .i64 q3]) := ((Ext.refl _).alloc _ _).setRow (Nat.le_refl _) _
  have B3 := (Blk.new w2 #[.int .i64 0, .int .i64 0, .int .i64 0, .int .i64 0] 30).setRow #[.int .i64 q0, .int .i64 q1, .int .i64 q2, .int .i64 q3]
  go_upto_region 2 with (first
    | ((with_reducible refine wpList_store_blk (op := ⟨none, .store 30 (.tmp 3) (.tmp 6), _, _, _, _⟩) ?_ 30 (.tmp 3) (.tmp 6) ?_ (w2.heap.size) ?_ (cs := #[.int .i64 q0, .int .i64 q1, .int .i64 q2, .int .i64 q3]) ?_ (z := #[.int .i64 0, .int .i64 0, .int .i64 0, .int .i64 0]) (T := 30) ?_ ?_ ?_ ?_ ?_); rfl; rfl; rfl; rfl; exact Blk.new w2 _ _; kernel_rfl; kernel_rfl; kernel_rfl)
    | fail)
  have x13 := x12.trans y3
  have B1 := B1.ext y3
  have B2 := B2.ext y3
  generalize (w2.alloc (.cells #[.int .i64 0, .int .i64 0, .int .i64 0, .int .i64 0] 30)).setRow w2.heap.size #[.int .i64 q0, .int .i64 q1, .int .i64 q2, .int .i64 q3] = w3 at *
  generalize w2.heap.size = b3 at *
  clear x1 x2 x12 y3 HW cB1
  simp only [Act.put]
  have hmx := maxI_fold
  have cB3 := B3.cell
  have fB3 := B3.frozen
  go_upto_region 3 with fail
  rw [maxI_eq, hs]
  have B3n : Blk (w3.setCell ⟨b3, 3, none⟩ (.int .i64 s)) b3 #[.int .i64 q0, .int .i64 q1, .int .i64 q2, .int .i64 s] 30 := by simpa using B3.set 3 (.int .i64 s)
  have B1 := B1.far (p := ⟨b3, 3, none⟩) (by simp only; omega) (.int .i64 s)
  have B2 := B2.far (p := ⟨b3, 3, none⟩) (by simp only; omega) (.int .i64 s)
  have x14 := x13.setCell (p := ⟨b3, 3, none⟩) (by simp only; omega) (.int .i64 s)
  clear x13 B3 cB3 fB3 hmx
  generalize w3.setCell ⟨b3, 3, none⟩ (.int .i64 s) = w4 at *
  apply wp_region_vars [false, false, false, false, false, true] [w.heap.size + 1] [⟨none, 0, w.heap.size + 1, some 5, 32, #[.int .i64 0, .int .i64 0, .int .i64 0, .int .i64 0, .int .i64 0, .int .i64 0, .int .i64 0, .int .i64 0], #[.int .i64 q0, .int .i64 q1, .int .i64 q2, .int .i64 s, .int .i64 r0, .int .i64 r1, .int .i64 r2, .int .i64 r3]⟩] _ (by kernel_rfl) (by kernel_rfl) (by kernel_rfl)
  case H =>
    intro x hx
    have hne : Nonempty (Wx x) := ⟨⟨x, Ext.refl x⟩⟩
    have q3 := fun (y : Wx x) => ((B1.calm hx (by simp)).ext y.ext).cell
    have q4 := fun (y : Wx x) => ((B3n.calm hx (by simp; omega)).ext y.ext).cell
    simp only [eraseM]
    repeat (go_big_quiet_step (first | (go_at_call 30; with_reducible exact calm_of (HC.out _))))
    exact wpQuiet_nil rfl
  case hok =>
    simp only [List.forall_mem_cons, List.not_mem_nil, false_implies, implies_true, and_true]
    exact tgt_mine (v := .agg #[.int .i64 q0, .int .i64 q1, .int .i64 q2, .int .i64 s, .int .i64 r0, .int .i64 r1, .int .i64 r2, .int .i64 r3]) (off := 0) (by simp) B2 rfl rfl rfl rfl rfl rfl (by kernel_rfl) (by kernel_rfl) (of_decide_eq_true (by kernel_rfl)) rfl
  case hdis =>
    intro k k' t t' hk hk' hkk ha ha'
    exfalso
    have h1 : k < 1 := (List.getElem?_eq_some_iff.1 hk).1
    have h2 : k' < 1 := (List.getElem?_eq_some_iff.1 hk').1
    omega
  rintro w5 f hw ⟨k0, l0, d0, u0, -⟩
  have e0 : f 0 = w.heap.size + 1 := k0
  rw [e0] at d0
  have Ef := Ext.calm_trans x14 hw (by simp)
  clear k0 l0 u0 e0 hw HC B1 B2 B3n x14
  simp only [pairs, putAll, Option.isSome_none, Bool.false_eq_true, if_false]
  go_wp2_with fail
  exact bodyPost_ret (v := .agg #[.int .i64 q0, .int .i64 q1, .int .i64 q2, .int .i64 s, .int .i64 r0, .int .i64 r1, .int .i64 r2, .int .i64 r3]) (results_blk (b := w.heap.size + 1) (t := 2) (ty := 32) rfl rfl d0 Try.underlying32 rfl (by kernel_rfl)) rfl ⟨rfl, Ef⟩
theorem limited_any (v : V8) (hv : v.in64) (w : World) : Calls Try.prog 27 #[.agg v.l.toArray] w fun e w' => e = .returned (.agg v.fin.l.toArray) ∧ Ext w w' := by
  obtain ⟨a0, a1, a2, a3, a4, a5, a6, a7⟩ := hv
  exact limited_main _ _ _ _ _ _ _ _ _ _ _ _ _ _ _ _ _ rfl (fun u => vwithin_lim v.p0 v.p1 v.p2 v.p3 a0 a1 a2 a3 u) (fun u => colour_lim v.c0 v.c1 v.c2 v.c3 a4 a5 a6 a7 u) w
end Go.Proofs.Ytjohcngmoemmbaa
