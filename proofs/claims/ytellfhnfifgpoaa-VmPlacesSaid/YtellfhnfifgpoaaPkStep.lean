/-
  DERIVED. vm's step: one theorem a way (made by mkvm.py). · THE WALKS of vm's loop and execute: what they come to. · THE WALK of vm's clamped: registers, each number clamped.
-/
import Derived.Test.YtellfhnfifgpoaaPkComp
import Derived.Test.YtellfhnfifgpoaaPkPlain
import Derived.Test.YtellfhnfifgpoaaPkIsa
namespace Go.Proofs.Ytellfhnfifgpoaa
open Go.RowKit
set_option linter.unusedVariables false
theorem splice4 {α : Type} (l : List α) (k : Nat) (a b c d : α) (hk : k + 4 ≤ l.length) : l.take k ++ [a, b, c, d] ++ l.drop (k + 4) = (((l.set k a).set (k + 1) b).set (k + 2) c).set (k + 3) d := by
  apply List.ext_getElem?
  intro j
  simp only [List.getElem?_set, List.length_set]
  by_cases h1 : j < k
  · rw [List.append_assoc, List.getElem?_append_left (by simp; omega), List.getElem?_take_of_lt h1]
    simp [show ¬ k + 3 = j by omega, show ¬ k + 2 = j by omega, show ¬ k + 1 = j by omega, show ¬ k = j by omega]
  · by_cases h2 : j < k + 4
    · rw [List.getElem?_append_left (by simp; omega), List.getElem?_append_right (by simp; omega)]
      rw [List.length_take, Nat.min_eq_left (by omega)]
      have : j = k ∨ j = k + 1 ∨ j = k + 2 ∨ j = k + 3 := by omega
      rcases this with rfl | rfl | rfl | rfl
      · simp [show j < l.length by omega]
      · simp [show k + 1 < l.length by omega]
      · simp [show k + 2 < l.length by omega]
      · simp [show k + 3 < l.length by omega]
    · rw [List.getElem?_append_right (by simp; omega)]
      simp only [List.length_append, List.length_take, Nat.min_eq_left (show k ≤ l.length by omega), List.length_cons, List.length_nil, List.getElem?_drop]
      simp [show ¬ k + 3 = j by omega, show ¬ k + 2 = j by omega, show ¬ k + 1 = j by omega, show ¬ k = j by omega, show k + 4 + (j - (k + 4)) = j by omega]
theorem mL_splice (s : St) (vp : Value) (h48 : s.rs.length = 48) (k : Nat) (hk : k < 12) (v : V4) : ((mL s vp).toArray.toList.take (k * 4) ++ (Value.agg #[.int .i64 v.c0, .int .i64 v.c1, .int .i64 v.c2, .int .i64 v.c3]).cells.toList ++ (mL s vp).toArray.toList.drop (k * 4 + (Value.agg #[.int .i64 v.c0, .int .i64 v.c1, .int .i64 v.c2, .int .i64 v.c3]).cells.size)).toArray = (mL { s with rs := regPut s.rs k v } vp).toArray := by
  have e := splice4 (mL s vp) (k * 4) (Value.int .i64 v.c0) (Value.int .i64 v.c1) (Value.int .i64 v.c2) (Value.int .i64 v.c3) (by simp [mL, h48]; omega)
  have e2 : (((((mL s vp).set (k * 4) (Value.int .i64 v.c0)).set (k * 4 + 1) (Value.int .i64 v.c1)).set (k * 4 + 2) (Value.int .i64 v.c2)).set (k * 4 + 3) (Value.int .i64 v.c3)) = mL { s with rs := regPut s.rs k v } vp := by
    rw [mL_set s vp _ (by omega), mL_set _ vp _ (by simp [h48]; omega), mL_set _ vp _ (by simp [h48]; omega), mL_set _ vp _ (by simp [h48]; omega)]
    rfl
  rw [e2] at e
  exact congrArg List.toArray e
set_option maxRecDepth 100000 in
set_option maxHeartbeats 4000000 in
theorem step_r5 (f1 f2 f3 f4 f6 f7 f8 f9 f10 f11 f12 f13 f14 f15 f16 f17 f18 f19 f20 f21 f22 f23 f24 f25 f26 f27 f28 f29 f30 f31 f32 f33 f34 f35 f36 f37 f38 f39 f40 f41 f42 f43 f44 f45 f46 f47 f48 f49 f50 f51 f52 f53 f54 f55 f56 f57 f58 f59 f60 f61 f62 f63 f64 f65 f66 f67 f68 f69 f70 f71 f72 f73 f74 f75 f76 : Value) (mb xb kd ka kb : Nat) (op imm : Int) (vp : Value) (s : St) (v : V4) (w : World) (hM : MAt w mb vp s) (hX : Blk w xb #[.int .u8 op, .int .u8 (kd : Int), .int .u8 (ka : Int), .int .u8 (kb : Int), .int .i16 imm] 70) (hkd : kd < 12) (hC : ∀ w1, MAt w1 mb vp s → Calls Try.prog 52 #[.pointer (some ⟨mb, 0, none⟩), .agg #[.int .u8 op, .int .u8 (kd : Int), .int .u8 (ka : Int), .int .u8 (kb : Int), .int .i16 imm]] w1 fun e w2 => e = .returned (.agg #[.int .i64 v.c0, .int .i64 v.c1, .int .i64 v.c2, .int .i64 v.c3]) ∧ Ext w1 w2) {Q : Exit → Act → World → Prop}
    (hQ : ∀ (c27 c28 c29 c30 c31 c32 c33 c34 c35 c36 : Value) (wx : World) , MAt wx mb vp { s with rs := regPut s.rs kd v } ∧ Calm [mb] w wx → Q .normal ⟨(Value.pointer (some ⟨mb, 0, none⟩) :: f1 :: f2 :: f3 :: f4 :: Value.pointer (some ⟨xb, 0, none⟩) :: f6 :: f7 :: f8 :: f9 :: f10 :: f11 :: f12 :: f13 :: f14 :: f15 :: f16 :: f17 :: f18 :: f19 :: f20 :: f21 :: f22 :: f23 :: f24 :: f25 :: f26 :: c27 :: c28 :: c29 :: c30 :: c31 :: c32 :: c33 :: c34 :: c35 :: c36 :: f37 :: f38 :: f39 :: f40 :: f41 :: f42 :: f43 :: f44 :: f45 :: f46 :: f47 :: f48 :: f49 :: f50 :: f51 :: f52 :: f53 :: f54 :: f55 :: f56 :: f57 :: f58 :: f59 :: f60 :: f61 :: f62 :: f63 :: f64 :: f65 :: f66 :: f67 :: f68 :: f69 :: f70 :: f71 :: f72 :: f73 :: f74 :: f75 :: f76 :: List.nil).toArray, []⟩ wx) : Code.wp Try.prog (regionOf Try.f41 5) Q ⟨(Value.pointer (some ⟨mb, 0, none⟩) :: f1 :: f2 :: f3 :: f4 :: Value.pointer (some ⟨xb, 0, none⟩) :: f6 :: f7 :: f8 :: f9 :: f10 :: f11 :: f12 :: f13 :: f14 :: f15 :: f16 :: f17 :: f18 :: f19 :: f20 :: f21 :: f22 :: f23 :: f24 :: f25 :: f26 :: f27 :: f28 :: f29 :: f30 :: f31 :: f32 :: f33 :: f34 :: f35 :: f36 :: f37 :: f38 :: f39 :: f40 :: f41 :: f42 :: f43 :: f44 :: f45 :: f46 :: f47 :: f48 :: f49 :: f50 :: f51 :: f52 :: f53 :: f54 :: f55 :: f56 :: f57 :: f58 :: f59 :: f60 :: f61 :: f62 :: f63 :: f64 :: f65 :: f66 :: f67 :: f68 :: f69 :: f70 :: f71 :: f72 :: f73 :: f74 :: f75 :: f76 :: List.nil).toArray, []⟩ w := by
  have HQ := Lib.hid hQ
  clear hQ
  change Code.wp Try.prog (Code.region _ _ true) _ _ _
  apply wp_region_vars_early 6 [false, false, false, false, false, false, false, false, false, false, true] [mb] [⟨none, 0, mb, some 10, 84, (mL s vp).toArray, (mL { s with rs := regPut s.rs kd v } vp).toArray⟩] _ (by kernel_rfl) (by kernel_rfl) (by kernel_rfl) (by kernel_rfl) (by kernel_rfl)
  case H =>
    intro x hx
    have hne : Nonempty (Wx x) := ⟨⟨x, Ext.refl x⟩⟩
    have qX := fun (y : Wx x) => (hX.ext (hx.trans y.ext)).cell
    have qM := fun (y : Wx x) => hM.ext (hx.trans y.ext)
    simp only [eraseM]
    repeat (go_big_quiet_step (first | (go_at_call 52; exact calm_of (hC _ (qM _)))))
    exact wpQuiet_nil rfl
  case hok =>
    simp only [List.forall_mem_cons, List.not_mem_nil, false_implies, implies_true, and_true]
    exact tgt_mine (v := .agg #[.int .i64 v.c0, .int .i64 v.c1, .int .i64 v.c2, .int .i64 v.c3]) (off := kd * 4) (by simp) hM.1 rfl rfl rfl rfl rfl rfl (by kernel_rfl) (by kernel_rfl) (by simp [Value.cells, mL, hM.2]; omega) (mL_splice s vp hM.2 kd hkd v)
  case hdis =>
    intro k k' t t' hk hk' hkk ha ha'
    exfalso
    have h1 : k < 1 := (List.getElem?_eq_some_iff.1 hk).1
    have h2 : k' < 1 := (List.getElem?_eq_some_iff.1 hk').1
    omega
  rintro w2 f hw ⟨k0, l0, d0, u0, -⟩
  have e0 : f 0 = mb := k0
  rw [e0] at d0
  exact HQ.out _ _ _ _ _ _ _ _ _ _ w2 ⟨⟨d0, by simpa [regPut] using hM.2⟩, hw⟩
set_option maxRecDepth 100000 in
set_option maxHeartbeats 2000000 in
theorem step_end (w : World) (mb : Nat) (vp : Value) (s : St) (p : List In) (hP : PArr w vp p) (hM : MAt w mb vp s) (h0 : 0 ≤ s.steps) (h1 : s.steps ≤ 1000000000) (i : Nat) (hi : i ≤ 1000) (imm : Int) (kd ka kb : Nat) (hx : p[i]? = some ⟨0, kd, ka, kb, imm⟩) (hka : ka < 12)  :
    Calls Try.prog 41 #[.pointer (some ⟨mb, 0, none⟩), .int .i64 (i : Int)] w fun e w' => e = .returned (.int .i64 ((i : Int) + 1)) ∧ MAt w' mb vp (exec ⟨0, kd, ka, kb, imm⟩ s) ∧ Calm [mb] w w' := by
  obtain ⟨ao, c, rfl, -, -⟩ := hP.slice
  obtain ⟨g, off, y, rfl, -, hy, c0, c1, c2, c3, c4⟩ := hP.nth i (List.getElem?_eq_some_iff.1 hx).1
  have hil : (i : Int) < (p.length : Int) := by have := (List.getElem?_eq_some_iff.1 hx).1; omega
  rw [hx] at hy
  cases hy
  simp only at c0 c1 c2 c3 c4
  have c5 := hM.prog
  have c6 := hM.steps
  have f6 := hM.thaw 49
  have hw1 : IntKind.i64.wrap ((i : Int) + 1) = (i : Int) + 1 := by rw [IntKind.wrap_i64]; omega
  have hw2 : IntKind.i64.wrap (s.steps + 1) = s.steps + 1 := by rw [IntKind.wrap_i64]; omega
  have hlt := hM.lt
  have hne : mb ≠ w.heap.size := by omega
  have X1 := Blk.new (w.setCell ⟨mb, 49, none⟩ (.int .i64 (s.steps + 1))) #[.int .u8 0, .int .u8 (kd : Int), .int .u8 (ka : Int), .int .u8 (kb : Int), .int .i16 imm] 70
  have zw : (w.setCell ⟨mb, 49, none⟩ (.int .i64 (s.steps + 1))).heap.size = w.heap.size := by simp
  rw [zw] at X1
  have M1 : MAt _ mb _ s.tick := (hM.setSteps (s.steps + 1)).ext ((Ext.refl _).alloc #[.int .u8 0, .int .u8 (kd : Int), .int .u8 (ka : Int), .int .u8 (kb : Int), .int .i16 imm] 70)
  have K1 := (calm_setP w mb 49 (.int .i64 (s.steps + 1))).trans (((Ext.refl _).alloc #[.int .u8 0, .int .u8 (kd : Int), .int .u8 (ka : Int), .int .u8 (kb : Int), .int .i16 imm] 70).calm [mb])
  have HX := Lib.hid X1
  have HM := Lib.hid M1
  have HK := Lib.hid K1
  clear X1 M1 K1 hx hP hM zw
  go_enter Try.func41, Try.ntmps41
  go_upto_region 4 with fail
  generalize ((w.setCell ⟨mb, 49, none⟩ (.int .i64 (s.steps + 1))).alloc (.cells #[.int .u8 0, .int .u8 (kd : Int), .int .u8 (ka : Int), .int .u8 (kb : Int), .int .i16 imm] 70)) = w1 at *
  have cX := HX.out.cell
  have M1 := HM.out
  clear c0 c1 c2 c3 c4 c5 c6 f6 hw2
  have cO := M1.over
  have fO := M1.thaw 51
  have HM2 := Lib.hid (M1.setOver true)
  clear M1
  go_wp2
  go_ret
  exact ⟨rfl, HM2.out, HK.out.trans (calm_setP _ mb 51 _)⟩
set_option maxRecDepth 100000 in
set_option maxHeartbeats 2000000 in
theorem step_goes (w : World) (mb : Nat) (vp : Value) (s : St) (p : List In) (hP : PArr w vp p) (hM : MAt w mb vp s) (h0 : 0 ≤ s.steps) (h1 : s.steps ≤ 1000000000) (i : Nat) (hi : i ≤ 1000) (imm : Int) (kd ka kb : Nat) (hx : p[i]? = some ⟨13, kd, ka, kb, imm⟩) (hka : ka < 12) (hn : (regAt s.rs ka).c0 < 0) :
    Calls Try.prog 41 #[.pointer (some ⟨mb, 0, none⟩), .int .i64 (i : Int)] w fun e w' => e = .returned (.int .i64 ((i : Int) + 1)) ∧ MAt w' mb vp (exec ⟨13, kd, ka, kb, imm⟩ s) ∧ Calm [mb] w w' := by
  rw [show exec ⟨13, kd, ka, kb, imm⟩ s = { s.tick with gone := true, over := true } by unfold exec; simp [hn]]
  obtain ⟨ao, c, rfl, -, -⟩ := hP.slice
  obtain ⟨g, off, y, rfl, -, hy, c0, c1, c2, c3, c4⟩ := hP.nth i (List.getElem?_eq_some_iff.1 hx).1
  have hil : (i : Int) < (p.length : Int) := by have := (List.getElem?_eq_some_iff.1 hx).1; omega
  rw [hx] at hy
  cases hy
  simp only at c0 c1 c2 c3 c4
  have c5 := hM.prog
  have c6 := hM.steps
  have f6 := hM.thaw 49
  have hw1 : IntKind.i64.wrap ((i : Int) + 1) = (i : Int) + 1 := by rw [IntKind.wrap_i64]; omega
  have hw2 : IntKind.i64.wrap (s.steps + 1) = s.steps + 1 := by rw [IntKind.wrap_i64]; omega
  have hlt := hM.lt
  have hne : mb ≠ w.heap.size := by omega
  have X1 := Blk.new (w.setCell ⟨mb, 49, none⟩ (.int .i64 (s.steps + 1))) #[.int .u8 13, .int .u8 (kd : Int), .int .u8 (ka : Int), .int .u8 (kb : Int), .int .i16 imm] 70
  have zw : (w.setCell ⟨mb, 49, none⟩ (.int .i64 (s.steps + 1))).heap.size = w.heap.size := by simp
  rw [zw] at X1
  have M1 : MAt _ mb _ s.tick := (hM.setSteps (s.steps + 1)).ext ((Ext.refl _).alloc #[.int .u8 13, .int .u8 (kd : Int), .int .u8 (ka : Int), .int .u8 (kb : Int), .int .i16 imm] 70)
  have K1 := (calm_setP w mb 49 (.int .i64 (s.steps + 1))).trans (((Ext.refl _).alloc #[.int .u8 13, .int .u8 (kd : Int), .int .u8 (ka : Int), .int .u8 (kb : Int), .int .i16 imm] 70).calm [mb])
  have HX := Lib.hid X1
  have HM := Lib.hid M1
  have HK := Lib.hid K1
  clear X1 M1 K1 hx hP hM zw
  have HN : Hid (decide ((regAt s.rs (ka : Int).toNat).c0 < 0) = true) := Lib.hid (by simpa using hn)
  clear hn
  go_enter Try.func41, Try.ntmps41
  go_upto_region 4 with fail
  generalize ((w.setCell ⟨mb, 49, none⟩ (.int .i64 (s.steps + 1))).alloc (.cells #[.int .u8 13, .int .u8 (kd : Int), .int .u8 (ka : Int), .int .u8 (kb : Int), .int .i16 imm] 70)) = w1 at *
  have cX := HX.out.cell
  have M1 := HM.out
  clear c0 c1 c2 c3 c4 c5 c6 f6 hw2
  go_wp2_with fail
  refine (negative_any w1 mb _ s.tick HM.out ka (by omega)).mono ?_
  rintro e w2 ⟨rfl, rfl⟩
  have hng : decide ((regAt s.tick.rs (ka : Int).toNat).c0 < 0) = true := HN.out
  rw [hng]
  clear hng
  have cG := M1.gone
  have fG := M1.thaw 48
  have M2 := M1.setGone true
  have cO := M2.over
  have fO := M2.thaw 51
  have cG2 := M2.gone
  have HM3 := Lib.hid (M2.setOver true)
  clear M1 M2
  go_wp2
  go_ret
  exact ⟨rfl, HM3.out, (HK.out.trans (calm_setP _ mb 48 _)).trans (calm_setP _ mb 51 _)⟩
set_option maxRecDepth 100000 in
set_option maxHeartbeats 2000000 in
theorem step_stays (w : World) (mb : Nat) (vp : Value) (s : St) (p : List In) (hP : PArr w vp p) (hM : MAt w mb vp s) (h0 : 0 ≤ s.steps) (h1 : s.steps ≤ 1000000000) (i : Nat) (hi : i ≤ 1000) (imm : Int) (kd ka kb : Nat) (hx : p[i]? = some ⟨13, kd, ka, kb, imm⟩) (hka : ka < 12) (hn : ¬ (regAt s.rs ka).c0 < 0) (hg : s.gone = false) (hv : s.over = false) :
    Calls Try.prog 41 #[.pointer (some ⟨mb, 0, none⟩), .int .i64 (i : Int)] w fun e w' => e = .returned (.int .i64 ((i : Int) + 1)) ∧ MAt w' mb vp s.tick ∧ Calm [mb] w w' := by
  obtain ⟨ao, c, rfl, -, -⟩ := hP.slice
  obtain ⟨g, off, y, rfl, -, hy, c0, c1, c2, c3, c4⟩ := hP.nth i (List.getElem?_eq_some_iff.1 hx).1
  have hil : (i : Int) < (p.length : Int) := by have := (List.getElem?_eq_some_iff.1 hx).1; omega
  rw [hx] at hy
  cases hy
  simp only at c0 c1 c2 c3 c4
  have c5 := hM.prog
  have c6 := hM.steps
  have f6 := hM.thaw 49
  have hw1 : IntKind.i64.wrap ((i : Int) + 1) = (i : Int) + 1 := by rw [IntKind.wrap_i64]; omega
  have hw2 : IntKind.i64.wrap (s.steps + 1) = s.steps + 1 := by rw [IntKind.wrap_i64]; omega
  have hlt := hM.lt
  have hne : mb ≠ w.heap.size := by omega
  have X1 := Blk.new (w.setCell ⟨mb, 49, none⟩ (.int .i64 (s.steps + 1))) #[.int .u8 13, .int .u8 (kd : Int), .int .u8 (ka : Int), .int .u8 (kb : Int), .int .i16 imm] 70
  have zw : (w.setCell ⟨mb, 49, none⟩ (.int .i64 (s.steps + 1))).heap.size = w.heap.size := by simp
  rw [zw] at X1
  have M1 : MAt _ mb _ s.tick := (hM.setSteps (s.steps + 1)).ext ((Ext.refl _).alloc #[.int .u8 13, .int .u8 (kd : Int), .int .u8 (ka : Int), .int .u8 (kb : Int), .int .i16 imm] 70)
  have K1 := (calm_setP w mb 49 (.int .i64 (s.steps + 1))).trans (((Ext.refl _).alloc #[.int .u8 13, .int .u8 (kd : Int), .int .u8 (ka : Int), .int .u8 (kb : Int), .int .i16 imm] 70).calm [mb])
  have HX := Lib.hid X1
  have HM := Lib.hid M1
  have HK := Lib.hid K1
  clear X1 M1 K1 hx hP hM zw
  have HN : Hid (decide ((regAt s.rs (ka : Int).toNat).c0 < 0) = false) := Lib.hid (by simpa using hn)
  clear hn
  have HG := Lib.hid hg
  have HV := Lib.hid hv
  clear hg hv
  go_enter Try.func41, Try.ntmps41
  go_upto_region 4 with fail
  generalize ((w.setCell ⟨mb, 49, none⟩ (.int .i64 (s.steps + 1))).alloc (.cells #[.int .u8 13, .int .u8 (kd : Int), .int .u8 (ka : Int), .int .u8 (kb : Int), .int .i16 imm] 70)) = w1 at *
  have cX := HX.out.cell
  have M1 := HM.out
  clear c0 c1 c2 c3 c4 c5 c6 f6 hw2
  go_wp2_with fail
  refine (negative_any w1 mb _ s.tick HM.out ka (by omega)).mono ?_
  rintro e w2 ⟨rfl, rfl⟩
  have hng : decide ((regAt s.tick.rs (ka : Int).toNat).c0 < 0) = false := HN.out
  rw [hng]
  clear hng
  have cG := M1.gone
  have fG := M1.thaw 48
  have M2 := M1.setGone false
  have cO := M2.over
  have fO := M2.thaw 51
  have cG2 := M2.gone
  have M3 := M2.setOver false
  have e3 : ({ { s.tick with gone := false } with over := false } : St) = s.tick := by
    have h1 := HG.out
    have h2 := HV.out
    cases s
    simp only [St.tick] at *
    subst h1 h2
    rfl
  rw [e3] at M3
  have HM3 := Lib.hid M3
  clear M1 M2 M3 e3
  go_wp2
  go_ret
  exact ⟨rfl, HM3.out, (HK.out.trans (calm_setP _ mb 48 _)).trans (calm_setP _ mb 51 _)⟩
set_option maxRecDepth 100000 in
set_option maxHeartbeats 2000000 in
theorem step_skips (w : World) (mb : Nat) (vp : Value) (s : St) (p : List In) (hP : PArr w vp p) (hM : MAt w mb vp s) (h0 : 0 ≤ s.steps) (h1 : s.steps ≤ 1000000000) (i : Nat) (hi : i ≤ 1000) (imm : Int) (kd ka kb : Nat) (hx : p[i]? = some ⟨11, kd, ka, kb, imm⟩) (hka : ka < 12) (hn : (regAt s.rs ka).c0 < 0) (him : 1 ≤ imm ∧ imm ≤ 32767) :
    Calls Try.prog 41 #[.pointer (some ⟨mb, 0, none⟩), .int .i64 (i : Int)] w fun e w' => e = .returned (.int .i64 ((i : Int) + 1 + imm)) ∧ MAt w' mb vp s.tick ∧ Calm [mb] w w' := by
  obtain ⟨ao, c, rfl, -, -⟩ := hP.slice
  obtain ⟨g, off, y, rfl, -, hy, c0, c1, c2, c3, c4⟩ := hP.nth i (List.getElem?_eq_some_iff.1 hx).1
  have hil : (i : Int) < (p.length : Int) := by have := (List.getElem?_eq_some_iff.1 hx).1; omega
  rw [hx] at hy
  cases hy
  simp only at c0 c1 c2 c3 c4
  have c5 := hM.prog
  have c6 := hM.steps
  have f6 := hM.thaw 49
  have hw1 : IntKind.i64.wrap ((i : Int) + 1) = (i : Int) + 1 := by rw [IntKind.wrap_i64]; omega
  have hw2 : IntKind.i64.wrap (s.steps + 1) = s.steps + 1 := by rw [IntKind.wrap_i64]; omega
  have hlt := hM.lt
  have hne : mb ≠ w.heap.size := by omega
  have X1 := Blk.new (w.setCell ⟨mb, 49, none⟩ (.int .i64 (s.steps + 1))) #[.int .u8 11, .int .u8 (kd : Int), .int .u8 (ka : Int), .int .u8 (kb : Int), .int .i16 imm] 70
  have zw : (w.setCell ⟨mb, 49, none⟩ (.int .i64 (s.steps + 1))).heap.size = w.heap.size := by simp
  rw [zw] at X1
  have M1 : MAt _ mb _ s.tick := (hM.setSteps (s.steps + 1)).ext ((Ext.refl _).alloc #[.int .u8 11, .int .u8 (kd : Int), .int .u8 (ka : Int), .int .u8 (kb : Int), .int .i16 imm] 70)
  have K1 := (calm_setP w mb 49 (.int .i64 (s.steps + 1))).trans (((Ext.refl _).alloc #[.int .u8 11, .int .u8 (kd : Int), .int .u8 (ka : Int), .int .u8 (kb : Int), .int .i16 imm] 70).calm [mb])
  have HX := Lib.hid X1
  have HM := Lib.hid M1
  have HK := Lib.hid K1
  clear X1 M1 K1 hx hP hM zw
  have HN : Hid (decide ((regAt s.rs (ka : Int).toNat).c0 < 0) = true) := Lib.hid (by simpa using hn)
  clear hn
  go_enter Try.func41, Try.ntmps41
  go_upto_region 4 with fail
  generalize ((w.setCell ⟨mb, 49, none⟩ (.int .i64 (s.steps + 1))).alloc (.cells #[.int .u8 11, .int .u8 (kd : Int), .int .u8 (ka : Int), .int .u8 (kb : Int), .int .i16 imm] 70)) = w1 at *
  have cX := HX.out.cell
  have M1 := HM.out
  clear c0 c1 c2 c3 c4 c5 c6 f6 hw2
  go_wp2_with fail
  refine (negative_any w1 mb _ s.tick HM.out ka (by omega)).mono ?_
  rintro e w2 ⟨rfl, rfl⟩
  have hng : decide ((regAt s.tick.rs (ka : Int).toNat).c0 < 0) = true := HN.out
  rw [hng]
  clear hng
  have hw3 : IntKind.i64.wrap imm = imm := by rw [IntKind.wrap_i64]; omega
  have hw4 : IntKind.i64.wrap ((i : Int) + 1 + imm) = (i : Int) + 1 + imm := by rw [IntKind.wrap_i64]; omega
  go_wp2
  go_ret
  exact ⟨rfl, HM.out, HK.out⟩
set_option maxRecDepth 100000 in
set_option maxHeartbeats 2000000 in
theorem step_walks (w : World) (mb : Nat) (vp : Value) (s : St) (p : List In) (hP : PArr w vp p) (hM : MAt w mb vp s) (h0 : 0 ≤ s.steps) (h1 : s.steps ≤ 1000000000) (i : Nat) (hi : i ≤ 1000) (imm : Int) (kd ka kb : Nat) (hx : p[i]? = some ⟨11, kd, ka, kb, imm⟩) (hka : ka < 12) (hn : ¬ (regAt s.rs ka).c0 < 0) :
    Calls Try.prog 41 #[.pointer (some ⟨mb, 0, none⟩), .int .i64 (i : Int)] w fun e w' => e = .returned (.int .i64 ((i : Int) + 1)) ∧ MAt w' mb vp s.tick ∧ Calm [mb] w w' := by
  obtain ⟨ao, c, rfl, -, -⟩ := hP.slice
  obtain ⟨g, off, y, rfl, -, hy, c0, c1, c2, c3, c4⟩ := hP.nth i (List.getElem?_eq_some_iff.1 hx).1
  have hil : (i : Int) < (p.length : Int) := by have := (List.getElem?_eq_some_iff.1 hx).1; omega
  rw [hx] at hy
  cases hy
  simp only at c0 c1 c2 c3 c4
  have c5 := hM.prog
  have c6 := hM.steps
  have f6 := hM.thaw 49
  have hw1 : IntKind.i64.wrap ((i : Int) + 1) = (i : Int) + 1 := by rw [IntKind.wrap_i64]; omega
  have hw2 : IntKind.i64.wrap (s.steps + 1) = s.steps + 1 := by rw [IntKind.wrap_i64]; omega
  have hlt := hM.lt
  have hne : mb ≠ w.heap.size := by omega
  have X1 := Blk.new (w.setCell ⟨mb, 49, none⟩ (.int .i64 (s.steps + 1))) #[.int .u8 11, .int .u8 (kd : Int), .int .u8 (ka : Int), .int .u8 (kb : Int), .int .i16 imm] 70
  have zw : (w.setCell ⟨mb, 49, none⟩ (.int .i64 (s.steps + 1))).heap.size = w.heap.size := by simp
  rw [zw] at X1
  have M1 : MAt _ mb _ s.tick := (hM.setSteps (s.steps + 1)).ext ((Ext.refl _).alloc #[.int .u8 11, .int .u8 (kd : Int), .int .u8 (ka : Int), .int .u8 (kb : Int), .int .i16 imm] 70)
  have K1 := (calm_setP w mb 49 (.int .i64 (s.steps + 1))).trans (((Ext.refl _).alloc #[.int .u8 11, .int .u8 (kd : Int), .int .u8 (ka : Int), .int .u8 (kb : Int), .int .i16 imm] 70).calm [mb])
  have HX := Lib.hid X1
  have HM := Lib.hid M1
  have HK := Lib.hid K1
  clear X1 M1 K1 hx hP hM zw
  have HN : Hid (decide ((regAt s.rs (ka : Int).toNat).c0 < 0) = false) := Lib.hid (by simpa using hn)
  clear hn
  go_enter Try.func41, Try.ntmps41
  go_upto_region 4 with fail
  generalize ((w.setCell ⟨mb, 49, none⟩ (.int .i64 (s.steps + 1))).alloc (.cells #[.int .u8 11, .int .u8 (kd : Int), .int .u8 (ka : Int), .int .u8 (kb : Int), .int .i16 imm] 70)) = w1 at *
  have cX := HX.out.cell
  have M1 := HM.out
  clear c0 c1 c2 c3 c4 c5 c6 f6 hw2
  go_wp2_with fail
  refine (negative_any w1 mb _ s.tick HM.out ka (by omega)).mono ?_
  rintro e w2 ⟨rfl, rfl⟩
  have hng : decide ((regAt s.tick.rs (ka : Int).toNat).c0 < 0) = false := HN.out
  rw [hng]
  clear hng
  go_wp2
  go_ret
  exact ⟨rfl, HM.out, HK.out⟩
set_option maxRecDepth 100000 in
set_option maxHeartbeats 2000000 in
theorem step_loops (w : World) (mb : Nat) (vp : Value) (s : St) (p : List In) (hP : PArr w vp p) (hM : MAt w mb vp s) (h0 : 0 ≤ s.steps) (h1 : s.steps ≤ 1000000000) (i : Nat) (hi : i ≤ 1000) (imm : Int) (kd ka kb : Nat) (hx : p[i]? = some ⟨12, kd, ka, kb, imm⟩) (hka : ka < 12) (r : Int) (s2 : St) (hC : ∀ w1, MAt w1 mb vp s.tick → Calm [mb] w w1 → Calls Try.prog 51 #[.pointer (some ⟨mb, 0, none⟩), .int .i64 (i : Int)] w1 fun e w2 => e = .returned (.int .i64 r) ∧ MAt w2 mb vp s2 ∧ Calm [mb] w1 w2) :
    Calls Try.prog 41 #[.pointer (some ⟨mb, 0, none⟩), .int .i64 (i : Int)] w fun e w' => e = .returned (.int .i64 r) ∧ MAt w' mb vp s2 ∧ Calm [mb] w w' := by
  obtain ⟨ao, c, rfl, -, -⟩ := hP.slice
  obtain ⟨g, off, y, rfl, -, hy, c0, c1, c2, c3, c4⟩ := hP.nth i (List.getElem?_eq_some_iff.1 hx).1
  have hil : (i : Int) < (p.length : Int) := by have := (List.getElem?_eq_some_iff.1 hx).1; omega
  rw [hx] at hy
  cases hy
  simp only at c0 c1 c2 c3 c4
  have c5 := hM.prog
  have c6 := hM.steps
  have f6 := hM.thaw 49
  have hw1 : IntKind.i64.wrap ((i : Int) + 1) = (i : Int) + 1 := by rw [IntKind.wrap_i64]; omega
  have hw2 : IntKind.i64.wrap (s.steps + 1) = s.steps + 1 := by rw [IntKind.wrap_i64]; omega
  have hlt := hM.lt
  have hne : mb ≠ w.heap.size := by omega
  have X1 := Blk.new (w.setCell ⟨mb, 49, none⟩ (.int .i64 (s.steps + 1))) #[.int .u8 12, .int .u8 (kd : Int), .int .u8 (ka : Int), .int .u8 (kb : Int), .int .i16 imm] 70
  have zw : (w.setCell ⟨mb, 49, none⟩ (.int .i64 (s.steps + 1))).heap.size = w.heap.size := by simp
  rw [zw] at X1
  have M1 : MAt _ mb _ s.tick := (hM.setSteps (s.steps + 1)).ext ((Ext.refl _).alloc #[.int .u8 12, .int .u8 (kd : Int), .int .u8 (ka : Int), .int .u8 (kb : Int), .int .i16 imm] 70)
  have K1 := (calm_setP w mb 49 (.int .i64 (s.steps + 1))).trans (((Ext.refl _).alloc #[.int .u8 12, .int .u8 (kd : Int), .int .u8 (ka : Int), .int .u8 (kb : Int), .int .i16 imm] 70).calm [mb])
  have HX := Lib.hid X1
  have HM := Lib.hid M1
  have HK := Lib.hid K1
  clear X1 M1 K1 hx hP hM zw
  have HC := Lib.hid hC
  clear hC
  go_enter Try.func41, Try.ntmps41
  go_upto_region 4 with fail
  generalize ((w.setCell ⟨mb, 49, none⟩ (.int .i64 (s.steps + 1))).alloc (.cells #[.int .u8 12, .int .u8 (kd : Int), .int .u8 (ka : Int), .int .u8 (kb : Int), .int .i16 imm] 70)) = w1 at *
  have cX := HX.out.cell
  have M1 := HM.out
  clear c0 c1 c2 c3 c4 c5 c6 f6 hw2
  go_wp2_with fail
  refine (HC.out w1 HM.out HK.out).mono ?_
  rintro e w2 ⟨rfl, M2, K2⟩
  go_wp2
  go_ret
  exact ⟨rfl, M2, HK.out.trans K2⟩
set_option maxRecDepth 100000 in
set_option maxHeartbeats 2000000 in
theorem step_sets (w : World) (mb : Nat) (vp : Value) (s : St) (p : List In) (hP : PArr w vp p) (hM : MAt w mb vp s) (h0 : 0 ≤ s.steps) (h1 : s.steps ≤ 1000000000) (i : Nat) (hi : i ≤ 1000) (op imm : Int) (kd ka kb : Nat) (hx : p[i]? = some ⟨op, kd, ka, kb, imm⟩) (hka : ka < 12) (hkd : kd < 12) (ho : op ≠ 0 ∧ op ≠ 11 ∧ op ≠ 12 ∧ op ≠ 13) (v : V4) (hC : ∀ w1, MAt w1 mb vp s.tick → Calls Try.prog 52 #[.pointer (some ⟨mb, 0, none⟩), .agg #[.int .u8 op, .int .u8 (kd : Int), .int .u8 (ka : Int), .int .u8 (kb : Int), .int .i16 imm]] w1 fun e w2 => e = .returned (.agg #[.int .i64 v.c0, .int .i64 v.c1, .int .i64 v.c2, .int .i64 v.c3]) ∧ Ext w1 w2) :
    Calls Try.prog 41 #[.pointer (some ⟨mb, 0, none⟩), .int .i64 (i : Int)] w fun e w' => e = .returned (.int .i64 ((i : Int) + 1)) ∧ MAt w' mb vp { s.tick with rs := regPut s.rs kd v } ∧ Calm [mb] w w' := by
  obtain ⟨ao, c, rfl, -, -⟩ := hP.slice
  obtain ⟨g, off, y, rfl, -, hy, c0, c1, c2, c3, c4⟩ := hP.nth i (List.getElem?_eq_some_iff.1 hx).1
  have hil : (i : Int) < (p.length : Int) := by have := (List.getElem?_eq_some_iff.1 hx).1; omega
  rw [hx] at hy
  cases hy
  simp only at c0 c1 c2 c3 c4
  have c5 := hM.prog
  have c6 := hM.steps
  have f6 := hM.thaw 49
  have hw1 : IntKind.i64.wrap ((i : Int) + 1) = (i : Int) + 1 := by rw [IntKind.wrap_i64]; omega
  have hw2 : IntKind.i64.wrap (s.steps + 1) = s.steps + 1 := by rw [IntKind.wrap_i64]; omega
  have hlt := hM.lt
  have hne : mb ≠ w.heap.size := by omega
  have X1 := Blk.new (w.setCell ⟨mb, 49, none⟩ (.int .i64 (s.steps + 1))) #[.int .u8 op, .int .u8 (kd : Int), .int .u8 (ka : Int), .int .u8 (kb : Int), .int .i16 imm] 70
  have zw : (w.setCell ⟨mb, 49, none⟩ (.int .i64 (s.steps + 1))).heap.size = w.heap.size := by simp
  rw [zw] at X1
  have M1 : MAt _ mb _ s.tick := (hM.setSteps (s.steps + 1)).ext ((Ext.refl _).alloc #[.int .u8 op, .int .u8 (kd : Int), .int .u8 (ka : Int), .int .u8 (kb : Int), .int .i16 imm] 70)
  have K1 := (calm_setP w mb 49 (.int .i64 (s.steps + 1))).trans (((Ext.refl _).alloc #[.int .u8 op, .int .u8 (kd : Int), .int .u8 (ka : Int), .int .u8 (kb : Int), .int .i16 imm] 70).calm [mb])
  have HX := Lib.hid X1
  have HM := Lib.hid M1
  have HK := Lib.hid K1
  clear X1 M1 K1 hx hP hM zw
  have HC := Lib.hid hC
  clear hC
  obtain ⟨o1, o2, o3, o4⟩ := ho
  have p1 : (op == 0) = false := by simpa using o1
  have p2 : (op == 11) = false := by simpa using o2
  have p3 : (op == 12) = false := by simpa using o3
  have p4 : (op == 13) = false := by simpa using o4
  clear o1 o2 o3 o4
  go_enter Try.func41, Try.ntmps41
  go_upto_region 4 with fail
  generalize ((w.setCell ⟨mb, 49, none⟩ (.int .i64 (s.steps + 1))).alloc (.cells #[.int .u8 op, .int .u8 (kd : Int), .int .u8 (ka : Int), .int .u8 (kb : Int), .int .i16 imm] 70)) = w1 at *
  have cX := HX.out.cell
  have M1 := HM.out
  clear c0 c1 c2 c3 c4 c5 c6 f6 hw2
  go_wp2_with fail
  refine step_r5 _ _ _ _ _ _ _ _ _ _ _ _ _ _ _ _ _ _ _ _ _ _ _ _ _ _ _ _ _ _ _ _ _ _ _ _ _ _ _ _ _ _ _ _ _ _ _ _ _ _ _ _ _ _ _ _ _ _ _ _ _ _ _ _ _ _ _ _ _ _ _ _ _ _ _ mb w.heap.size kd ka kb op imm _ s.tick v w1 HM.out HX.out hkd HC.out ?_
  rintro g0 g1 g2 g3 g4 g5 g6 g7 g8 g9 w2 ⟨M2, K2⟩
  go_wp2
  go_ret
  exact ⟨rfl, M2, HK.out.trans K2⟩
end Go.Proofs.Ytellfhnfifgpoaa

namespace Go.Proofs.Ytellfhnfifgpoaa
open Go.RowKit
set_option linter.unusedVariables false

/-- discarded only if ended -/
def GO (s : St) : Prop := s.over = false → s.gone = false
theorem GO.tick {s : St} (h : GO s) : GO s.tick := h
theorem exec_go {x : In} {s : St} (h : GO s) : GO (exec x s) := by
  unfold exec
  split
  · intro e; cases e
  · split
    · intro e; cases e
    · split
      · exact h
      · exact h
theorem run_go (p : List In) (i tp : Nat) {s : St} (h : GO s) : GO (run p i tp s) := run_keep (P := GO) (fun t ht => ht) (fun x _ t ht => exec_go ht) _ _ _ s h
/-- what a call of execute comes to -/
def ExC (vp : Value) (mb : Nat) (p : List In) (i tp : Nat) : Prop := ∀ (s : St) (w : World), PArr w vp p → MAt w mb vp s → RB s.rs → GO s → 0 ≤ s.steps → (run p i tp s).steps ≤ 1000000000 →
  Calls Try.prog 29 #[.pointer (some ⟨mb, 0, none⟩), .int .i64 (i : Int), .int .i64 (tp : Int)] w fun e w' => e = .returned (.tuple #[]) ∧ MAt w' mb vp (run p i tp s) ∧ Calm [mb] w w'
theorem body_nat (w : World) (v : Value) (xs : List In) (h : PArr w v xs) (hok : ∀ x ∈ xs, x.ok) (hl : xs.length ≤ 1000000) (k kb fr tp : Nat) (d a n : Int) (hx : xs[k]? = some ⟨12, d, a, kb, n⟩) (hfr : (k : Int) + 1 = fr) (htp : (k : Int) + 1 + kb = tp) : Calls Try.prog 53 #[v, .int .i64 k] w fun e w' => e = .returned (.tuple #[.int .i64 (fr : Int), .int .i64 (tp : Int), .bool true]) ∧ Qt w w' := by
  have := body_yes w v xs h hok hl k _ hx rfl
  simp only [htp] at this
  rw [hfr] at this
  exact this
set_option maxRecDepth 100000 in
set_option maxHeartbeats 2000000 in
theorem loop_any (w : World) (mb : Nat) (vp : Value) (t : St) (p : List In) (hP : PArr w vp p) (hof : Off mb vp p) (hM : MAt w mb vp t) (hok : ∀ x ∈ p, x.ok) (hlen : p.length ≤ 1000) (hrb : RB t.rs) (hgo : GO t) (h0 : 0 ≤ t.steps) (j kb n fr tp : Nat) (d a : Int) (hx : p[j]? = some ⟨12, d, a, kb, n⟩) (hn : 1 ≤ n) (hfr : (j : Int) + 1 = fr) (htp : (j : Int) + 1 + kb = tp)
    (hB : ExC vp mb p fr tp) (hst : (iter (run p fr tp) n t).steps ≤ 1000000000) :
    Calls Try.prog 51 #[.pointer (some ⟨mb, 0, none⟩), .int .i64 (j : Int)] w fun e w' => e = .returned (.int .i64 (tp : Int)) ∧ MAt w' mb vp (iter (run p fr tp) n t) ∧ Calm [mb] w w' := by
  have hxo := hok _ (List.mem_of_getElem? hx)
  have hbb := hxo.2.2.2.1
  have hib := hxo.2.2.2.2
  simp only at hbb hib
  have hjl : j < p.length := (List.getElem?_eq_some_iff.1 hx).1
  have hjI : (j : Int) < (p.length : Int) := by omega
  obtain ⟨ao, c, rfl, -, -⟩ := hP.slice
  obtain ⟨g, off, y, rfl, -, hy, c0, c1, c2, c3, c4⟩ := hP.nth j hjl
  rw [hx] at hy
  cases hy
  simp only at c4
  have c5 := hM.prog
  have HP := Lib.hid hP
  have HM := Lib.hid hM
  have HOF := Lib.hid hof
  have HRB := Lib.hid hrb
  have HGO := Lib.hid hgo
  have HB := Lib.hid hB
  have HST := Lib.hid hst
  have HX := Lib.hid hx
  have HOK := Lib.hid hok
  have Hfr := Lib.hid hfr
  have Htp := Lib.hid htp
  clear hfr htp hP hM hof hrb hgo hB hst hx hok c0 c1 c2 c3 hxo
  go_enter Try.func51, Try.ntmps51
  go_wp2_with fail
  refine (body_nat w _ p HP.out HOK.out (by omega) j kb fr tp _ _ _ HX.out Hfr.out Htp.out).mono ?_
  rintro e w1 ⟨rfl, q1⟩
  have x1 := (Ext.refl w).qt q1
  have c5' := x1.old c5
  have c4' := x1.old c4
  have HP1 := Lib.hid (HP.out.ext x1)
  have HM1 := Lib.hid (HM.out.ext x1)
  have HX1 := Lib.hid x1
  clear q1 c4 c5 x1
  go_wp2_with fail
  go_loopg [26] n (fun m iv wr => ∃ k : Nat, k + m = n ∧ iv = .int .i16 (k : Int) ∧ MAt wr mb (.slice (some ⟨g, off, none⟩) p.length c) (iter (run p fr tp) k t) ∧ Calm [mb] w wr)
  case atStart => exact ⟨0, by omega, rfl, HM1.out, HX1.out.calm _⟩
  case round =>
    obtain ⟨k, hkn, rfl, M2, K2⟩ := hrel
    have HM2 := Lib.hid M2
    have HK2 := Lib.hid K2
    clear M2 K2
    by_cases hk : k = n
    · subst hk
      have hlt : ¬ (k : Int) < (k : Int) := by omega
      go_wp2
      go_ret
      exact ⟨rfl, HM2.out, HK2.out⟩
    · have hlt : (k : Int) < (n : Int) := by omega
      have hwk : IntKind.i16.wrap ((k : Int) + 1) = ((k + 1 : Nat) : Int) := by simp [IntKind.wrap, IntKind.bits, IntKind.signed]; omega
      go_wp2_with fail
      refine (HB.out (iter (run p fr tp) k t) wr (HP.out.calm HK2.out (fun b hb => by simp at hb; subst hb; exact HOF.out)) HM2.out (iter_rb (fun u hu => run_rbs HOK.out _ _ hu) k t HRB.out) (iter_keep (P := GO) (fun u hu => run_go p fr tp hu) k t HGO.out) (Int.le_trans h0 (iter_up (fun u => run_up p fr tp u) k t)) (by
        have h1 := iter_more (f := run p fr tp) (fun u => run_up p fr tp u) (k + 1) (n - (k + 1)) t
        rw [show k + 1 + (n - (k + 1)) = n by omega, iter_succ'] at h1
        exact Int.le_trans h1 HST.out)).mono ?_
      rintro e w3 ⟨rfl, M3, K3⟩
      rw [← iter_succ' (run p fr tp) k t] at M3
      have HM3 := Lib.hid M3
      have HK3 := Lib.hid (HK2.out.trans K3)
      clear M3 K3
      go_wp2
      go_roundg (n - (k + 1))
      case measure => omega
      exact ⟨k + 1, by omega, rfl, HM3.out, HK3.out⟩
theorem computed_any (w : World) (mb : Nat) (vp : Value) (s : St) (hM : MAt w mb vp s) (hRB : RB s.rs) (op imm : Int) (kd ka kb : Nat) (hx : Sound ⟨op, kd, ka, kb, imm⟩) (ho : op ≠ 0 ∧ op ≠ 11 ∧ op ≠ 12 ∧ op ≠ 13) (v : V4) (hv : outV ⟨op, kd, ka, kb, imm⟩ s.rs = some v) :
    Calls Try.prog 52 #[.pointer (some ⟨mb, 0, none⟩), .agg #[.int .u8 op, .int .u8 (kd : Int), .int .u8 (ka : Int), .int .u8 (kb : Int), .int .i16 imm]] w fun e w' => e = .returned (.agg #[.int .i64 v.c0, .int .i64 v.c1, .int .i64 v.c2, .int .i64 v.c3]) ∧ Ext w w' := by
  obtain ⟨⟨h1, h2, h3, h4, h5⟩, g1, g2, g3, g4, g5, g6, g7⟩ := hx
  simp only at *
  have hkb : kb < 12 := by have := g4 ho.2.2.1; omega
  have hcase : op = 1 ∨ op = 2 ∨ op = 3 ∨ op = 4 ∨ op = 5 ∨ op = 6 ∨ op = 7 ∨ op = 8 ∨ op = 9 ∨ op = 10 ∨ op = 14 := by omega
  clear g4
  rcases hcase with rfl | rfl | rfl | rfl | rfl | rfl | rfl | rfl | rfl | rfl | rfl <;> simp [outV] at hv <;> subst hv
  · exact comp_op1 w mb vp s hM hRB kd ka kb imm (by omega) (by omega) hkb h5
  · exact comp_op2 w mb vp s hM hRB kd ka kb imm (by omega) (by omega) hkb h5
  · exact comp_op3 w mb vp s hM hRB kd ka kb imm (by omega) (by omega) hkb h5
  · exact comp_op4 w mb vp s hM hRB kd ka kb imm (by omega) (by omega) hkb h5
  · exact comp_op5 w mb vp s hM hRB kd ka kb imm (by omega) (by omega) hkb h5
  · exact comp_op6 w mb vp s hM hRB kd ka kb imm (by omega) (by omega) hkb h5
  · exact comp_op7 w mb vp s hM hRB kd ka kb imm (by omega) (by omega) hkb h5
  · exact comp_op8 w mb vp s hM hRB kd ka kb imm (by omega) (by omega) hkb h5
  · exact comp_op9 w mb vp s hM hRB kd ka kb imm (by omega) (by omega) hkb h5 _ (imm % 4).toNat (by omega) (by omega)
  · exact comp_op10 w mb vp s hM hRB kd ka kb imm (by omega) (by omega) hkb h5 _ _ (by omega) (by omega)
  · exact comp_op14 w mb vp s hM hRB kd ka kb imm (by omega) (by omega) hkb h5 (by have := g5 rfl; omega)
theorem outV_some {x : In} (rs : List Int) (h0 : 0 ≤ x.op) (h14 : x.op ≤ 14) (ho : x.op ≠ 0 ∧ x.op ≠ 11 ∧ x.op ≠ 12 ∧ x.op ≠ 13) : ∃ v, outV x rs = some v := by
  obtain ⟨op, d, a, b, imm⟩ := x
  simp only at *
  have hcase : op = 1 ∨ op = 2 ∨ op = 3 ∨ op = 4 ∨ op = 5 ∨ op = 6 ∨ op = 7 ∨ op = 8 ∨ op = 9 ∨ op = 10 ∨ op = 14 := by omega
  rcases hcase with rfl | rfl | rfl | rfl | rfl | rfl | rfl | rfl | rfl | rfl | rfl <;> exact ⟨_, rfl⟩
theorem outV_none {x : In} (rs : List Int) (ho : x.op = 11 ∨ x.op = 13) : outV x rs = none := by
  obtain ⟨op, d, a, b, imm⟩ := x
  simp only at *
  rcases ho with rfl | rfl <;> rfl
/-- a step, whatever the instruction: where it goes on, with what -/
theorem step_any (w : World) (mb : Nat) (vp : Value) (t : St) (p : List In) (hP : PArr w vp p) (hof : Off mb vp p) (hM : MAt w mb vp t) (hsd : ∀ x ∈ p, Sound x) (hlen : p.length ≤ 1000) (hrb : RB t.rs) (hgo : GO t) (h0 : 0 ≤ t.steps) (j tp : Nat) (hj : j < tp) (htp : tp ≤ p.length) (hg : Good p j tp) (hov : t.over = false)
    (hst : (run p j tp t).steps ≤ 1000000000) (IH : Flat p j tp ∨ ∀ i' tp', Flat p i' tp' → tp' ≤ p.length → i' ≤ 2000 → ExC vp mb p i' tp') :
    ∃ (j' : Nat) (t' : St), run p j tp t = run p j' tp t' ∧ j < j' ∧ j' ≤ 34000 ∧ RB t'.rs ∧ GO t' ∧ 0 ≤ t'.steps ∧
      Calls Try.prog 41 #[.pointer (some ⟨mb, 0, none⟩), .int .i64 (j : Int)] w fun e w' => e = .returned (.int .i64 (j' : Int)) ∧ MAt w' mb vp t' ∧ Calm [mb] w w' := by
  have hjl : j < p.length := by omega
  have hok : ∀ x ∈ p, x.ok := fun x hx => (hsd x hx).1
  obtain ⟨x, hx⟩ : ∃ x, p[j]? = some x := ⟨p[j], by simp [hjl]⟩
  have hS := hsd x (List.mem_of_getElem? hx)
  obtain ⟨op, d, a, b, imm⟩ := x
  have hS' := hS
  obtain ⟨⟨o1, o2, o3, o4, o5⟩, g1, g2, g3, g4, g5, g6, g7⟩ := hS
  simp only at o1 o2 o3 o4 o5 g1 g2 g3 g4 g5 g6 g7
  obtain ⟨kd, rfl⟩ : ∃ k : Nat, d = k := ⟨d.toNat, by omega⟩
  obtain ⟨ka, rfl⟩ : ∃ k : Nat, a = k := ⟨a.toNat, by omega⟩
  obtain ⟨kb, rfl⟩ : ∃ k : Nat, b = k := ⟨b.toNat, by omega⟩
  have hup := run_up p j tp t
  have h1 : t.steps ≤ 1000000000 := by omega
  have hgn : t.gone = false := hgo hov
  have hti : (j : Int) + 1 = ((j + 1 : Nat) : Int) := by omega
  by_cases h12 : op = 12
  · subst h12
    obtain ⟨n, rfl⟩ : ∃ k : Nat, imm = k := ⟨imm.toNat, by have := g6 rfl; omega⟩
    have hrun := run_atLoop hg hj hov hx rfl
    simp only [Int.toNat_natCast] at hrun
    obtain ⟨q1, q2⟩ := hg j _ (Nat.le_refl _) hj hx rfl
    simp only [Int.toNat_natCast] at q1 q2
    have hB : ExC vp mb p (j + 1) (j + 1 + kb) := by
      rcases IH with h | h
      · exact absurd rfl (h j _ (Nat.le_refl _) hj hx)
      · exact h _ _ q2 (by omega) (by omega)
    refine ⟨j + 1 + kb, iter (run p (j + 1) (j + 1 + kb)) n t.tick, hrun, by omega, by omega, iter_rb (fun u hu => run_rbs hok _ _ hu) n t.tick hrb, iter_keep (P := GO) (fun u hu => run_go p _ _ hu) n t.tick hgo, Int.le_trans (show 0 ≤ t.tick.steps by show 0 ≤ t.steps + 1; omega) (iter_up (fun u => run_up p _ _ u) n t.tick), ?_⟩
    have hst2 : (iter (run p (j + 1) (j + 1 + kb)) n t.tick).steps ≤ 1000000000 := by
      have := run_up p (j + 1 + kb) tp (iter (run p (j + 1) (j + 1 + kb)) n t.tick)
      rw [← hrun] at this
      omega
    exact step_loops w mb vp t p hP hM h0 h1 j (by omega) n kd ka kb hx (by omega) _ _ (fun w1 M1 K1 => loop_any w1 mb vp t.tick p (hP.calm K1 (fun b hb => by simp at hb; subst hb; exact hof)) hof M1 hok hlen hrb hgo (by show 0 ≤ t.steps + 1; omega) j kb n (j + 1) (j + 1 + kb) _ _ hx (by have := g6 rfl; omega) (by omega) (by omega) hB hst2)
  · by_cases h11 : op = 11 ∧ (regAt t.rs ka).c0 < 0
    · obtain ⟨rfl, hn⟩ := h11
      have hrun := run_atSkip hg hj hov hx rfl (by simpa using hn)
      have h7 := g7 rfl
      refine ⟨j + 1 + imm.toNat, t.tick, hrun, by omega, by omega, hrb, hgo, by show 0 ≤ t.steps + 1; omega, ?_⟩
      rw [show ((j + 1 + imm.toNat : Nat) : Int) = (j : Int) + 1 + imm by omega]
      exact step_skips w mb vp t p hP hM h0 h1 j (by omega) imm kd ka kb hx (by omega) hn (by omega)
    · have hrun := run_atStep hg hj hov hx h12 (by simpa using h11)
      refine ⟨j + 1, exec ⟨op, kd, ka, kb, imm⟩ t, hrun, by omega, by omega, exec_rb hS'.1 hrb, exec_go hgo, by rw [exec_steps]; omega, ?_⟩
      rw [← hti]
      by_cases z0 : op = 0
      · subst z0
        exact step_end w mb vp t p hP hM h0 h1 j (by omega) imm kd ka kb hx (by omega)
      · by_cases z11 : op = 11
        · subst z11
          have hn : ¬ (regAt t.rs ka).c0 < 0 := fun h => h11 ⟨rfl, h⟩
          have e : exec ⟨11, kd, ka, kb, imm⟩ t = t.tick := by
            unfold exec
            rw [if_neg (by simp), if_neg (by simp), outV_none _ (.inl rfl)]
          rw [e]
          exact step_walks w mb vp t p hP hM h0 h1 j (by omega) imm kd ka kb hx (by omega) hn
        · by_cases z13 : op = 13
          · subst z13
            by_cases hn : (regAt t.rs ka).c0 < 0
            · exact step_goes w mb vp t p hP hM h0 h1 j (by omega) imm kd ka kb hx (by omega) hn
            · have e : exec ⟨13, kd, ka, kb, imm⟩ t = t.tick := by
                unfold exec
                rw [if_neg (by simp), if_neg (by simpa using hn), outV_none _ (.inr rfl)]
              rw [e]
              exact step_stays w mb vp t p hP hM h0 h1 j (by omega) imm kd ka kb hx (by omega) hn hgn hov
          · obtain ⟨v, hv⟩ := outV_some (x := ⟨op, kd, ka, kb, imm⟩) t.rs o1.1 g1 ⟨z0, z11, h12, z13⟩
            have e : exec ⟨op, kd, ka, kb, imm⟩ t = { t.tick with rs := regPut t.rs kd v } := by
              unfold exec
              rw [if_neg z0, if_neg (fun h => z13 h.1), hv]
              simp
            rw [e]
            exact step_sets w mb vp t p hP hM h0 h1 j (by omega) op imm kd ka kb hx (by omega) (by omega) ⟨z0, z11, h12, z13⟩ v (fun w1 M1 => computed_any w1 mb vp t.tick M1 hrb op imm kd ka kb hS' ⟨z0, z11, h12, z13⟩ v hv)
set_option maxRecDepth 100000 in
set_option maxHeartbeats 2000000 in
theorem execute_gen (vp : Value) (mb : Nat) (p : List In) (i tp : Nat) (hsd : ∀ x ∈ p, Sound x) (hlen : p.length ≤ 1000) (htp : tp ≤ p.length) (hi0 : i ≤ 2000) (hg : Good p i tp) (hof : Off mb vp p)
    (IH : Flat p i tp ∨ ∀ i' tp', Flat p i' tp' → tp' ≤ p.length → i' ≤ 2000 → ExC vp mb p i' tp') : ExC vp mb p i tp := by
  intro s w hP hM hrb hgo hst0 hst
  have htpI : (tp : Int) ≤ 1000 := by omega
  have HST := Lib.hid hst
  have HIH := Lib.hid IH
  have HG := Lib.hid hg
  have HSD := Lib.hid hsd
  have HOF := Lib.hid hof
  have HP := Lib.hid hP
  clear hst IH hg hsd hof hP
  go_enter Try.func29, Try.ntmps29
  go_wp2_with fail
  go_loopg [6] (tp + 1 - i) (fun m iv wr => ∃ (j : Nat) (t : St), tp + 1 - j ≤ m ∧ i ≤ j ∧ j ≤ 34000 ∧ iv = .int .i64 (j : Int) ∧ MAt wr mb vp t ∧ RB t.rs ∧ GO t ∧ 0 ≤ t.steps ∧ Calm [mb] w wr ∧ run p j tp t = run p i tp s)
  case atStart => exact ⟨i, s, by omega, by omega, by omega, rfl, hM, hrb, hgo, hst0, Calm.refl _ _, rfl⟩
  case round =>
    clear hM hrb hst0 hgo
    obtain ⟨j, t, hjm, hij, hj0, rfl, M1, rb1, go1, st1, K1, hrun⟩ := hrel
    have HRUN := Lib.hid hrun
    have HM1 := Lib.hid M1
    have HK1 := Lib.hid K1
    have HGO := Lib.hid go1
    have HRB := Lib.hid rb1
    have co := M1.over
    clear hrun M1 K1 go1 rb1
    by_cases h1 : tp ≤ j
    · have he := Lib.hid (show run p i tp s = t by rw [← HRUN.out]; exact run_end (.inl h1))
      have hjI : ¬ (j : Int) < (tp : Int) := by omega
      go_wp2
      exact bodyPost_end (v := .tuple #[]) (by simp [results, Try.results29]) rfl ⟨rfl, by rw [he.out]; exact HM1.out, HK1.out⟩
    · have hj : j < tp := by omega
      have hjI : (j : Int) < (tp : Int) := by omega
      cases hov : t.over
      · rw [hov] at co
        obtain ⟨j', t', e1, l1, l2, rb2, go2, st2, hC⟩ := step_any wr mb vp t p (HP.out.calm HK1.out (fun b hb => by simp at hb; subst hb; exact HOF.out)) HOF.out HM1.out HSD.out hlen HRB.out HGO.out st1 j tp hj htp (HG.out.mono hij) hov (by rw [HRUN.out]; exact HST.out) (by
          rcases HIH.out with h | h
          · exact .inl (fun k x h2 h3 hx => h k x (by omega) h3 hx)
          · exact .inr h)
        have HC := Lib.hid hC
        have HE := Lib.hid e1
        have HRB2 := Lib.hid rb2
        have HGO2 := Lib.hid go2
        clear hC e1 rb2 go2 hov
        go_wp2_with fail
        refine HC.out.mono ?_
        rintro e w2 ⟨rfl, M2, K2⟩
        have HM2 := Lib.hid M2
        have HK2 := Lib.hid (HK1.out.trans K2)
        clear M2 K2
        go_wp2
        go_roundg (tp + 1 - j')
        case measure => omega
        exact ⟨j', t', Nat.le_refl _, by omega, l2, rfl, HM2.out, HRB2.out, HGO2.out, st2, HK2.out, by rw [← HE.out]; exact HRUN.out⟩
      · have he := Lib.hid (show run p i tp s = t by rw [← HRUN.out]; exact run_end (.inr hov))
        rw [hov] at co
        clear hov
        go_wp2
        exact bodyPost_end (v := .tuple #[]) (by simp [results, Try.results29]) rfl ⟨rfl, by rw [he.out]; exact HM1.out, HK1.out⟩
theorem execute_any (vp : Value) (mb : Nat) (p : List In) (hsd : ∀ x ∈ p, Sound x) (hlen : p.length ≤ 1000) (hg : Good p 0 p.length) (hof : Off mb vp p) : ExC vp mb p 0 p.length :=
  execute_gen vp mb p 0 p.length hsd hlen (Nat.le_refl _) (by omega) hg hof (.inr fun i' tp' hf htp hi => execute_gen vp mb p i' tp' hsd hlen htp hi hf.good hof (.inl hf))
end Go.Proofs.Ytellfhnfifgpoaa

namespace Go.Proofs.Ytellfhnfifgpoaa
open Go.RowKit
set_option linter.unusedVariables false
theorem withinW_q (n : Int) : withinW n 2147483647 = clampZ n := by unfold withinW withinZ clampZ; rw [if_neg (by omega)]
/-- the first m numbers clamped -/
def mixC (rs : List Int) (m : Nat) : List Int := (rs.map clampZ).take m ++ rs.drop m
theorem mixC_zero (rs : List Int) : mixC rs 0 = rs := by simp [mixC]
theorem mixC_full {rs : List Int} (h : rs.length = 48) : mixC rs 48 = rs.map clampZ := by
  unfold mixC
  rw [List.take_of_length_le (by simp [h]), List.drop_eq_nil_of_le (by omega)]
  simp
theorem mixC_len {rs : List Int} (h : rs.length = 48) {m : Nat} (hm : m ≤ 48) : (mixC rs m).length = 48 := by
  simp [mixC, h]
  omega
theorem mixC_set {rs : List Int} (h : rs.length = 48) {m : Nat} (hm : m < 48) : (mixC rs m).set m (clampZ (rs.getD m 0)) = mixC rs (m + 1) := by
  have hl : ((rs.map clampZ).take m).length = m := by simp [h]; omega
  unfold mixC
  rw [List.set_append_right _ _ (by omega), hl, Nat.sub_self, List.drop_eq_getElem_cons (show m < rs.length by omega), List.set_cons_zero]
  rw [List.take_add_one]
  have : (rs.map clampZ)[m]? = some (clampZ (rs.getD m 0)) := by simp [List.getD, show m < rs.length by omega]
  rw [this]
  simp
theorem mixC_put {rs : List Int} (h : rs.length = 48) {i : Nat} (hi : i < 12) : regPut (mixC rs (i * 4)) i ⟨clampZ (regAt rs i).c0, clampZ (regAt rs i).c1, clampZ (regAt rs i).c2, clampZ (regAt rs i).c3⟩ = mixC rs ((i + 1) * 4) := by
  unfold regPut regAt
  simp only
  rw [mixC_set h (by omega), mixC_set h (by omega), mixC_set h (by omega), mixC_set h (by omega), show (i + 1) * 4 = i * 4 + 3 + 1 by omega]
set_option maxRecDepth 100000 in
set_option maxHeartbeats 2000000 in
theorem clamped_any (rs : List Int) (hl : rs.length = 48) (hb : ∀ n ∈ rs, -9223372036854775808 ≤ n ∧ n ≤ 9223372036854775807) (w : World) : Calls Try.prog 28 #[.agg (RL rs)] w fun e w' => e = .returned (.agg (RL (rs.map clampZ))) ∧ Ext w w' := by
  have hbd : ∀ j, -9223372036854775808 ≤ rs.getD j 0 ∧ rs.getD j 0 ≤ 9223372036854775807 := fun j => by
    by_cases hj : j < rs.length
    · have : rs.getD j 0 = rs[j] := by simp [List.getD, hj]
      rw [this]
      exact hb _ (List.getElem_mem hj)
    · have : rs.getD j 0 = 0 := by simp [List.getD, List.getElem?_eq_none (Nat.le_of_not_lt hj)]
      rw [this]
      omega
  have A0 := (Blk.new w (RL rs) 31).alloc (.cells #[.int .i64 0, .int .i64 0, .int .i64 0, .int .i64 0, .int .i64 0, .int .i64 0, .int .i64 0, .int .i64 0, .int .i64 0, .int .i64 0, .int .i64 0, .int .i64 0, .int .i64 0, .int .i64 0, .int .i64 0, .int .i64 0, .int .i64 0, .int .i64 0, .int .i64 0, .int .i64 0, .int .i64 0, .int .i64 0, .int .i64 0, .int .i64 0, .int .i64 0, .int .i64 0, .int .i64 0, .int .i64 0, .int .i64 0, .int .i64 0, .int .i64 0, .int .i64 0, .int .i64 0, .int .i64 0, .int .i64 0, .int .i64 0, .int .i64 0, .int .i64 0, .int .i64 0, .int .i64 0, .int .i64 0, .int .i64 0, .int .i64 0, .int .i64 0, .int .i64 0, .int .i64 0, .int .i64 0, .int .i64 0] 31)
  have R0 := Blk.new' (w := w.alloc (.cells (RL rs) 31)) (b := w.heap.size + 1) (by simp) #[.int .i64 0, .int .i64 0, .int .i64 0, .int .i64 0, .int .i64 0, .int .i64 0, .int .i64 0, .int .i64 0, .int .i64 0, .int .i64 0, .int .i64 0, .int .i64 0, .int .i64 0, .int .i64 0, .int .i64 0, .int .i64 0, .int .i64 0, .int .i64 0, .int .i64 0, .int .i64 0, .int .i64 0, .int .i64 0, .int .i64 0, .int .i64 0, .int .i64 0, .int .i64 0, .int .i64 0, .int .i64 0, .int .i64 0, .int .i64 0, .int .i64 0, .int .i64 0, .int .i64 0, .int .i64 0, .int .i64 0, .int .i64 0, .int .i64 0, .int .i64 0, .int .i64 0, .int .i64 0, .int .i64 0, .int .i64 0, .int .i64 0, .int .i64 0, .int .i64 0, .int .i64 0, .int .i64 0, .int .i64 0] 31
  have E0 := ((Ext.refl w).alloc (RL rs) 31).alloc #[.int .i64 0, .int .i64 0, .int .i64 0, .int .i64 0, .int .i64 0, .int .i64 0, .int .i64 0, .int .i64 0, .int .i64 0, .int .i64 0, .int .i64 0, .int .i64 0, .int .i64 0, .int .i64 0, .int .i64 0, .int .i64 0, .int .i64 0, .int .i64 0, .int .i64 0, .int .i64 0, .int .i64 0, .int .i64 0, .int .i64 0, .int .i64 0, .int .i64 0, .int .i64 0, .int .i64 0, .int .i64 0, .int .i64 0, .int .i64 0, .int .i64 0, .int .i64 0, .int .i64 0, .int .i64 0, .int .i64 0, .int .i64 0, .int .i64 0, .int .i64 0, .int .i64 0, .int .i64 0, .int .i64 0, .int .i64 0, .int .i64 0, .int .i64 0, .int .i64 0, .int .i64 0, .int .i64 0, .int .i64 0] 31
  have HB := Lib.hid hbd
  have HL := Lib.hid hl
  have hsz := RL.size hl
  have hone := RL.one rs
  have hz0 : ((w.alloc (.cells (RL rs) 31)).alloc (.cells #[.int .i64 0, .int .i64 0, .int .i64 0, .int .i64 0, .int .i64 0, .int .i64 0, .int .i64 0, .int .i64 0, .int .i64 0, .int .i64 0, .int .i64 0, .int .i64 0, .int .i64 0, .int .i64 0, .int .i64 0, .int .i64 0, .int .i64 0, .int .i64 0, .int .i64 0, .int .i64 0, .int .i64 0, .int .i64 0, .int .i64 0, .int .i64 0, .int .i64 0, .int .i64 0, .int .i64 0, .int .i64 0, .int .i64 0, .int .i64 0, .int .i64 0, .int .i64 0, .int .i64 0, .int .i64 0, .int .i64 0, .int .i64 0, .int .i64 0, .int .i64 0, .int .i64 0, .int .i64 0, .int .i64 0, .int .i64 0, .int .i64 0, .int .i64 0, .int .i64 0, .int .i64 0, .int .i64 0, .int .i64 0] 31)).heap.size = w.heap.size + 1 + 1 := by simp
  clear hb hbd hl
  go_enter Try.func28, Try.ntmps28
  go_wp2_with (first
    | ((with_reducible refine wpList_load_blk (op := ⟨some 5, _, _, _, _, _⟩) ?_ 31 (.tmp 1) ?_ w.heap.size ?_ (z := RL rs) (T := 31) ?_ Try.underlying31 ?_ ?_ ?_); rfl; rfl; rfl; exact A0; rfl; (rw [hsz]; kernel_rfl))
    | fail)
  generalize (w.alloc (.cells (RL rs) 31)).alloc (.cells #[.int .i64 0, .int .i64 0, .int .i64 0, .int .i64 0, .int .i64 0, .int .i64 0, .int .i64 0, .int .i64 0, .int .i64 0, .int .i64 0, .int .i64 0, .int .i64 0, .int .i64 0, .int .i64 0, .int .i64 0, .int .i64 0, .int .i64 0, .int .i64 0, .int .i64 0, .int .i64 0, .int .i64 0, .int .i64 0, .int .i64 0, .int .i64 0, .int .i64 0, .int .i64 0, .int .i64 0, .int .i64 0, .int .i64 0, .int .i64 0, .int .i64 0, .int .i64 0, .int .i64 0, .int .i64 0, .int .i64 0, .int .i64 0, .int .i64 0, .int .i64 0, .int .i64 0, .int .i64 0, .int .i64 0, .int .i64 0, .int .i64 0, .int .i64 0, .int .i64 0, .int .i64 0, .int .i64 0, .int .i64 0] 31) = w0 at *
  have HR := Lib.hid R0
  have HE := Lib.hid E0
  generalize hba : w.heap.size = ba at *
  have HBA := Lib.hid hba
  have hz := Lib.hid hz0
  clear E0 R0 hsz hone hba hz0
  go_loopg [6] 12 (fun m iv wr => ∃ (i : Nat), i + m = 12 ∧ iv = .int .i64 (i : Int) ∧ Blk wr ba (RL (mixC rs (i * 4))) 31 ∧ Calm [ba] w0 wr)
  case atStart => exact ⟨0, by omega, rfl, by rw [Nat.zero_mul, mixC_zero]; exact A0, Calm.refl _ _⟩
  case round =>
    clear A0
    obtain ⟨i, him, rfl, A1, K1⟩ := hrel
    have HA1 := Lib.hid A1
    have HK1 := Lib.hid K1
    clear K1
    by_cases hi : i < 12
    · have hiI : (i : Int) < 12 := by omega
      have hix := fun W => idx_regs W rs HL.out i hi
      have b0 := HB.out (i * 4)
      have b1 := HB.out (i * 4 + 1)
      have b2 := HB.out (i * 4 + 2)
      have b3 := HB.out (i * 4 + 3)
      have HA1 := Lib.hid A1
      have hlt := A1.lt
      clear A1
      go_wp2_with fail
      refine (vec_within (regAt rs i).c0 (regAt rs i).c1 (regAt rs i).c2 (regAt rs i).c3 2147483647 b0 b1 b2 b3 (by omega) _).mono ?_
      rintro e w3 ⟨rfl, x3⟩
      have A3 := (HA1.out.alloc _).ext x3
      have K3 := HK1.out.trans (Ext.calm (Ext.trans ((Ext.refl wr).alloc _ _) x3) [ba])
      have l0 := RL.cell (mixC_len HL.out (by omega)) A3 (i * 4) (by omega)
      have l1 := RL.cell (mixC_len HL.out (by omega)) A3 (i * 4 + 1) (by omega)
      have l2 := RL.cell (mixC_len HL.out (by omega)) A3 (i * 4 + 2) (by omega)
      have l3 := RL.cell (mixC_len HL.out (by omega)) A3 (i * 4 + 3) (by omega)
      have f3 := A3.frozen
      have A4 := RL.put A3 i ⟨clampZ (regAt rs i).c0, clampZ (regAt rs i).c1, clampZ (regAt rs i).c2, clampZ (regAt rs i).c3⟩
      rw [mixC_put HL.out hi] at A4
      simp only [withinW_q]
      have HA4 := Lib.hid A4
      have HK4 := Lib.hid ((((K3.trans (calm_setP _ ba (i * 4) (.int .i64 (clampZ (regAt rs i).c0)))).trans (calm_setP _ ba (i * 4 + 1) (.int .i64 (clampZ (regAt rs i).c1)))).trans (calm_setP _ ba (i * 4 + 2) (.int .i64 (clampZ (regAt rs i).c2)))).trans (calm_setP _ ba (i * 4 + 3) (.int .i64 (clampZ (regAt rs i).c3))))
      clear A3 A4 K3 x3 hix
      go_wp2
      go_roundg (12 - (i + 1))
      case measure => omega
      case rel => exact ⟨i + 1, by omega, rfl, HA4.out, HK4.out⟩
    · obtain rfl : i = 12 := by omega
      have R3 := HR.out.calm HK1.out (by simp)
      rw [show 12 * 4 = 48 from rfl, mixC_full HL.out] at A1
      have hsz : (RL (rs.map clampZ)).size = 48 := RL.size (by simpa using HL.out)
      have hone := RL.one (rs.map clampZ)
      go_wp2_with (first
        | ((with_reducible refine wpList_load_blk (op := ⟨some 15, _, _, _, _, _⟩) ?_ 31 (.tmp 1) ?_ ba ?_ (z := RL (rs.map clampZ)) (T := 31) A1 Try.underlying31 ?_ ?_ ?_); rfl; rfl; rfl; rfl; (rw [hsz]; kernel_rfl))
        | ((with_reducible refine wpList_store_blk (op := ⟨none, .store 31 (.tmp 2) (.tmp 15), _, _, _, _⟩) ?_ 31 (.tmp 2) (.tmp 15) ?_ (ba + 1) ?_ (cs := RL (rs.map clampZ)) ?_ (T := 31) R3 ?_ ?_ ?_ ?_); rfl; rfl; rfl; rfl; (rw [hsz]; kernel_rfl); exact hone; (rw [hsz]; rfl))
        | fail)
      refine bodyPost_ret (v := .agg (RL (rs.map clampZ))) (results_blk (b := ba + 1) (t := 2) (ty := 31) rfl rfl (R3.setRow _) Try.underlying31 rfl (by rw [hsz]; kernel_rfl)) rfl ⟨rfl, ?_⟩
      exact Ext.setRow (Ext.calm_trans HE.out HK1.out (fun g hg => by simp at hg; have := HBA.out; omega)) (by have := HBA.out; omega) _
end Go.Proofs.Ytellfhnfifgpoaa

