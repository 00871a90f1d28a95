/-
  DERIVED. THE WALK of the law text 'Ref' of layer 7: a program as the document's answer has it. · THE WALK of the document's Place (made by mkvm.py).
-/
import Derived.Test.YtellfhnfifgpoaaPkPlain
import Derived.Test.YtellfhnfifgpoaaPkIsa
import Derived.Deep.LoopGhost
import Derived.Test.YtellfhnfifgpoaaPkRun
import Derived.Test.YtellfhnfifgpoaaPkRefRun
namespace Go.Proofs.Ytellfhnfifgpoaa
open Go.RowKit
set_option linter.unusedVariables false
theorem lit_ref (W : World) (y : In) (T : TypeId) : ∀ i u, y.cellsR[i]? = some u → (W.alloc (.cells #[.int .i64 y.op, .int .i64 y.dst, .int .i64 y.a, .int .i64 y.b, .int .i64 y.imm] T)).cell? ⟨W.heap.size, i, none⟩ = some u := by
  intro i u h
  match i, h with
  | 0, h => simp [In.cellsR] at h; subst h; simp [go_sem]
  | 1, h => simp [In.cellsR] at h; subst h; simp [go_sem]
  | 2, h => simp [In.cellsR] at h; subst h; simp [go_sem]
  | 3, h => simp [In.cellsR] at h; subst h; simp [go_sem]
  | 4, h => simp [In.cellsR] at h; subst h; simp [go_sem]
  | i + 5, h => simp [In.cellsR] at h
theorem take_one {xs : List In} {j : Nat} {x : In} (h : xs[j]? = some x) : xs.take (j + 1) = xs.take j ++ [x] := take_snoc h
set_option maxRecDepth 100000 in
theorem ref_any (w : World) (base : Nat) (v : Value) (xs : List In) (h : OwnP w base v xs) (hok : ∀ x ∈ xs, x.ok) (hl : xs.length ≤ 1000) : Calls Try.prog 13 #[v] w fun e w' => ∃ v', e = .returned v' ∧ OwnR w' w.heap.size v' xs ∧ Ext w w' := by
  obtain ⟨ao, c, rfl, -, -⟩ := h.slice
  have hlI : (xs.length : Int) ≤ 1000 := by omega
  go_enter Try.func13, Try.ntmps13
  go_wp2_with fail
  go_loopg [8, 3] xs.length (fun k iv pv wr => ∃ (j : Nat), j + k = xs.length ∧ iv = .int .i64 j ∧ OwnR wr w.heap.size pv (xs.take j) ∧ Ext w wr)
  case atStart => exact ⟨0, by omega, rfl, OwnR.nil _ _, Ext.refl _⟩
  case round =>
    obtain ⟨j, hjk, rfl, o1, e1⟩ := hrel
    by_cases hj : j < xs.length
    · have hjI : (j : Int) < (xs.length : Int) := by omega
      obtain ⟨g, x, rfl, -, hx, c0, c1, c2, c3, c4⟩ := (h.ext e1).nth j hj
      have hxo := hok x (List.mem_of_getElem? hx)
      obtain ⟨b0, b1, b2, b3, b4⟩ := hxo
      have HSN := Lib.hid (take_one hx)
      clear hx
      have x2 := (Ext.refl wr).alloc #[.int .u8 x.op, .int .u8 x.dst, .int .u8 x.a, .int .u8 x.b, .int .i16 x.imm] 70
      have x3 := x2.alloc #[.int .i64 x.op, .int .i64 x.dst, .int .i64 x.a, .int .i64 x.b, .int .i64 x.imm] 79
      have o3 := o1.ext x3
      have e3 := e1.trans x3
      have hcn := lit_ref (wr.alloc (.cells #[.int .u8 x.op, .int .u8 x.dst, .int .u8 x.a, .int .u8 x.b, .int .i16 x.imm] 70)) x 79
      have z3 : (wr.alloc (.cells #[.int .u8 x.op, .int .u8 x.dst, .int .u8 x.a, .int .u8 x.b, .int .i16 x.imm] 70)).heap.size = wr.heap.size + 1 := by simp
      rw [z3] at hcn
      have hrl : (xs.take j).length = j := by simp; omega
      have HRL := Lib.hid hrl
      have hzz := e1.size
      clear z3 x2 x3 o1 e1 hrl
      go_wp2_with (at_builtin; refine wpList_append_ref rfl _ _ rfl w.heap.size _ _ rfl o3 (wr.heap.size + 1) 1 x rfl hcn (by rw [HRL.out]; omega) (by simp; omega) ?_)
      intro v4 w4 o4 K4 hk4
      have e4 := Ext.calm_trans e3 K4 (fun g hg => (o3.lt g (Option.mem_toList.1 hg)).1)
      obtain ⟨ao4, c4', rfl, -, -⟩ := o4.slice
      clear o3 e3 hcn K4 hk4
      go_wp2
      go_roundg (gk - 1)
      case measure => omega
      case rel => exact ⟨j + 1, by omega, rfl, by rw [HSN.out]; exact o4, e4⟩
    · obtain rfl : j = xs.length := by omega
      rw [List.take_length] at o1
      go_wp2
      go_ret
      exact ⟨_, rfl, o1, e1⟩
end Go.Proofs.Ytellfhnfifgpoaa

namespace Go.Proofs.Ytellfhnfifgpoaa
open Go.RowKit
set_option linter.unusedVariables false
theorem mkA4 (u : World) : (Instr.alloc 24 true (.tuple #[])).run Try.prog u = .ok (.pointer (some ⟨u.heap.size, 0, none⟩)) (u.alloc (.cells #[.int .i64 0, .int .i64 0, .int .i64 0, .int .i64 0] 24)) := by
  simp [go_sem]
set_option maxRecDepth 100000 in
set_option maxHeartbeats 4000000 in
theorem rplace_r3 (f0 f1 f2 f3 f4 f5 f6 f7 f11 f12 f13 f14 f15 f16 f17 f18 f19 f20 f21 f22 f23 f24 f25 f26 f27 f28 f29 f30 f31 f32 f33 f34 f35 f36 : Value) (sb rb tb : Nat) (s : St) (w : World) (hS : StAt w sb s) (hR : Blk w rb #[.int .i64 0, .int .i64 0, .int .i64 0, .int .i64 0] 24) (hT : Blk w tb #[.int .i64 0, .int .i64 0, .int .i64 0, .int .i64 0] 24) (ns : sb ≠ rb ∧ sb ≠ tb) (nrt : rb ≠ tb) {Q : Exit → Act → World → Prop}
    (hQ : ∀ (c29 c30 c31 c32 c33 c34 c35 c36 : Value) (wx : World) , Blk wx rb #[.int .i64 ((regAt s.rs 0).lim (-4194304) 4194304).c0, .int .i64 ((regAt s.rs 0).lim (-4194304) 4194304).c1, .int .i64 ((regAt s.rs 0).lim (-4194304) 4194304).c2, .int .i64 ((regAt s.rs 0).lim (-4194304) 4194304).c3] 24 ∧ Blk wx tb #[.int .i64 ((regAt s.rs 1).lim 0 65536).c0, .int .i64 ((regAt s.rs 1).lim 0 65536).c1, .int .i64 ((regAt s.rs 1).lim 0 65536).c2, .int .i64 ((regAt s.rs 1).lim 0 65536).c3] 24 ∧ Calm [rb, tb] w wx → Q .normal ⟨(f0 :: f1 :: f2 :: f3 :: f4 :: f5 :: f6 :: f7 :: Value.pointer (some ⟨rb, 0, none⟩) :: Value.pointer (some ⟨tb, 0, none⟩) :: Value.pointer (some ⟨sb, 0, none⟩) :: f11 :: f12 :: f13 :: f14 :: f15 :: f16 :: f17 :: f18 :: f19 :: f20 :: f21 :: f22 :: f23 :: f24 :: f25 :: f26 :: f27 :: f28 :: c29 :: c30 :: c31 :: c32 :: c33 :: c34 :: c35 :: c36 :: List.nil).toArray, []⟩ wx) : Code.wp Try.prog (regionOf Try.f18 3) Q ⟨(f0 :: f1 :: f2 :: f3 :: f4 :: f5 :: f6 :: f7 :: Value.pointer (some ⟨rb, 0, none⟩) :: Value.pointer (some ⟨tb, 0, none⟩) :: Value.pointer (some ⟨sb, 0, none⟩) :: f11 :: f12 :: f13 :: f14 :: f15 :: f16 :: f17 :: f18 :: f19 :: f20 :: f21 :: f22 :: f23 :: f24 :: f25 :: f26 :: f27 :: f28 :: f29 :: f30 :: f31 :: f32 :: f33 :: f34 :: f35 :: f36 :: List.nil).toArray, []⟩ w := by
  have HQ := Lib.hid hQ
  clear hQ
  change Code.wp Try.prog (Code.region _ _ true) _ _ _
  apply wp_region_vars [false, false, false, false, false, false, false, false, true, true] [rb, tb] [⟨none, 0, rb, some 8, 24, #[.int .i64 0, .int .i64 0, .int .i64 0, .int .i64 0], #[.int .i64 ((regAt s.rs 0).lim (-4194304) 4194304).c0, .int .i64 ((regAt s.rs 0).lim (-4194304) 4194304).c1, .int .i64 ((regAt s.rs 0).lim (-4194304) 4194304).c2, .int .i64 ((regAt s.rs 0).lim (-4194304) 4194304).c3]⟩, ⟨none, 0, tb, some 9, 24, #[.int .i64 0, .int .i64 0, .int .i64 0, .int .i64 0], #[.int .i64 ((regAt s.rs 1).lim 0 65536).c0, .int .i64 ((regAt s.rs 1).lim 0 65536).c1, .int .i64 ((regAt s.rs 1).lim 0 65536).c2, .int .i64 ((regAt s.rs 1).lim 0 65536).c3]⟩] _ (by kernel_rfl) (by kernel_rfl) (by kernel_rfl)
  case H =>
    intro x hx
    have hne : Nonempty (Wx x) := ⟨⟨x, Ext.refl x⟩⟩
    have q00 := fun (y : Wx x) => ((hS.calm hx (by simpa using ns)).ext y.ext).cell 0 (by omega)
    have q01 := fun (y : Wx x) => ((hS.calm hx (by simpa using ns)).ext y.ext).cell 1 (by omega)
    have q02 := fun (y : Wx x) => ((hS.calm hx (by simpa using ns)).ext y.ext).cell 2 (by omega)
    have q03 := fun (y : Wx x) => ((hS.calm hx (by simpa using ns)).ext y.ext).cell 3 (by omega)
    have q10 := fun (y : Wx x) => ((hS.calm hx (by simpa using ns)).ext y.ext).cell 4 (by omega)
    have q11 := fun (y : Wx x) => ((hS.calm hx (by simpa using ns)).ext y.ext).cell 5 (by omega)
    have q12 := fun (y : Wx x) => ((hS.calm hx (by simpa using ns)).ext y.ext).cell 6 (by omega)
    have q13 := fun (y : Wx x) => ((hS.calm hx (by simpa using ns)).ext y.ext).cell 7 (by omega)
    simp only [eraseM]
    repeat (go_big_quiet_step (first | (go_at_call 22; exact calm_of (rwithin_any ⟨_, _, _, _⟩ _ _ (by omega) _))))
    exact wpQuiet_nil rfl
  case hok =>
    simp only [List.forall_mem_cons, List.not_mem_nil, false_implies, implies_true, and_true]
    exact ⟨tgt_mine (v := .agg #[.int .i64 ((regAt s.rs 0).lim (-4194304) 4194304).c0, .int .i64 ((regAt s.rs 0).lim (-4194304) 4194304).c1, .int .i64 ((regAt s.rs 0).lim (-4194304) 4194304).c2, .int .i64 ((regAt s.rs 0).lim (-4194304) 4194304).c3]) (off := 0) (by simp) hR rfl rfl rfl rfl rfl rfl (by kernel_rfl) (by kernel_rfl) (of_decide_eq_true (by kernel_rfl)) rfl, tgt_mine (v := .agg #[.int .i64 ((regAt s.rs 1).lim 0 65536).c0, .int .i64 ((regAt s.rs 1).lim 0 65536).c1, .int .i64 ((regAt s.rs 1).lim 0 65536).c2, .int .i64 ((regAt s.rs 1).lim 0 65536).c3]) (off := 0) (by simp) hT rfl rfl rfl rfl rfl rfl (by kernel_rfl) (by kernel_rfl) (of_decide_eq_true (by kernel_rfl)) rfl⟩
  case hdis =>
    intro k k' t t' hk hk' hkk ha ha'
    match k, k', hk, hk' with
    | 0, 0, _, _ => exact absurd rfl hkk
    | 0, 1, hk, hk' => cases hk; cases hk'; exact nrt
    | 1, 0, hk, hk' => cases hk; cases hk'; exact fun e => nrt e.symm
    | 1, 1, _, _ => exact absurd rfl hkk
    | k + 2, _, hk, _ => simp at hk
    | 0, k' + 2, _, hk' => simp at hk'
    | 1, k' + 2, _, hk' => simp at hk'
  rintro w2 f hw ⟨k0, l0, d0, u0, k1, l1, d1, u1, -⟩
  have e0 : f 0 = rb := k0
  have e1 : f 1 = tb := k1
  have d1' : Blk w2 (f 1) #[.int .i64 ((regAt s.rs 1).lim 0 65536).c0, .int .i64 ((regAt s.rs 1).lim 0 65536).c1, .int .i64 ((regAt s.rs 1).lim 0 65536).c2, .int .i64 ((regAt s.rs 1).lim 0 65536).c3] 24 := d1
  rw [e0] at d0
  rw [e1] at d1'
  exact HQ.out _ _ _ _ _ _ _ _ w2 ⟨d0, d1', hw⟩
set_option maxRecDepth 100000 in
set_option maxHeartbeats 2000000 in
theorem rplace_any {d : Bool} (w : World) (base : Nat) (vp : Value) (q : List In) (hP : OwnR w base vp q) (hok : ∀ x ∈ q, x.ok) (hc : chk d q = 0) (p c : V4) (m0 m1 m2 m3 : V4) (b0 : -9223372036854775808 ≤ p.c0 ∧ p.c0 ≤ 9223372036854775807) (b1 : -9223372036854775808 ≤ p.c1 ∧ p.c1 ≤ 9223372036854775807) (b2 : -9223372036854775808 ≤ p.c2 ∧ p.c2 ≤ 9223372036854775807) (b3 : -9223372036854775808 ≤ p.c3 ∧ p.c3 ≤ 9223372036854775807) (g0 : -9223372036854775808 ≤ c.c0 ∧ c.c0 ≤ 9223372036854775807) (g1 : -9223372036854775808 ≤ c.c1 ∧ c.c1 ≤ 9223372036854775807) (g2 : -9223372036854775808 ≤ c.c2 ∧ c.c2 ≤ 9223372036854775807) (g3 : -9223372036854775808 ≤ c.c3 ∧ c.c3 ≤ 9223372036854775807) (d00 : -9223372036854775808 ≤ m0.c0 ∧ m0.c0 ≤ 9223372036854775807) (d01 : -9223372036854775808 ≤ m0.c1 ∧ m0.c1 ≤ 9223372036854775807) (d02 : -9223372036854775808 ≤ m0.c2 ∧ m0.c2 ≤ 9223372036854775807) (d03 : -9223372036854775808 ≤ m0.c3 ∧ m0.c3 ≤ 9223372036854775807) (d10 : -9223372036854775808 ≤ m1.c0 ∧ m1.c0 ≤ 9223372036854775807) (d11 : -9223372036854775808 ≤ m1.c1 ∧ m1.c1 ≤ 9223372036854775807) (d12 : -9223372036854775808 ≤ m1.c2 ∧ m1.c2 ≤ 9223372036854775807) (d13 : -9223372036854775808 ≤ m1.c3 ∧ m1.c3 ≤ 9223372036854775807) (d20 : -9223372036854775808 ≤ m2.c0 ∧ m2.c0 ≤ 9223372036854775807) (d21 : -9223372036854775808 ≤ m2.c1 ∧ m2.c1 ≤ 9223372036854775807) (d22 : -9223372036854775808 ≤ m2.c2 ∧ m2.c2 ≤ 9223372036854775807) (d23 : -9223372036854775808 ≤ m2.c3 ∧ m2.c3 ≤ 9223372036854775807) (d30 : -9223372036854775808 ≤ m3.c0 ∧ m3.c0 ≤ 9223372036854775807) (d31 : -9223372036854775808 ≤ m3.c1 ∧ m3.c1 ≤ 9223372036854775807) (d32 : -9223372036854775808 ≤ m3.c2 ∧ m3.c2 ≤ 9223372036854775807) (d33 : -9223372036854775808 ≤ m3.c3 ∧ m3.c3 ≤ 9223372036854775807) :
    Calls Try.prog 18 #[vp, .agg #[.int .i64 m0.c0, .int .i64 m0.c1, .int .i64 m0.c2, .int .i64 m0.c3, .int .i64 m1.c0, .int .i64 m1.c1, .int .i64 m1.c2, .int .i64 m1.c3, .int .i64 m2.c0, .int .i64 m2.c1, .int .i64 m2.c2, .int .i64 m2.c3, .int .i64 m3.c0, .int .i64 m3.c1, .int .i64 m3.c2, .int .i64 m3.c3], .agg #[.int .i64 p.c0, .int .i64 p.c1, .int .i64 p.c2, .int .i64 p.c3], .agg #[.int .i64 c.c0, .int .i64 c.c1, .int .i64 c.c2, .int .i64 c.c3]] w fun e w' => e = .returned (.tuple #[.agg #[.int .i64 ((regAt (run q 0 q.length (st0 (placeR p c m0 m1 m2 m3))).rs 0).lim (-4194304) 4194304).c0, .int .i64 ((regAt (run q 0 q.length (st0 (placeR p c m0 m1 m2 m3))).rs 0).lim (-4194304) 4194304).c1, .int .i64 ((regAt (run q 0 q.length (st0 (placeR p c m0 m1 m2 m3))).rs 0).lim (-4194304) 4194304).c2, .int .i64 ((regAt (run q 0 q.length (st0 (placeR p c m0 m1 m2 m3))).rs 0).lim (-4194304) 4194304).c3], .agg #[.int .i64 ((regAt (run q 0 q.length (st0 (placeR p c m0 m1 m2 m3))).rs 1).lim 0 65536).c0, .int .i64 ((regAt (run q 0 q.length (st0 (placeR p c m0 m1 m2 m3))).rs 1).lim 0 65536).c1, .int .i64 ((regAt (run q 0 q.length (st0 (placeR p c m0 m1 m2 m3))).rs 1).lim 0 65536).c2, .int .i64 ((regAt (run q 0 q.length (st0 (placeR p c m0 m1 m2 m3))).rs 1).lim 0 65536).c3]]) ∧ Ext w w' := by
  obtain ⟨ao, cc, rfl, -, -⟩ := hP.slice
  obtain ⟨s1, hs1⟩ : ∃ s1, (run q 0 q.length (st0 (placeR p c m0 m1 m2 m3))) = s1 := ⟨_, rfl⟩
  rw [hs1]
  have HS1 := Lib.hid hs1
  have HP := Lib.hid hP
  have HOK := Lib.hid hok
  have HC := Lib.hid hc
  have hlen := (chk_zero hc).1
  have HBD := Lib.hid (placeR_bd p c m0 m1 m2 m3 b0 b1 b2 b3 g0 g1 g2 g3 d00 d01 d02 d03 d10 d11 d12 d13 d20 d21 d22 d23 d30 d31 d32 d33)
  have M0 := ((((Blk.new w #[.int .i64 m0.c0, .int .i64 m0.c1, .int .i64 m0.c2, .int .i64 m0.c3, .int .i64 m1.c0, .int .i64 m1.c1, .int .i64 m1.c2, .int .i64 m1.c3, .int .i64 m2.c0, .int .i64 m2.c1, .int .i64 m2.c2, .int .i64 m2.c3, .int .i64 m3.c0, .int .i64 m3.c1, .int .i64 m3.c2, .int .i64 m3.c3] 51).alloc (.cells #[.int .i64 p.c0, .int .i64 p.c1, .int .i64 p.c2, .int .i64 p.c3] 24)).alloc (.cells #[.int .i64 c.c0, .int .i64 c.c1, .int .i64 c.c2, .int .i64 c.c3] 24)).alloc (.cells #[.int .i64 0, .int .i64 0, .int .i64 0, .int .i64 0] 24)).alloc (.cells #[.int .i64 0, .int .i64 0, .int .i64 0, .int .i64 0] 24)
  have P0 := (((Blk.new' (w := w.alloc (.cells #[.int .i64 m0.c0, .int .i64 m0.c1, .int .i64 m0.c2, .int .i64 m0.c3, .int .i64 m1.c0, .int .i64 m1.c1, .int .i64 m1.c2, .int .i64 m1.c3, .int .i64 m2.c0, .int .i64 m2.c1, .int .i64 m2.c2, .int .i64 m2.c3, .int .i64 m3.c0, .int .i64 m3.c1, .int .i64 m3.c2, .int .i64 m3.c3] 51)) (b := w.heap.size + 1) (by simp) #[.int .i64 p.c0, .int .i64 p.c1, .int .i64 p.c2, .int .i64 p.c3] 24).alloc (.cells #[.int .i64 c.c0, .int .i64 c.c1, .int .i64 c.c2, .int .i64 c.c3] 24)).alloc (.cells #[.int .i64 0, .int .i64 0, .int .i64 0, .int .i64 0] 24)).alloc (.cells #[.int .i64 0, .int .i64 0, .int .i64 0, .int .i64 0] 24)
  have C0 := ((Blk.new' (w := (w.alloc (.cells #[.int .i64 m0.c0, .int .i64 m0.c1, .int .i64 m0.c2, .int .i64 m0.c3, .int .i64 m1.c0, .int .i64 m1.c1, .int .i64 m1.c2, .int .i64 m1.c3, .int .i64 m2.c0, .int .i64 m2.c1, .int .i64 m2.c2, .int .i64 m2.c3, .int .i64 m3.c0, .int .i64 m3.c1, .int .i64 m3.c2, .int .i64 m3.c3] 51)).alloc (.cells #[.int .i64 p.c0, .int .i64 p.c1, .int .i64 p.c2, .int .i64 p.c3] 24)) (b := w.heap.size + 1 + 1) (by simp) #[.int .i64 c.c0, .int .i64 c.c1, .int .i64 c.c2, .int .i64 c.c3] 24).alloc (.cells #[.int .i64 0, .int .i64 0, .int .i64 0, .int .i64 0] 24)).alloc (.cells #[.int .i64 0, .int .i64 0, .int .i64 0, .int .i64 0] 24)
  have R0 := (Blk.new' (w := ((w.alloc (.cells #[.int .i64 m0.c0, .int .i64 m0.c1, .int .i64 m0.c2, .int .i64 m0.c3, .int .i64 m1.c0, .int .i64 m1.c1, .int .i64 m1.c2, .int .i64 m1.c3, .int .i64 m2.c0, .int .i64 m2.c1, .int .i64 m2.c2, .int .i64 m2.c3, .int .i64 m3.c0, .int .i64 m3.c1, .int .i64 m3.c2, .int .i64 m3.c3] 51)).alloc (.cells #[.int .i64 p.c0, .int .i64 p.c1, .int .i64 p.c2, .int .i64 p.c3] 24)).alloc (.cells #[.int .i64 c.c0, .int .i64 c.c1, .int .i64 c.c2, .int .i64 c.c3] 24)) (b := w.heap.size + 1 + 1 + 1) (by simp) #[.int .i64 0, .int .i64 0, .int .i64 0, .int .i64 0] 24).alloc (.cells #[.int .i64 0, .int .i64 0, .int .i64 0, .int .i64 0] 24)
  have T0 := Blk.new' (w := (((w.alloc (.cells #[.int .i64 m0.c0, .int .i64 m0.c1, .int .i64 m0.c2, .int .i64 m0.c3, .int .i64 m1.c0, .int .i64 m1.c1, .int .i64 m1.c2, .int .i64 m1.c3, .int .i64 m2.c0, .int .i64 m2.c1, .int .i64 m2.c2, .int .i64 m2.c3, .int .i64 m3.c0, .int .i64 m3.c1, .int .i64 m3.c2, .int .i64 m3.c3] 51)).alloc (.cells #[.int .i64 p.c0, .int .i64 p.c1, .int .i64 p.c2, .int .i64 p.c3] 24)).alloc (.cells #[.int .i64 c.c0, .int .i64 c.c1, .int .i64 c.c2, .int .i64 c.c3] 24)).alloc (.cells #[.int .i64 0, .int .i64 0, .int .i64 0, .int .i64 0] 24)) (b := w.heap.size + 1 + 1 + 1 + 1) (by simp) #[.int .i64 0, .int .i64 0, .int .i64 0, .int .i64 0] 24
  have E0 := (((((Ext.refl w).alloc #[.int .i64 m0.c0, .int .i64 m0.c1, .int .i64 m0.c2, .int .i64 m0.c3, .int .i64 m1.c0, .int .i64 m1.c1, .int .i64 m1.c2, .int .i64 m1.c3, .int .i64 m2.c0, .int .i64 m2.c1, .int .i64 m2.c2, .int .i64 m2.c3, .int .i64 m3.c0, .int .i64 m3.c1, .int .i64 m3.c2, .int .i64 m3.c3] 51).alloc #[.int .i64 p.c0, .int .i64 p.c1, .int .i64 p.c2, .int .i64 p.c3] 24).alloc #[.int .i64 c.c0, .int .i64 c.c1, .int .i64 c.c2, .int .i64 c.c3] 24).alloc #[.int .i64 0, .int .i64 0, .int .i64 0, .int .i64 0] 24).alloc #[.int .i64 0, .int .i64 0, .int .i64 0, .int .i64 0] 24
  have HM0 := Lib.hid M0
  have HR0 := Lib.hid R0
  have HT0 := Lib.hid T0
  have HE0 := Lib.hid E0
  have HP0 := Lib.hid P0
  have HC0 := Lib.hid C0
  clear hs1 hP hok hc M0 R0 T0 E0 P0 C0 d00 d01 d02 d03 d10 d11 d12 d13 d20 d21 d22 d23 d30 d31 d32 d33 b0 b1 b2 b3 g0 g1 g2 g3
  go_enter Try.func18, Try.ntmps18
  go_upto_region 1 with fail
  generalize ((((w.alloc (.cells #[.int .i64 m0.c0, .int .i64 m0.c1, .int .i64 m0.c2, .int .i64 m0.c3, .int .i64 m1.c0, .int .i64 m1.c1, .int .i64 m1.c2, .int .i64 m1.c3, .int .i64 m2.c0, .int .i64 m2.c1, .int .i64 m2.c2, .int .i64 m2.c3, .int .i64 m3.c0, .int .i64 m3.c1, .int .i64 m3.c2, .int .i64 m3.c3] 51)).alloc (.cells #[.int .i64 p.c0, .int .i64 p.c1, .int .i64 p.c2, .int .i64 p.c3] 24)).alloc (.cells #[.int .i64 c.c0, .int .i64 c.c1, .int .i64 c.c2, .int .i64 c.c3] 24)).alloc (.cells #[.int .i64 0, .int .i64 0, .int .i64 0, .int .i64 0] 24)).alloc (.cells #[.int .i64 0, .int .i64 0, .int .i64 0, .int .i64 0] 24) = w0 at *
  have cP := HP0.out.cell
  have cC := HC0.out.cell
  have cM := HM0.out.cell
  have hz := HT0.out.lt
  generalize hwn : w.heap.size = n at *
  have HN := Lib.hid hwn
  clear hwn
  go_wp2_with fail
  show Calls Try.prog _ #[regsV (placeR p c m0 m1 m2 m3)] _ _
  refine (rstart_any (placeR p c m0 m1 m2 m3) rfl HBD.out _).mono ?_
  rintro e w2 ⟨rfl, x2⟩
  obtain ⟨s0, hs0⟩ : ∃ s0 : St, s0 = ⟨(placeR p c m0 m1 m2 m3).map clampZ, false, false, 0⟩ := ⟨_, rfl⟩
  rw [← hs0]
  have HS0 := Lib.hid (show s0 = st0 (placeR p c m0 m1 m2 m3) from hs0)
  have hrb0 : RB s0.rs := by rw [hs0]; exact st0_rb (rs := placeR p c m0 m1 m2 m3) rfl
  have hst : (stL s0).toArray.size = 51 := by simp [stL, hrb0.1]
  have hone : (stL s0).toArray.all (·.oneCell') = true := all_oneCell_toArray (fun v hv => by
    rcases List.mem_append.1 hv with h | h
    · obtain ⟨y, _, rfl⟩ := List.mem_map.1 h; rfl
    · simp at h; rcases h with rfl | rfl | rfl <;> rfl)
  have HRB0 := Lib.hid hrb0
  have HR2 := Lib.hid (HR0.out.ext x2)
  have HT2 := Lib.hid (HT0.out.ext x2)
  have HE2 := Lib.hid (HE0.out.trans x2)
  have Z2 := Blk.new w2 #[.int .i64 0, .int .i64 0, .int .i64 0, .int .i64 0, .int .i64 0, .int .i64 0, .int .i64 0, .int .i64 0, .int .i64 0, .int .i64 0, .int .i64 0, .int .i64 0, .int .i64 0, .int .i64 0, .int .i64 0, .int .i64 0, .int .i64 0, .int .i64 0, .int .i64 0, .int .i64 0, .int .i64 0, .int .i64 0, .int .i64 0, .int .i64 0, .int .i64 0, .int .i64 0, .int .i64 0, .int .i64 0, .int .i64 0, .int .i64 0, .int .i64 0, .int .i64 0, .int .i64 0, .int .i64 0, .int .i64 0, .int .i64 0, .int .i64 0, .int .i64 0, .int .i64 0, .int .i64 0, .int .i64 0, .int .i64 0, .int .i64 0, .int .i64 0, .int .i64 0, .int .i64 0, .int .i64 0, .int .i64 0, .bool false, .bool false, .int .i64 0] 35
  clear hs0 x2 cP cC cM hrb0 HR0 HT0 HM0 HP0 HC0
  go_wp2_with (first
    | ((with_reducible refine wpList_store_blk (op := ⟨none, .store 35 (.tmp 10) (.tmp 24), _, _, _, _⟩) ?_ 35 (.tmp 10) (.tmp 24) ?_ w2.heap.size ?_ (cs := (stL s0).toArray) ?_ (T := 35) Z2 ?_ ?_ ?_ ?_); rfl; rfl; rfl; rfl; (rw [hst]; kernel_rfl); exact hone; (rw [hst]; rfl))
    | fail)
  have S3 : StAt _ w2.heap.size s0 := ⟨Z2.setRow _, HRB0.out.1⟩
  have E3 := Ext.setRow ((Ext.refl w2).alloc #[.int .i64 0, .int .i64 0, .int .i64 0, .int .i64 0, .int .i64 0, .int .i64 0, .int .i64 0, .int .i64 0, .int .i64 0, .int .i64 0, .int .i64 0, .int .i64 0, .int .i64 0, .int .i64 0, .int .i64 0, .int .i64 0, .int .i64 0, .int .i64 0, .int .i64 0, .int .i64 0, .int .i64 0, .int .i64 0, .int .i64 0, .int .i64 0, .int .i64 0, .int .i64 0, .int .i64 0, .int .i64 0, .int .i64 0, .int .i64 0, .int .i64 0, .int .i64 0, .int .i64 0, .int .i64 0, .int .i64 0, .int .i64 0, .int .i64 0, .int .i64 0, .int .i64 0, .int .i64 0, .int .i64 0, .int .i64 0, .int .i64 0, .int .i64 0, .int .i64 0, .int .i64 0, .int .i64 0, .int .i64 0, .bool false, .bool false, .int .i64 0] 35) (Nat.le_refl _) (stL s0).toArray
  generalize (w2.alloc (.cells #[.int .i64 0, .int .i64 0, .int .i64 0, .int .i64 0, .int .i64 0, .int .i64 0, .int .i64 0, .int .i64 0, .int .i64 0, .int .i64 0, .int .i64 0, .int .i64 0, .int .i64 0, .int .i64 0, .int .i64 0, .int .i64 0, .int .i64 0, .int .i64 0, .int .i64 0, .int .i64 0, .int .i64 0, .int .i64 0, .int .i64 0, .int .i64 0, .int .i64 0, .int .i64 0, .int .i64 0, .int .i64 0, .int .i64 0, .int .i64 0, .int .i64 0, .int .i64 0, .int .i64 0, .int .i64 0, .int .i64 0, .int .i64 0, .int .i64 0, .int .i64 0, .int .i64 0, .int .i64 0, .int .i64 0, .int .i64 0, .int .i64 0, .int .i64 0, .int .i64 0, .int .i64 0, .int .i64 0, .int .i64 0, .bool false, .bool false, .int .i64 0] 35)).setRow w2.heap.size (stL s0).toArray = w3 at *
  have HE3 := Lib.hid (HE2.out.trans E3)
  have HR3 := Lib.hid (HR2.out.ext E3)
  have HT3 := Lib.hid (HT2.out.ext E3)
  have hz2 := HT2.out.lt
  have hn := HN.out
  have hsz2 := HE2.out.size
  refine (rrun_valid _ base w2.heap.size q HOK.out HC.out (fun k hk => by have := (HP.out.lt k hk).2; omega) s0 _ (HP.out.ext HE3.out) S3 HRB0.out (by rw [HS0.out]; exact Int.le_refl _) (by rw [HS0.out]; show (0 : Int) ≤ 1000000; omega)).mono ?_
  rintro e w4 ⟨rfl, S4, K4⟩
  rw [HS0.out, HS1.out] at S4
  have R4 := HR3.out.calm K4 (by simp; omega)
  have T4 := HT3.out.calm K4 (by simp; omega)
  have HE4 := Lib.hid (Ext.calm_trans HE3.out K4 (fun g hg => by simp at hg; omega))
  clear hst hone Z2 E3 K4 S3
  go_wp2_with fail
  refine rplace_r3 _ _ _ _ _ _ _ _ _ _ _ _ _ _ _ _ _ _ _ _ _ _ _ _ _ _ _ _ _ _ _ _ _ _ w2.heap.size (n + 1 + 1 + 1) (n + 1 + 1 + 1 + 1) s1 w4 S4 R4 T4 (by omega) (by omega) ?_
  rintro g0 g1 g2 g3 g4 g5 g6 g7 w5 ⟨R5, T5, k5⟩
  have E5 := Ext.calm_trans HE4.out k5 (fun g hg => by simp at hg; omega)
  have c5 := R5.cell
  have t5 := T5.cell
  go_wp2
  exact bodyPost_ret (v := .tuple #[.agg #[.int .i64 ((regAt s1.rs 0).lim (-4194304) 4194304).c0, .int .i64 ((regAt s1.rs 0).lim (-4194304) 4194304).c1, .int .i64 ((regAt s1.rs 0).lim (-4194304) 4194304).c2, .int .i64 ((regAt s1.rs 0).lim (-4194304) 4194304).c3], .agg #[.int .i64 ((regAt s1.rs 1).lim 0 65536).c0, .int .i64 ((regAt s1.rs 1).lim 0 65536).c1, .int .i64 ((regAt s1.rs 1).lim 0 65536).c2, .int .i64 ((regAt s1.rs 1).lim 0 65536).c3]]) (by simp [results, Try.results18, go_sem, c5, t5]) rfl ⟨rfl, E5⟩
end Go.Proofs.Ytellfhnfifgpoaa

