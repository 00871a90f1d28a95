/-
  DERIVED. vm's computed: the regions that draw their order, walked apart (made by mkvm.py). · vm's computed, one theorem an op (made by mkvm.py).
-/
import Derived.Test.YtellfhnfifgpoaaPkPlain
import Derived.Test.YtellfhnfifgpoaaPkFix
import Derived.Test.YtellfhnfifgpoaaPkMat
namespace Go.Proofs.Ytellfhnfifgpoaa
open Go.RowKit
set_option linter.unusedVariables false
theorem Q31.wide {n : Int} (h : Q31 n) : -9223372036854775808 ≤ n ∧ n ≤ 9223372036854775807 := by unfold Q31 at h; omega
theorem component_nat (n : Int) (hn : -1000000 ≤ n ∧ n ≤ 1000000) (j : Nat) (hj : n % 4 = j) (w : World) : Calls Try.prog 59 #[.int .i64 n] w fun e w' => e = .returned (.int .i64 (j : Int)) ∧ Qt w w' := by
  rw [← hj]
  exact component_any n hn w
theorem V4.cell {w : World} {b : Nat} {v : V4} (h : Blk w b #[.int .i64 v.c0, .int .i64 v.c1, .int .i64 v.c2, .int .i64 v.c3] 29) (j : Nat) (hj : j < 4) : w.cell? ⟨b, j, none⟩ = some (.int .i64 (v.get j)) := by
  rw [h.cell]
  have : j = 0 ∨ j = 1 ∨ j = 2 ∨ j = 3 := by omega
  rcases this with rfl | rfl | rfl | rfl <;> rfl
theorem V4.spliced (v : V4) (j : Nat) (hj : j < 4) (n : Int) : ((#[.int .i64 v.c0, .int .i64 v.c1, .int .i64 v.c2, .int .i64 v.c3] : Array Value).toList.take j ++ (Value.int .i64 n).cells.toList ++ (#[.int .i64 v.c0, .int .i64 v.c1, .int .i64 v.c2, .int .i64 v.c3] : Array Value).toList.drop (j + (Value.int .i64 n).cells.size)).toArray = #[.int .i64 (v.put j n).c0, .int .i64 (v.put j n).c1, .int .i64 (v.put j n).c2, .int .i64 (v.put j n).c3] := by
  have : j = 0 ∨ j = 1 ∨ j = 2 ∨ j = 3 := by omega
  rcases this with rfl | rfl | rfl | rfl <;> rfl
def matT (rs : List Int) (k : Nat) (v : V4) : V4 := ⟨(regAt rs k).dot v, (regAt rs (k + 1)).dot v, (regAt rs (k + 2)).dot v, (regAt rs (k + 3)).dot v⟩
theorem times_mat (rs : List Int) (hR : RB rs) (k : Nat) (v : V4) (hv : v.ok) (w : World) : Calls Try.prog 61 #[.agg (matC rs k).toArray, .agg #[.int .i64 v.c0, .int .i64 v.c1, .int .i64 v.c2, .int .i64 v.c3]] w fun e w' => e = .returned (.agg #[.int .i64 (matT rs k v).c0, .int .i64 (matT rs k v).c1, .int .i64 (matT rs k v).c2, .int .i64 (matT rs k v).c3]) ∧ Ext w w' := by
  have h := times_any (rs.getD (k * 4 + 0) 0) (rs.getD (k * 4 + 1) 0) (rs.getD (k * 4 + 2) 0) (rs.getD (k * 4 + 3) 0) (rs.getD (k * 4 + 4) 0) (rs.getD (k * 4 + 5) 0) (rs.getD (k * 4 + 6) 0) (rs.getD (k * 4 + 7) 0) (rs.getD (k * 4 + 8) 0) (rs.getD (k * 4 + 9) 0) (rs.getD (k * 4 + 10) 0) (rs.getD (k * 4 + 11) 0) (rs.getD (k * 4 + 12) 0) (rs.getD (k * 4 + 13) 0) (rs.getD (k * 4 + 14) 0) (rs.getD (k * 4 + 15) 0) v.c0 v.c1 v.c2 v.c3 (hR.getD _).wide (hR.getD _).wide (hR.getD _).wide (hR.getD _).wide (hR.getD _).wide (hR.getD _).wide (hR.getD _).wide (hR.getD _).wide (hR.getD _).wide (hR.getD _).wide (hR.getD _).wide (hR.getD _).wide (hR.getD _).wide (hR.getD _).wide (hR.getD _).wide (hR.getD _).wide hv.1.wide hv.2.1.wide hv.2.2.1.wide hv.2.2.2.wide w
  simp only [matT, regAt, V4.dot, Nat.add_mul, Nat.add_assoc]
  exact h
set_option maxRecDepth 100000 in
set_option maxHeartbeats 4000000 in
theorem comp_r1 (f1 f2 f4 f5 f6 f7 f8 f9 f10 f11 f12 f13 f14 f15 f16 f17 f18 f19 f20 f21 f22 f23 f24 f25 f26 f27 f28 f29 f30 f31 f32 f33 f34 f35 f36 f37 f38 f39 f40 f41 f42 f43 f44 f45 f46 f47 f48 f49 f50 f51 f52 f53 f54 f55 f56 f57 f58 f59 f60 f61 f62 f63 f64 f65 f66 f67 f68 f69 f70 f71 f72 f73 f74 f75 f76 f77 f78 f79 f80 f81 f82 f83 f84 f85 f86 f87 f88 f89 f90 f91 f92 f93 f94 f95 f96 f97 f98 f99 f100 f101 f102 f103 : Value) (mb xb kd ka kb : Nat) (op imm : Int) (vp : Value) (s : St) (w : World) (hM : MAt w mb vp s) (hX : Blk w xb #[.int .u8 op, .int .u8 (kd : Int), .int .u8 (ka : Int), .int .u8 (kb : Int), .int .i16 imm] 70) (hkd : kd < 12) (hka : ka < 12) (hkb : kb < 12) {Q : Exit → Act → World → Prop}
    (hQ : ∀ (c8 c9 c10 c11 c12 c13 c14 c15 c16 c17 c18 c19 c20 c21 c22 c23 : Value) (wx : World) (ba bb : Nat), Blk wx ba #[.int .i64 (regAt s.rs ka).c0, .int .i64 (regAt s.rs ka).c1, .int .i64 (regAt s.rs ka).c2, .int .i64 (regAt s.rs ka).c3] 29 ∧ Blk wx bb #[.int .i64 (regAt s.rs kb).c0, .int .i64 (regAt s.rs kb).c1, .int .i64 (regAt s.rs kb).c2, .int .i64 (regAt s.rs kb).c3] 29 ∧ ba ≠ bb ∧ w.heap.size ≤ ba ∧ w.heap.size ≤ bb ∧ Ext w wx → Q .normal ⟨(Value.pointer (some ⟨mb, 0, none⟩) :: f1 :: f2 :: Value.pointer (some ⟨xb, 0, none⟩) :: f4 :: Value.pointer (some ⟨ba, 0, none⟩) :: Value.pointer (some ⟨bb, 0, none⟩) :: f7 :: c8 :: c9 :: c10 :: c11 :: c12 :: c13 :: c14 :: c15 :: c16 :: c17 :: c18 :: c19 :: c20 :: c21 :: c22 :: c23 :: f24 :: f25 :: f26 :: f27 :: f28 :: f29 :: f30 :: f31 :: f32 :: f33 :: f34 :: f35 :: f36 :: f37 :: f38 :: f39 :: f40 :: f41 :: f42 :: f43 :: f44 :: f45 :: f46 :: f47 :: f48 :: f49 :: f50 :: f51 :: f52 :: f53 :: f54 :: f55 :: f56 :: f57 :: f58 :: f59 :: f60 :: f61 :: f62 :: f63 :: f64 :: f65 :: f66 :: f67 :: f68 :: f69 :: f70 :: f71 :: f72 :: f73 :: f74 :: f75 :: f76 :: f77 :: f78 :: f79 :: f80 :: f81 :: f82 :: f83 :: f84 :: f85 :: f86 :: f87 :: f88 :: f89 :: f90 :: f91 :: f92 :: f93 :: f94 :: f95 :: f96 :: f97 :: f98 :: f99 :: f100 :: f101 :: f102 :: f103 :: List.nil).toArray, []⟩ wx) : Code.wp Try.prog (regionOf Try.f52 1) Q ⟨(Value.pointer (some ⟨mb, 0, none⟩) :: f1 :: f2 :: Value.pointer (some ⟨xb, 0, none⟩) :: f4 :: f5 :: f6 :: f7 :: f8 :: f9 :: f10 :: f11 :: f12 :: f13 :: f14 :: f15 :: f16 :: f17 :: f18 :: f19 :: f20 :: f21 :: f22 :: f23 :: f24 :: f25 :: f26 :: f27 :: f28 :: f29 :: f30 :: f31 :: f32 :: f33 :: f34 :: f35 :: f36 :: f37 :: f38 :: f39 :: f40 :: f41 :: f42 :: f43 :: f44 :: f45 :: f46 :: f47 :: f48 :: f49 :: f50 :: f51 :: f52 :: f53 :: f54 :: f55 :: f56 :: f57 :: f58 :: f59 :: f60 :: f61 :: f62 :: f63 :: f64 :: f65 :: f66 :: f67 :: f68 :: f69 :: f70 :: f71 :: f72 :: f73 :: f74 :: f75 :: f76 :: f77 :: f78 :: f79 :: f80 :: f81 :: f82 :: f83 :: f84 :: f85 :: f86 :: f87 :: f88 :: f89 :: f90 :: f91 :: f92 :: f93 :: f94 :: f95 :: f96 :: f97 :: f98 :: f99 :: f100 :: f101 :: f102 :: f103 :: List.nil).toArray, []⟩ w := by
  have HQ := Lib.hid hQ
  clear hQ
  change Code.wp Try.prog (Code.region _ _ true) _ _ _
  apply wp_region_vars [false, false, false, false, false, false, false, false, false, false, false, false, false, false, false, false, true, true, true, true] [] [⟨some 16, 5, 0, some 18, 29, #[.int .i64 0, .int .i64 0, .int .i64 0, .int .i64 0], #[.int .i64 (regAt s.rs ka).c0, .int .i64 (regAt s.rs ka).c1, .int .i64 (regAt s.rs ka).c2, .int .i64 (regAt s.rs ka).c3]⟩, ⟨some 17, 6, 0, some 19, 29, #[.int .i64 0, .int .i64 0, .int .i64 0, .int .i64 0], #[.int .i64 (regAt s.rs kb).c0, .int .i64 (regAt s.rs kb).c1, .int .i64 (regAt s.rs kb).c2, .int .i64 (regAt s.rs kb).c3]⟩] _ (by kernel_rfl) (by kernel_rfl) (by kernel_rfl)
  case H =>
    intro x hx
    have hne : Nonempty (Wx x) := ⟨⟨x, Ext.refl x⟩⟩
    have qhX := fun (y : Wx x) => ((hX.calm hx (by simp)).ext y.ext).cell
    have qka0 := fun (y : Wx x) => (((hM.calm hx (by simp)).ext y.ext).reg ka hka).1
    have qka1 := fun (y : Wx x) => (((hM.calm hx (by simp)).ext y.ext).reg ka hka).2.1
    have qka2 := fun (y : Wx x) => (((hM.calm hx (by simp)).ext y.ext).reg ka hka).2.2.1
    have qka3 := fun (y : Wx x) => (((hM.calm hx (by simp)).ext y.ext).reg ka hka).2.2.2
    have qkb0 := fun (y : Wx x) => (((hM.calm hx (by simp)).ext y.ext).reg kb hkb).1
    have qkb1 := fun (y : Wx x) => (((hM.calm hx (by simp)).ext y.ext).reg kb hkb).2.1
    have qkb2 := fun (y : Wx x) => (((hM.calm hx (by simp)).ext y.ext).reg kb hkb).2.2.1
    have qkb3 := fun (y : Wx x) => (((hM.calm hx (by simp)).ext y.ext).reg kb hkb).2.2.2
    simp only [eraseM]
    repeat (go_big_quiet_step (fail))
    exact wpQuiet_nil rfl
  case hok =>
    simp only [List.forall_mem_cons, List.not_mem_nil, false_implies, implies_true, and_true]
    exact ⟨tgt_fresh (by simp) rfl rfl mkV rfl rfl rfl rfl (by kernel_rfl) (by kernel_rfl) rfl, tgt_fresh (by simp) rfl rfl mkV rfl rfl rfl rfl (by kernel_rfl) (by kernel_rfl) rfl⟩
  case hdis =>
    intro k k' t t' hk hk' hkk ha ha'
    exfalso
    have := List.mem_of_getElem? hk
    simp only [List.mem_cons, List.not_mem_nil, or_false] at this
    rcases this with rfl | rfl <;> cases ha
  rintro w2 f hw ⟨k0, l0, d0, u0, k1, l1, d1, u1, -⟩
  have hx2 := hw.ext
  simp only [pairs, putAll, Option.isSome_some, if_true, Act.put, List.setIfInBounds_toArray, List.set_cons_succ, List.set_cons_zero]
  exact HQ.out _ _ _ _ _ _ _ _ _ _ _ _ _ _ _ _ w2 (f 0) (f 1) ⟨d0, d1, u1 0 (by omega), k0, k1, hx2⟩
set_option maxRecDepth 100000 in
set_option maxHeartbeats 4000000 in
theorem comp_r20 (f1 f2 f4 f5 f6 f7 f8 f9 f10 f11 f12 f13 f14 f15 f16 f17 f18 f19 f20 f21 f22 f23 f24 f25 f26 f27 f28 f29 f30 f31 f32 f33 f34 f35 f36 f37 f38 f39 f40 f41 f42 f43 f44 f45 f46 f47 f48 f49 f50 f51 f52 f53 f54 f55 f56 f57 f58 f59 f60 f61 f62 f63 f64 f65 f66 f67 f68 f69 f70 f71 f72 f73 f74 f75 f76 f77 f78 f79 f80 f81 f82 f83 f84 f85 f86 f87 f88 f89 f90 f91 f92 f93 f94 f95 f96 f97 f98 f99 f100 f101 f102 f103 : Value) (mb xb kd ka kb : Nat) (op imm : Int) (vp : Value) (s : St) (w : World) (hM : MAt w mb vp s) (hX : Blk w xb #[.int .u8 op, .int .u8 (kd : Int), .int .u8 (ka : Int), .int .u8 (kb : Int), .int .i16 imm] 70) (hkd : kd < 12) (hka : ka < 12) (hkb : kb < 12) {Q : Exit → Act → World → Prop}
    (hQ : ∀ (c75 c76 c77 c78 c79 c80 c81 c82 : Value) (wx : World) (bd : Nat), Blk wx bd #[.int .i64 (regAt s.rs kd).c0, .int .i64 (regAt s.rs kd).c1, .int .i64 (regAt s.rs kd).c2, .int .i64 (regAt s.rs kd).c3] 29 ∧ w.heap.size ≤ bd ∧ Ext w wx → Q .normal ⟨(Value.pointer (some ⟨mb, 0, none⟩) :: f1 :: f2 :: Value.pointer (some ⟨xb, 0, none⟩) :: f4 :: f5 :: f6 :: Value.pointer (some ⟨bd, 0, none⟩) :: f8 :: f9 :: f10 :: f11 :: f12 :: f13 :: f14 :: f15 :: f16 :: f17 :: f18 :: f19 :: f20 :: f21 :: f22 :: f23 :: f24 :: f25 :: f26 :: f27 :: f28 :: f29 :: f30 :: f31 :: f32 :: f33 :: f34 :: f35 :: f36 :: f37 :: f38 :: f39 :: f40 :: f41 :: f42 :: f43 :: f44 :: f45 :: f46 :: f47 :: f48 :: f49 :: f50 :: f51 :: f52 :: f53 :: f54 :: f55 :: f56 :: f57 :: f58 :: f59 :: f60 :: f61 :: f62 :: f63 :: f64 :: f65 :: f66 :: f67 :: f68 :: f69 :: f70 :: f71 :: f72 :: f73 :: f74 :: c75 :: c76 :: c77 :: c78 :: c79 :: c80 :: c81 :: c82 :: f83 :: f84 :: f85 :: f86 :: f87 :: f88 :: f89 :: f90 :: f91 :: f92 :: f93 :: f94 :: f95 :: f96 :: f97 :: f98 :: f99 :: f100 :: f101 :: f102 :: f103 :: List.nil).toArray, []⟩ wx) : Code.wp Try.prog (regionOf Try.f52 20) Q ⟨(Value.pointer (some ⟨mb, 0, none⟩) :: f1 :: f2 :: Value.pointer (some ⟨xb, 0, none⟩) :: f4 :: f5 :: f6 :: f7 :: f8 :: f9 :: f10 :: f11 :: f12 :: f13 :: f14 :: f15 :: f16 :: f17 :: f18 :: f19 :: f20 :: f21 :: f22 :: f23 :: f24 :: f25 :: f26 :: f27 :: f28 :: f29 :: f30 :: f31 :: f32 :: f33 :: f34 :: f35 :: f36 :: f37 :: f38 :: f39 :: f40 :: f41 :: f42 :: f43 :: f44 :: f45 :: f46 :: f47 :: f48 :: f49 :: f50 :: f51 :: f52 :: f53 :: f54 :: f55 :: f56 :: f57 :: f58 :: f59 :: f60 :: f61 :: f62 :: f63 :: f64 :: f65 :: f66 :: f67 :: f68 :: f69 :: f70 :: f71 :: f72 :: f73 :: f74 :: f75 :: f76 :: f77 :: f78 :: f79 :: f80 :: f81 :: f82 :: f83 :: f84 :: f85 :: f86 :: f87 :: f88 :: f89 :: f90 :: f91 :: f92 :: f93 :: f94 :: f95 :: f96 :: f97 :: f98 :: f99 :: f100 :: f101 :: f102 :: f103 :: List.nil).toArray, []⟩ w := by
  have HQ := Lib.hid hQ
  clear hQ
  change Code.wp Try.prog (Code.region _ _ true) _ _ _
  apply wp_region_vars [false, false, false, false, false, false, false, false, true, true] [] [⟨some 8, 7, 0, some 9, 29, #[.int .i64 0, .int .i64 0, .int .i64 0, .int .i64 0], #[.int .i64 (regAt s.rs kd).c0, .int .i64 (regAt s.rs kd).c1, .int .i64 (regAt s.rs kd).c2, .int .i64 (regAt s.rs kd).c3]⟩] _ (by kernel_rfl) (by kernel_rfl) (by kernel_rfl)
  case H =>
    intro x hx
    have hne : Nonempty (Wx x) := ⟨⟨x, Ext.refl x⟩⟩
    have qhX := fun (y : Wx x) => ((hX.calm hx (by simp)).ext y.ext).cell
    have qkd0 := fun (y : Wx x) => (((hM.calm hx (by simp)).ext y.ext).reg kd hkd).1
    have qkd1 := fun (y : Wx x) => (((hM.calm hx (by simp)).ext y.ext).reg kd hkd).2.1
    have qkd2 := fun (y : Wx x) => (((hM.calm hx (by simp)).ext y.ext).reg kd hkd).2.2.1
    have qkd3 := fun (y : Wx x) => (((hM.calm hx (by simp)).ext y.ext).reg kd hkd).2.2.2
    simp only [eraseM]
    repeat (go_big_quiet_step (fail))
    exact wpQuiet_nil rfl
  case hok =>
    simp only [List.forall_mem_cons, List.not_mem_nil, false_implies, implies_true, and_true]
    exact tgt_fresh (by simp) rfl rfl mkV rfl rfl rfl rfl (by kernel_rfl) (by kernel_rfl) rfl
  case hdis =>
    intro k k' t t' hk hk' hkk ha ha'
    exfalso
    have := List.mem_of_getElem? hk
    simp only [List.mem_cons, List.not_mem_nil, or_false] at this
    subst this; cases ha
  rintro w2 f hw ⟨k0, l0, d0, u0, -⟩
  have hx2 := hw.ext
  simp only [pairs, putAll, Option.isSome_some, if_true, Act.put, List.setIfInBounds_toArray, List.set_cons_succ, List.set_cons_zero]
  exact HQ.out _ _ _ _ _ _ _ _ w2 (f 0) ⟨d0, k0, hx2⟩
set_option maxRecDepth 100000 in
set_option maxHeartbeats 4000000 in
theorem comp_r21 (f0 f1 f2 f4 f6 f8 f9 f10 f11 f12 f13 f14 f15 f16 f17 f18 f19 f20 f21 f22 f23 f24 f25 f26 f27 f28 f29 f30 f31 f32 f33 f34 f35 f36 f37 f38 f39 f40 f41 f42 f43 f44 f45 f46 f47 f48 f49 f50 f51 f52 f53 f54 f55 f56 f57 f58 f59 f60 f61 f62 f63 f64 f65 f66 f67 f68 f69 f70 f71 f72 f73 f74 f75 f76 f77 f78 f79 f80 f81 f82 f83 f84 f85 f86 f87 f88 f89 f90 f91 f92 f93 f94 f95 f96 f97 f98 f99 f100 f101 f102 f103 : Value) (xb ba bd kd ka kb jb jm : Nat) (op imm : Int) (va vd : V4) (w : World) (hX : Blk w xb #[.int .u8 op, .int .u8 (kd : Int), .int .u8 (ka : Int), .int .u8 (kb : Int), .int .i16 imm] 70) (hA : Blk w ba #[.int .i64 va.c0, .int .i64 va.c1, .int .i64 va.c2, .int .i64 va.c3] 29) (hD : Blk w bd #[.int .i64 vd.c0, .int .i64 vd.c1, .int .i64 vd.c2, .int .i64 vd.c3] 29) (hkb : kb < 12) (himm : -32768 ≤ imm ∧ imm ≤ 32767) (hjb : (kb : Int) % 4 = jb) (hjm : imm % 4 = jm) (nx : xb ≠ bd) (na : ba ≠ bd) {Q : Exit → Act → World → Prop}
    (hQ : ∀ (c83 c84 c85 c86 c87 c88 c89 c90 c91 c92 c93 : Value) (wx : World) , Blk wx bd #[.int .i64 (vd.put jb (va.get jm)).c0, .int .i64 (vd.put jb (va.get jm)).c1, .int .i64 (vd.put jb (va.get jm)).c2, .int .i64 (vd.put jb (va.get jm)).c3] 29 ∧ Calm [bd] w wx → Q .normal ⟨(f0 :: f1 :: f2 :: Value.pointer (some ⟨xb, 0, none⟩) :: f4 :: Value.pointer (some ⟨ba, 0, none⟩) :: f6 :: Value.pointer (some ⟨bd, 0, none⟩) :: f8 :: f9 :: f10 :: f11 :: f12 :: f13 :: f14 :: f15 :: f16 :: f17 :: f18 :: f19 :: f20 :: f21 :: f22 :: f23 :: f24 :: f25 :: f26 :: f27 :: f28 :: f29 :: f30 :: f31 :: f32 :: f33 :: f34 :: f35 :: f36 :: f37 :: f38 :: f39 :: f40 :: f41 :: f42 :: f43 :: f44 :: f45 :: f46 :: f47 :: f48 :: f49 :: f50 :: f51 :: f52 :: f53 :: f54 :: f55 :: f56 :: f57 :: f58 :: f59 :: f60 :: f61 :: f62 :: f63 :: f64 :: f65 :: f66 :: f67 :: f68 :: f69 :: f70 :: f71 :: f72 :: f73 :: f74 :: f75 :: f76 :: f77 :: f78 :: f79 :: f80 :: f81 :: f82 :: c83 :: c84 :: c85 :: c86 :: c87 :: c88 :: c89 :: c90 :: c91 :: c92 :: c93 :: f94 :: f95 :: f96 :: f97 :: f98 :: f99 :: f100 :: f101 :: f102 :: f103 :: List.nil).toArray, []⟩ wx) : Code.wp Try.prog (regionOf Try.f52 21) Q ⟨(f0 :: f1 :: f2 :: Value.pointer (some ⟨xb, 0, none⟩) :: f4 :: Value.pointer (some ⟨ba, 0, none⟩) :: f6 :: Value.pointer (some ⟨bd, 0, none⟩) :: f8 :: f9 :: f10 :: f11 :: f12 :: f13 :: f14 :: f15 :: f16 :: f17 :: f18 :: f19 :: f20 :: f21 :: f22 :: f23 :: f24 :: f25 :: f26 :: f27 :: f28 :: f29 :: f30 :: f31 :: f32 :: f33 :: f34 :: f35 :: f36 :: f37 :: f38 :: f39 :: f40 :: f41 :: f42 :: f43 :: f44 :: f45 :: f46 :: f47 :: f48 :: f49 :: f50 :: f51 :: f52 :: f53 :: f54 :: f55 :: f56 :: f57 :: f58 :: f59 :: f60 :: f61 :: f62 :: f63 :: f64 :: f65 :: f66 :: f67 :: f68 :: f69 :: f70 :: f71 :: f72 :: f73 :: f74 :: f75 :: f76 :: f77 :: f78 :: f79 :: f80 :: f81 :: f82 :: f83 :: f84 :: f85 :: f86 :: f87 :: f88 :: f89 :: f90 :: f91 :: f92 :: f93 :: f94 :: f95 :: f96 :: f97 :: f98 :: f99 :: f100 :: f101 :: f102 :: f103 :: List.nil).toArray, []⟩ w := by
  have HQ := Lib.hid hQ
  clear hQ
  have hj1 : jb < 4 := by omega
  have hj2 : jm < 4 := by omega
  have hw1 : IntKind.i64.wrap (kb : Int) = kb := by rw [IntKind.wrap_i64]; omega
  have hw2 : IntKind.i64.wrap imm = imm := by rw [IntKind.wrap_i64]; omega
  change Code.wp Try.prog (Code.region _ _ true) _ _ _
  apply wp_region_vars [false, false, false, false, false, false, false, false, false, false, false, true] [bd] [⟨none, 0, bd, some 11, 29, #[.int .i64 vd.c0, .int .i64 vd.c1, .int .i64 vd.c2, .int .i64 vd.c3], #[.int .i64 (vd.put jb (va.get jm)).c0, .int .i64 (vd.put jb (va.get jm)).c1, .int .i64 (vd.put jb (va.get jm)).c2, .int .i64 (vd.put jb (va.get jm)).c3]⟩] _ (by kernel_rfl) (by kernel_rfl) (by kernel_rfl)
  case H =>
    intro x hx
    have hne : Nonempty (Wx x) := ⟨⟨x, Ext.refl x⟩⟩
    have qhX := fun (y : Wx x) => ((hX.calm hx (by simpa using nx)).ext y.ext).cell
    have qA := fun (y : Wx x) => V4.cell ((hA.calm hx (by simpa using na)).ext y.ext) jm hj2
    simp only [eraseM]
    repeat (go_big_quiet_step (first | (go_at_call 59; exact calm_qt (component_nat _ (by omega) jb hjb _)) | (go_at_call 59; exact calm_qt (component_nat _ (by omega) jm hjm _))))
    exact wpQuiet_nil rfl
  case hok =>
    simp only [List.forall_mem_cons, List.not_mem_nil, false_implies, implies_true, and_true]
    exact tgt_mine (v := .int .i64 (va.get jm)) (off := jb) (by simp) hD rfl rfl rfl rfl rfl rfl (by kernel_rfl) (by kernel_rfl) (by simp [Value.cells]; omega) (V4.spliced vd jb hj1 (va.get jm))
  case hdis =>
    intro k k' t t' hk hk' hkk ha ha'
    exfalso
    have h1 : k < 1 := (List.getElem?_eq_some_iff.1 hk).1
    have h2 : k' < 1 := (List.getElem?_eq_some_iff.1 hk').1
    omega
  rintro w2 f hw ⟨k0, l0, d0, u0, -⟩
  have e0 : f 0 = bd := k0
  rw [e0] at d0
  exact HQ.out _ _ _ _ _ _ _ _ _ _ _ w2 ⟨d0, hw⟩
set_option maxRecDepth 100000 in
set_option maxHeartbeats 4000000 in
theorem comp_r24 (f1 f2 f5 f7 f8 f9 f10 f11 f12 f13 f14 f15 f16 f17 f18 f19 f20 f21 f22 f23 f24 f25 f26 f27 f28 f29 f30 f31 f32 f33 f34 f35 f36 f37 f38 f39 f40 f41 f42 f43 f44 f45 f46 f47 f48 f49 f50 f51 f52 f53 f54 f55 f56 f57 f58 f59 f60 f61 f62 f63 f64 f65 f66 f67 f68 f69 f70 f71 f72 f73 f74 f75 f76 f77 f78 f79 f80 f81 f82 f83 f84 f85 f86 f87 f88 f89 f90 f91 f92 f93 f94 f95 f96 f97 f98 f99 f100 f101 f102 f103 : Value) (mb xb kd ka kb : Nat) (op imm : Int) (vp : Value) (s : St) (w : World) (hM : MAt w mb vp s) (hX : Blk w xb #[.int .u8 op, .int .u8 (kd : Int), .int .u8 (ka : Int), .int .u8 (kb : Int), .int .i16 imm] 70) (hkd : kd < 12) (hka : ka < 12) (hkb : kb < 12) (rb bb : Nat) (vb : V4) (hB : Blk w bb #[.int .i64 vb.c0, .int .i64 vb.c1, .int .i64 vb.c2, .int .i64 vb.c3] 29) (hR : Blk w rb #[.int .i64 0, .int .i64 0, .int .i64 0, .int .i64 0] 29) (hRB : RB s.rs) (hvb : vb.ok) (h8 : ka < 9) (nx : xb ≠ rb) (nb : bb ≠ rb) (nm : mb ≠ rb) {Q : Exit → Act → World → Prop}
    (hQ : ∀ (c97 c98 c99 c100 c101 c102 : Value) (wx : World) , Blk wx rb #[.int .i64 (matT s.rs ka vb).c0, .int .i64 (matT s.rs ka vb).c1, .int .i64 (matT s.rs ka vb).c2, .int .i64 (matT s.rs ka vb).c3] 29 ∧ Calm [rb] w wx → Q .normal ⟨(Value.pointer (some ⟨mb, 0, none⟩) :: f1 :: f2 :: Value.pointer (some ⟨xb, 0, none⟩) :: Value.pointer (some ⟨rb, 0, none⟩) :: f5 :: Value.pointer (some ⟨bb, 0, none⟩) :: f7 :: f8 :: f9 :: f10 :: f11 :: f12 :: f13 :: f14 :: f15 :: f16 :: f17 :: f18 :: f19 :: f20 :: f21 :: f22 :: f23 :: f24 :: f25 :: f26 :: f27 :: f28 :: f29 :: f30 :: f31 :: f32 :: f33 :: f34 :: f35 :: f36 :: f37 :: f38 :: f39 :: f40 :: f41 :: f42 :: f43 :: f44 :: f45 :: f46 :: f47 :: f48 :: f49 :: f50 :: f51 :: f52 :: f53 :: f54 :: f55 :: f56 :: f57 :: f58 :: f59 :: f60 :: f61 :: f62 :: f63 :: f64 :: f65 :: f66 :: f67 :: f68 :: f69 :: f70 :: f71 :: f72 :: f73 :: f74 :: f75 :: f76 :: f77 :: f78 :: f79 :: f80 :: f81 :: f82 :: f83 :: f84 :: f85 :: f86 :: f87 :: f88 :: f89 :: f90 :: f91 :: f92 :: f93 :: f94 :: f95 :: f96 :: c97 :: c98 :: c99 :: c100 :: c101 :: c102 :: f103 :: List.nil).toArray, []⟩ wx) : Code.wp Try.prog (regionOf Try.f52 24) Q ⟨(Value.pointer (some ⟨mb, 0, none⟩) :: f1 :: f2 :: Value.pointer (some ⟨xb, 0, none⟩) :: Value.pointer (some ⟨rb, 0, none⟩) :: f5 :: Value.pointer (some ⟨bb, 0, none⟩) :: f7 :: f8 :: f9 :: f10 :: f11 :: f12 :: f13 :: f14 :: f15 :: f16 :: f17 :: f18 :: f19 :: f20 :: f21 :: f22 :: f23 :: f24 :: f25 :: f26 :: f27 :: f28 :: f29 :: f30 :: f31 :: f32 :: f33 :: f34 :: f35 :: f36 :: f37 :: f38 :: f39 :: f40 :: f41 :: f42 :: f43 :: f44 :: f45 :: f46 :: f47 :: f48 :: f49 :: f50 :: f51 :: f52 :: f53 :: f54 :: f55 :: f56 :: f57 :: f58 :: f59 :: f60 :: f61 :: f62 :: f63 :: f64 :: f65 :: f66 :: f67 :: f68 :: f69 :: f70 :: f71 :: f72 :: f73 :: f74 :: f75 :: f76 :: f77 :: f78 :: f79 :: f80 :: f81 :: f82 :: f83 :: f84 :: f85 :: f86 :: f87 :: f88 :: f89 :: f90 :: f91 :: f92 :: f93 :: f94 :: f95 :: f96 :: f97 :: f98 :: f99 :: f100 :: f101 :: f102 :: f103 :: List.nil).toArray, []⟩ w := by
  have HQ := Lib.hid hQ
  clear hQ
  change Code.wp Try.prog (Code.region _ _ true) _ _ _
  apply wp_region_vars [false, false, false, false, false, false, true] [rb] [⟨none, 0, rb, some 6, 29, #[.int .i64 0, .int .i64 0, .int .i64 0, .int .i64 0], #[.int .i64 (matT s.rs ka vb).c0, .int .i64 (matT s.rs ka vb).c1, .int .i64 (matT s.rs ka vb).c2, .int .i64 (matT s.rs ka vb).c3]⟩] _ (by kernel_rfl) (by kernel_rfl) (by kernel_rfl)
  case H =>
    intro x hx
    have hne : Nonempty (Wx x) := ⟨⟨x, Ext.refl x⟩⟩
    have qhX := fun (y : Wx x) => ((hX.calm hx (by simpa using nx)).ext y.ext).cell
    have qhB := fun (y : Wx x) => ((hB.calm hx (by simpa using nb)).ext y.ext).cell
    have qM := fun (y : Wx x) => ((hM.calm hx (by simpa using nm)).ext y.ext)
    simp only [eraseM]
    repeat (go_big_quiet_step (first | (go_at_call 60; exact calm_of (matrix_any _ mb vp s (qM _) ka h8)) | (go_at_call 61; exact calm_of (times_mat s.rs hRB ka vb hvb _))))
    exact wpQuiet_nil rfl
  case hok =>
    simp only [List.forall_mem_cons, List.not_mem_nil, false_implies, implies_true, and_true]
    exact tgt_mine (v := .agg #[.int .i64 (matT s.rs ka vb).c0, .int .i64 (matT s.rs ka vb).c1, .int .i64 (matT s.rs ka vb).c2, .int .i64 (matT s.rs ka vb).c3]) (off := 0) (by simp) hR rfl rfl rfl rfl rfl rfl (by kernel_rfl) (by kernel_rfl) (of_decide_eq_true (by kernel_rfl)) rfl
  case hdis =>
    intro k k' t t' hk hk' hkk ha ha'
    exfalso
    have h1 : k < 1 := (List.getElem?_eq_some_iff.1 hk).1
    have h2 : k' < 1 := (List.getElem?_eq_some_iff.1 hk').1
    omega
  rintro w2 f hw ⟨k0, l0, d0, u0, -⟩
  have e0 : f 0 = rb := k0
  rw [e0] at d0
  exact HQ.out _ _ _ _ _ _ w2 ⟨d0, hw⟩
end Go.Proofs.Ytellfhnfifgpoaa

namespace Go.Proofs.Ytellfhnfifgpoaa
open Go.RowKit
set_option linter.unusedVariables false
set_option maxRecDepth 100000 in
set_option maxHeartbeats 2000000 in
theorem comp_op3 (w : World) (mb : Nat) (vp : Value) (s : St) (hM : MAt w mb vp s) (hRB : RB s.rs) (kd ka kb : Nat) (imm : Int) (hkd : kd < 12) (hka : ka < 12) (hkb : kb < 12) (himm : -32768 ≤ imm ∧ imm ≤ 32767) :
    Calls Try.prog 52 #[.pointer (some ⟨mb, 0, none⟩), .agg #[.int .u8 3, .int .u8 (kd : Int), .int .u8 (ka : Int), .int .u8 (kb : Int), .int .i16 imm]] w fun e w' => e = .returned (.agg #[.int .i64 (V4.map2 addZ (regAt s.rs ka) (regAt s.rs kb)).c0, .int .i64 (V4.map2 addZ (regAt s.rs ka) (regAt s.rs kb)).c1, .int .i64 (V4.map2 addZ (regAt s.rs ka) (regAt s.rs kb)).c2, .int .i64 (V4.map2 addZ (regAt s.rs ka) (regAt s.rs kb)).c3]) ∧ Ext w w' := by
  have hlt := hM.lt
  have X0 := (Blk.new w #[.int .u8 3, .int .u8 (kd : Int), .int .u8 (ka : Int), .int .u8 (kb : Int), .int .i16 imm] 70).alloc (.cells #[.int .i64 0, .int .i64 0, .int .i64 0, .int .i64 0] 29)
  have R0 := Blk.new' (w := w.alloc (.cells #[.int .u8 3, .int .u8 (kd : Int), .int .u8 (ka : Int), .int .u8 (kb : Int), .int .i16 imm] 70)) (b := w.heap.size + 1) (by simp) #[.int .i64 0, .int .i64 0, .int .i64 0, .int .i64 0] 29
  have E0 := ((Ext.refl w).alloc #[.int .u8 3, .int .u8 (kd : Int), .int .u8 (ka : Int), .int .u8 (kb : Int), .int .i16 imm] 70).alloc #[.int .i64 0, .int .i64 0, .int .i64 0, .int .i64 0] 29
  have M0 := hM.ext E0
  have HE0 := Lib.hid E0
  have HX0 := Lib.hid X0
  have HR0 := Lib.hid R0
  have HM0 := Lib.hid M0
  have va := hRB.at ka
  have vb := hRB.at kb
  have va0 := va.1.wide
  have va1 := va.2.1.wide
  have va2 := va.2.2.1.wide
  have va3 := va.2.2.2.wide
  have vb0 := vb.1.wide
  have vb1 := vb.2.1.wide
  have vb2 := vb.2.2.1.wide
  have vb3 := vb.2.2.2.wide
  clear E0 X0 R0 M0 hM va vb
  go_enter Try.func52, Try.ntmps52
  go_wp2_with fail
  refine comp_r1 _ _ _ _ _ _ _ _ _ _ _ _ _ _ _ _ _ _ _ _ _ _ _ _ _ _ _ _ _ _ _ _ _ _ _ _ _ _ _ _ _ _ _ _ _ _ _ _ _ _ _ _ _ _ _ _ _ _ _ _ _ _ _ _ _ _ _ _ _ _ _ _ _ _ _ _ _ _ _ _ _ _ _ _ _ _ _ _ _ _ _ _ _ _ _ _ _ _ _ _ _ _ mb w.heap.size kd ka kb 3 imm vp s _ HM0.out HX0.out hkd hka hkb ?_
  rintro c8 c9 c10 c11 c12 c13 c14 c15 c16 c17 c18 c19 c20 c21 c22 c23 w1 ba bb ⟨A1, B1, hne, l1, l2, x1⟩
  have X1 := HX0.out.ext x1
  have R1 := HR0.out.ext x1
  have M1 := HM0.out.ext x1
  have HE1 := Lib.hid (HE0.out.trans x1)
  simp at l1 l2
  have HM1 := Lib.hid M1
  clear HX0 HR0 HM0 x1 HE0 M1
  have cA := A1.cell
  have cB := B1.cell
  have cX := X1.cell
  have cR := R1.cell
  have fR := R1.frozen
  go_wp2_with fail
  refine (vec_addZ _ _ _ _ _ _ _ _ va0 vb0 va1 vb1 va2 vb2 va3 vb3 _).mono ?_
  rintro e w2 ⟨rfl, x2⟩
  have R2 := R1.ext x2
  have c2 := R2.cell
  have f2 := R2.frozen
  clear cA cB cX cR fR A1 B1 X1 R1
  go_wp2
  have R9 : Blk _ (w.heap.size + 1) #[.int .i64 (V4.map2 addZ (regAt s.rs ka) (regAt s.rs kb)).c0, .int .i64 (V4.map2 addZ (regAt s.rs ka) (regAt s.rs kb)).c1, .int .i64 (V4.map2 addZ (regAt s.rs ka) (regAt s.rs kb)).c2, .int .i64 (V4.map2 addZ (regAt s.rs ka) (regAt s.rs kb)).c3] 29 := (((R2.set 0 (.int .i64 (V4.map2 addZ (regAt s.rs ka) (regAt s.rs kb)).c0)).set 1 (.int .i64 (V4.map2 addZ (regAt s.rs ka) (regAt s.rs kb)).c1)).set 2 (.int .i64 (V4.map2 addZ (regAt s.rs ka) (regAt s.rs kb)).c2)).set 3 (.int .i64 (V4.map2 addZ (regAt s.rs ka) (regAt s.rs kb)).c3)
  refine bodyPost_ret (v := .agg #[.int .i64 (V4.map2 addZ (regAt s.rs ka) (regAt s.rs kb)).c0, .int .i64 (V4.map2 addZ (regAt s.rs ka) (regAt s.rs kb)).c1, .int .i64 (V4.map2 addZ (regAt s.rs ka) (regAt s.rs kb)).c2, .int .i64 (V4.map2 addZ (regAt s.rs ka) (regAt s.rs kb)).c3]) (results_blk (b := w.heap.size + 1) (t := 4) (ty := 29) rfl rfl R9 Try.underlying29 rfl (by kernel_rfl)) rfl ⟨rfl, ?_⟩
  exact Ext.calm_trans (HE1.out.trans x2) ((((calm_setP _ (w.heap.size + 1) 0 _).trans (calm_setP _ (w.heap.size + 1) 1 _)).trans (calm_setP _ (w.heap.size + 1) 2 _)).trans (calm_setP _ (w.heap.size + 1) 3 _)) (fun g hg => by simp at hg; omega)
set_option maxRecDepth 100000 in
set_option maxHeartbeats 2000000 in
theorem comp_op4 (w : World) (mb : Nat) (vp : Value) (s : St) (hM : MAt w mb vp s) (hRB : RB s.rs) (kd ka kb : Nat) (imm : Int) (hkd : kd < 12) (hka : ka < 12) (hkb : kb < 12) (himm : -32768 ≤ imm ∧ imm ≤ 32767) :
    Calls Try.prog 52 #[.pointer (some ⟨mb, 0, none⟩), .agg #[.int .u8 4, .int .u8 (kd : Int), .int .u8 (ka : Int), .int .u8 (kb : Int), .int .i16 imm]] w fun e w' => e = .returned (.agg #[.int .i64 (V4.map2 subZ (regAt s.rs ka) (regAt s.rs kb)).c0, .int .i64 (V4.map2 subZ (regAt s.rs ka) (regAt s.rs kb)).c1, .int .i64 (V4.map2 subZ (regAt s.rs ka) (regAt s.rs kb)).c2, .int .i64 (V4.map2 subZ (regAt s.rs ka) (regAt s.rs kb)).c3]) ∧ Ext w w' := by
  have hlt := hM.lt
  have X0 := (Blk.new w #[.int .u8 4, .int .u8 (kd : Int), .int .u8 (ka : Int), .int .u8 (kb : Int), .int .i16 imm] 70).alloc (.cells #[.int .i64 0, .int .i64 0, .int .i64 0, .int .i64 0] 29)
  have R0 := Blk.new' (w := w.alloc (.cells #[.int .u8 4, .int .u8 (kd : Int), .int .u8 (ka : Int), .int .u8 (kb : Int), .int .i16 imm] 70)) (b := w.heap.size + 1) (by simp) #[.int .i64 0, .int .i64 0, .int .i64 0, .int .i64 0] 29
  have E0 := ((Ext.refl w).alloc #[.int .u8 4, .int .u8 (kd : Int), .int .u8 (ka : Int), .int .u8 (kb : Int), .int .i16 imm] 70).alloc #[.int .i64 0, .int .i64 0, .int .i64 0, .int .i64 0] 29
  have M0 := hM.ext E0
  have HE0 := Lib.hid E0
  have HX0 := Lib.hid X0
  have HR0 := Lib.hid R0
  have HM0 := Lib.hid M0
  have va := hRB.at ka
  have vb := hRB.at kb
  have va0 := va.1.wide
  have va1 := va.2.1.wide
  have va2 := va.2.2.1.wide
  have va3 := va.2.2.2.wide
  have vb0 := vb.1.wide
  have vb1 := vb.2.1.wide
  have vb2 := vb.2.2.1.wide
  have vb3 := vb.2.2.2.wide
  clear E0 X0 R0 M0 hM va vb
  go_enter Try.func52, Try.ntmps52
  go_wp2_with fail
  refine comp_r1 _ _ _ _ _ _ _ _ _ _ _ _ _ _ _ _ _ _ _ _ _ _ _ _ _ _ _ _ _ _ _ _ _ _ _ _ _ _ _ _ _ _ _ _ _ _ _ _ _ _ _ _ _ _ _ _ _ _ _ _ _ _ _ _ _ _ _ _ _ _ _ _ _ _ _ _ _ _ _ _ _ _ _ _ _ _ _ _ _ _ _ _ _ _ _ _ _ _ _ _ _ _ mb w.heap.size kd ka kb 4 imm vp s _ HM0.out HX0.out hkd hka hkb ?_
  rintro c8 c9 c10 c11 c12 c13 c14 c15 c16 c17 c18 c19 c20 c21 c22 c23 w1 ba bb ⟨A1, B1, hne, l1, l2, x1⟩
  have X1 := HX0.out.ext x1
  have R1 := HR0.out.ext x1
  have M1 := HM0.out.ext x1
  have HE1 := Lib.hid (HE0.out.trans x1)
  simp at l1 l2
  have HM1 := Lib.hid M1
  clear HX0 HR0 HM0 x1 HE0 M1
  have cA := A1.cell
  have cB := B1.cell
  have cX := X1.cell
  have cR := R1.cell
  have fR := R1.frozen
  go_wp2_with fail
  refine (vec_subZ _ _ _ _ _ _ _ _ va0 vb0 va1 vb1 va2 vb2 va3 vb3 _).mono ?_
  rintro e w2 ⟨rfl, x2⟩
  have R2 := R1.ext x2
  have c2 := R2.cell
  have f2 := R2.frozen
  clear cA cB cX cR fR A1 B1 X1 R1
  go_wp2
  have R9 : Blk _ (w.heap.size + 1) #[.int .i64 (V4.map2 subZ (regAt s.rs ka) (regAt s.rs kb)).c0, .int .i64 (V4.map2 subZ (regAt s.rs ka) (regAt s.rs kb)).c1, .int .i64 (V4.map2 subZ (regAt s.rs ka) (regAt s.rs kb)).c2, .int .i64 (V4.map2 subZ (regAt s.rs ka) (regAt s.rs kb)).c3] 29 := (((R2.set 0 (.int .i64 (V4.map2 subZ (regAt s.rs ka) (regAt s.rs kb)).c0)).set 1 (.int .i64 (V4.map2 subZ (regAt s.rs ka) (regAt s.rs kb)).c1)).set 2 (.int .i64 (V4.map2 subZ (regAt s.rs ka) (regAt s.rs kb)).c2)).set 3 (.int .i64 (V4.map2 subZ (regAt s.rs ka) (regAt s.rs kb)).c3)
  refine bodyPost_ret (v := .agg #[.int .i64 (V4.map2 subZ (regAt s.rs ka) (regAt s.rs kb)).c0, .int .i64 (V4.map2 subZ (regAt s.rs ka) (regAt s.rs kb)).c1, .int .i64 (V4.map2 subZ (regAt s.rs ka) (regAt s.rs kb)).c2, .int .i64 (V4.map2 subZ (regAt s.rs ka) (regAt s.rs kb)).c3]) (results_blk (b := w.heap.size + 1) (t := 4) (ty := 29) rfl rfl R9 Try.underlying29 rfl (by kernel_rfl)) rfl ⟨rfl, ?_⟩
  exact Ext.calm_trans (HE1.out.trans x2) ((((calm_setP _ (w.heap.size + 1) 0 _).trans (calm_setP _ (w.heap.size + 1) 1 _)).trans (calm_setP _ (w.heap.size + 1) 2 _)).trans (calm_setP _ (w.heap.size + 1) 3 _)) (fun g hg => by simp at hg; omega)
set_option maxRecDepth 100000 in
set_option maxHeartbeats 2000000 in
theorem comp_op5 (w : World) (mb : Nat) (vp : Value) (s : St) (hM : MAt w mb vp s) (hRB : RB s.rs) (kd ka kb : Nat) (imm : Int) (hkd : kd < 12) (hka : ka < 12) (hkb : kb < 12) (himm : -32768 ≤ imm ∧ imm ≤ 32767) :
    Calls Try.prog 52 #[.pointer (some ⟨mb, 0, none⟩), .agg #[.int .u8 5, .int .u8 (kd : Int), .int .u8 (ka : Int), .int .u8 (kb : Int), .int .i16 imm]] w fun e w' => e = .returned (.agg #[.int .i64 (V4.map2 mulZ (regAt s.rs ka) (regAt s.rs kb)).c0, .int .i64 (V4.map2 mulZ (regAt s.rs ka) (regAt s.rs kb)).c1, .int .i64 (V4.map2 mulZ (regAt s.rs ka) (regAt s.rs kb)).c2, .int .i64 (V4.map2 mulZ (regAt s.rs ka) (regAt s.rs kb)).c3]) ∧ Ext w w' := by
  have hlt := hM.lt
  have X0 := (Blk.new w #[.int .u8 5, .int .u8 (kd : Int), .int .u8 (ka : Int), .int .u8 (kb : Int), .int .i16 imm] 70).alloc (.cells #[.int .i64 0, .int .i64 0, .int .i64 0, .int .i64 0] 29)
  have R0 := Blk.new' (w := w.alloc (.cells #[.int .u8 5, .int .u8 (kd : Int), .int .u8 (ka : Int), .int .u8 (kb : Int), .int .i16 imm] 70)) (b := w.heap.size + 1) (by simp) #[.int .i64 0, .int .i64 0, .int .i64 0, .int .i64 0] 29
  have E0 := ((Ext.refl w).alloc #[.int .u8 5, .int .u8 (kd : Int), .int .u8 (ka : Int), .int .u8 (kb : Int), .int .i16 imm] 70).alloc #[.int .i64 0, .int .i64 0, .int .i64 0, .int .i64 0] 29
  have M0 := hM.ext E0
  have HE0 := Lib.hid E0
  have HX0 := Lib.hid X0
  have HR0 := Lib.hid R0
  have HM0 := Lib.hid M0
  have va := hRB.at ka
  have vb := hRB.at kb
  have va0 := va.1.wide
  have va1 := va.2.1.wide
  have va2 := va.2.2.1.wide
  have va3 := va.2.2.2.wide
  have vb0 := vb.1.wide
  have vb1 := vb.2.1.wide
  have vb2 := vb.2.2.1.wide
  have vb3 := vb.2.2.2.wide
  clear E0 X0 R0 M0 hM va vb
  go_enter Try.func52, Try.ntmps52
  go_wp2_with fail
  refine comp_r1 _ _ _ _ _ _ _ _ _ _ _ _ _ _ _ _ _ _ _ _ _ _ _ _ _ _ _ _ _ _ _ _ _ _ _ _ _ _ _ _ _ _ _ _ _ _ _ _ _ _ _ _ _ _ _ _ _ _ _ _ _ _ _ _ _ _ _ _ _ _ _ _ _ _ _ _ _ _ _ _ _ _ _ _ _ _ _ _ _ _ _ _ _ _ _ _ _ _ _ _ _ _ mb w.heap.size kd ka kb 5 imm vp s _ HM0.out HX0.out hkd hka hkb ?_
  rintro c8 c9 c10 c11 c12 c13 c14 c15 c16 c17 c18 c19 c20 c21 c22 c23 w1 ba bb ⟨A1, B1, hne, l1, l2, x1⟩
  have X1 := HX0.out.ext x1
  have R1 := HR0.out.ext x1
  have M1 := HM0.out.ext x1
  have HE1 := Lib.hid (HE0.out.trans x1)
  simp at l1 l2
  have HM1 := Lib.hid M1
  clear HX0 HR0 HM0 x1 HE0 M1
  have cA := A1.cell
  have cB := B1.cell
  have cX := X1.cell
  have cR := R1.cell
  have fR := R1.frozen
  go_wp2_with fail
  refine (vec_mulZ _ _ _ _ _ _ _ _ va0 vb0 va1 vb1 va2 vb2 va3 vb3 _).mono ?_
  rintro e w2 ⟨rfl, x2⟩
  have R2 := R1.ext x2
  have c2 := R2.cell
  have f2 := R2.frozen
  clear cA cB cX cR fR A1 B1 X1 R1
  go_wp2
  have R9 : Blk _ (w.heap.size + 1) #[.int .i64 (V4.map2 mulZ (regAt s.rs ka) (regAt s.rs kb)).c0, .int .i64 (V4.map2 mulZ (regAt s.rs ka) (regAt s.rs kb)).c1, .int .i64 (V4.map2 mulZ (regAt s.rs ka) (regAt s.rs kb)).c2, .int .i64 (V4.map2 mulZ (regAt s.rs ka) (regAt s.rs kb)).c3] 29 := (((R2.set 0 (.int .i64 (V4.map2 mulZ (regAt s.rs ka) (regAt s.rs kb)).c0)).set 1 (.int .i64 (V4.map2 mulZ (regAt s.rs ka) (regAt s.rs kb)).c1)).set 2 (.int .i64 (V4.map2 mulZ (regAt s.rs ka) (regAt s.rs kb)).c2)).set 3 (.int .i64 (V4.map2 mulZ (regAt s.rs ka) (regAt s.rs kb)).c3)
  refine bodyPost_ret (v := .agg #[.int .i64 (V4.map2 mulZ (regAt s.rs ka) (regAt s.rs kb)).c0, .int .i64 (V4.map2 mulZ (regAt s.rs ka) (regAt s.rs kb)).c1, .int .i64 (V4.map2 mulZ (regAt s.rs ka) (regAt s.rs kb)).c2, .int .i64 (V4.map2 mulZ (regAt s.rs ka) (regAt s.rs kb)).c3]) (results_blk (b := w.heap.size + 1) (t := 4) (ty := 29) rfl rfl R9 Try.underlying29 rfl (by kernel_rfl)) rfl ⟨rfl, ?_⟩
  exact Ext.calm_trans (HE1.out.trans x2) ((((calm_setP _ (w.heap.size + 1) 0 _).trans (calm_setP _ (w.heap.size + 1) 1 _)).trans (calm_setP _ (w.heap.size + 1) 2 _)).trans (calm_setP _ (w.heap.size + 1) 3 _)) (fun g hg => by simp at hg; omega)
set_option maxRecDepth 100000 in
set_option maxHeartbeats 2000000 in
theorem comp_op6 (w : World) (mb : Nat) (vp : Value) (s : St) (hM : MAt w mb vp s) (hRB : RB s.rs) (kd ka kb : Nat) (imm : Int) (hkd : kd < 12) (hka : ka < 12) (hkb : kb < 12) (himm : -32768 ≤ imm ∧ imm ≤ 32767) :
    Calls Try.prog 52 #[.pointer (some ⟨mb, 0, none⟩), .agg #[.int .u8 6, .int .u8 (kd : Int), .int .u8 (ka : Int), .int .u8 (kb : Int), .int .i16 imm]] w fun e w' => e = .returned (.agg #[.int .i64 (V4.map2 minZ (regAt s.rs ka) (regAt s.rs kb)).c0, .int .i64 (V4.map2 minZ (regAt s.rs ka) (regAt s.rs kb)).c1, .int .i64 (V4.map2 minZ (regAt s.rs ka) (regAt s.rs kb)).c2, .int .i64 (V4.map2 minZ (regAt s.rs ka) (regAt s.rs kb)).c3]) ∧ Ext w w' := by
  have hlt := hM.lt
  have X0 := (Blk.new w #[.int .u8 6, .int .u8 (kd : Int), .int .u8 (ka : Int), .int .u8 (kb : Int), .int .i16 imm] 70).alloc (.cells #[.int .i64 0, .int .i64 0, .int .i64 0, .int .i64 0] 29)
  have R0 := Blk.new' (w := w.alloc (.cells #[.int .u8 6, .int .u8 (kd : Int), .int .u8 (ka : Int), .int .u8 (kb : Int), .int .i16 imm] 70)) (b := w.heap.size + 1) (by simp) #[.int .i64 0, .int .i64 0, .int .i64 0, .int .i64 0] 29
  have E0 := ((Ext.refl w).alloc #[.int .u8 6, .int .u8 (kd : Int), .int .u8 (ka : Int), .int .u8 (kb : Int), .int .i16 imm] 70).alloc #[.int .i64 0, .int .i64 0, .int .i64 0, .int .i64 0] 29
  have M0 := hM.ext E0
  have HE0 := Lib.hid E0
  have HX0 := Lib.hid X0
  have HR0 := Lib.hid R0
  have HM0 := Lib.hid M0
  have va := hRB.at ka
  have vb := hRB.at kb
  have va0 := va.1.wide
  have va1 := va.2.1.wide
  have va2 := va.2.2.1.wide
  have va3 := va.2.2.2.wide
  have vb0 := vb.1.wide
  have vb1 := vb.2.1.wide
  have vb2 := vb.2.2.1.wide
  have vb3 := vb.2.2.2.wide
  clear E0 X0 R0 M0 hM va vb
  go_enter Try.func52, Try.ntmps52
  go_wp2_with fail
  refine comp_r1 _ _ _ _ _ _ _ _ _ _ _ _ _ _ _ _ _ _ _ _ _ _ _ _ _ _ _ _ _ _ _ _ _ _ _ _ _ _ _ _ _ _ _ _ _ _ _ _ _ _ _ _ _ _ _ _ _ _ _ _ _ _ _ _ _ _ _ _ _ _ _ _ _ _ _ _ _ _ _ _ _ _ _ _ _ _ _ _ _ _ _ _ _ _ _ _ _ _ _ _ _ _ mb w.heap.size kd ka kb 6 imm vp s _ HM0.out HX0.out hkd hka hkb ?_
  rintro c8 c9 c10 c11 c12 c13 c14 c15 c16 c17 c18 c19 c20 c21 c22 c23 w1 ba bb ⟨A1, B1, hne, l1, l2, x1⟩
  have X1 := HX0.out.ext x1
  have R1 := HR0.out.ext x1
  have M1 := HM0.out.ext x1
  have HE1 := Lib.hid (HE0.out.trans x1)
  simp at l1 l2
  have HM1 := Lib.hid M1
  clear HX0 HR0 HM0 x1 HE0 M1
  have cA := A1.cell
  have cB := B1.cell
  have cX := X1.cell
  have cR := R1.cell
  have fR := R1.frozen
  go_wp2_with fail
  refine (vec_minZ _ _ _ _ _ _ _ _ va0 vb0 va1 vb1 va2 vb2 va3 vb3 _).mono ?_
  rintro e w2 ⟨rfl, x2⟩
  have R2 := R1.ext x2
  have c2 := R2.cell
  have f2 := R2.frozen
  clear cA cB cX cR fR A1 B1 X1 R1
  go_wp2
  have R9 : Blk _ (w.heap.size + 1) #[.int .i64 (V4.map2 minZ (regAt s.rs ka) (regAt s.rs kb)).c0, .int .i64 (V4.map2 minZ (regAt s.rs ka) (regAt s.rs kb)).c1, .int .i64 (V4.map2 minZ (regAt s.rs ka) (regAt s.rs kb)).c2, .int .i64 (V4.map2 minZ (regAt s.rs ka) (regAt s.rs kb)).c3] 29 := (((R2.set 0 (.int .i64 (V4.map2 minZ (regAt s.rs ka) (regAt s.rs kb)).c0)).set 1 (.int .i64 (V4.map2 minZ (regAt s.rs ka) (regAt s.rs kb)).c1)).set 2 (.int .i64 (V4.map2 minZ (regAt s.rs ka) (regAt s.rs kb)).c2)).set 3 (.int .i64 (V4.map2 minZ (regAt s.rs ka) (regAt s.rs kb)).c3)
  refine bodyPost_ret (v := .agg #[.int .i64 (V4.map2 minZ (regAt s.rs ka) (regAt s.rs kb)).c0, .int .i64 (V4.map2 minZ (regAt s.rs ka) (regAt s.rs kb)).c1, .int .i64 (V4.map2 minZ (regAt s.rs ka) (regAt s.rs kb)).c2, .int .i64 (V4.map2 minZ (regAt s.rs ka) (regAt s.rs kb)).c3]) (results_blk (b := w.heap.size + 1) (t := 4) (ty := 29) rfl rfl R9 Try.underlying29 rfl (by kernel_rfl)) rfl ⟨rfl, ?_⟩
  exact Ext.calm_trans (HE1.out.trans x2) ((((calm_setP _ (w.heap.size + 1) 0 _).trans (calm_setP _ (w.heap.size + 1) 1 _)).trans (calm_setP _ (w.heap.size + 1) 2 _)).trans (calm_setP _ (w.heap.size + 1) 3 _)) (fun g hg => by simp at hg; omega)
set_option maxRecDepth 100000 in
set_option maxHeartbeats 2000000 in
theorem comp_op7 (w : World) (mb : Nat) (vp : Value) (s : St) (hM : MAt w mb vp s) (hRB : RB s.rs) (kd ka kb : Nat) (imm : Int) (hkd : kd < 12) (hka : ka < 12) (hkb : kb < 12) (himm : -32768 ≤ imm ∧ imm ≤ 32767) :
    Calls Try.prog 52 #[.pointer (some ⟨mb, 0, none⟩), .agg #[.int .u8 7, .int .u8 (kd : Int), .int .u8 (ka : Int), .int .u8 (kb : Int), .int .i16 imm]] w fun e w' => e = .returned (.agg #[.int .i64 (V4.map2 maxZ (regAt s.rs ka) (regAt s.rs kb)).c0, .int .i64 (V4.map2 maxZ (regAt s.rs ka) (regAt s.rs kb)).c1, .int .i64 (V4.map2 maxZ (regAt s.rs ka) (regAt s.rs kb)).c2, .int .i64 (V4.map2 maxZ (regAt s.rs ka) (regAt s.rs kb)).c3]) ∧ Ext w w' := by
  have hlt := hM.lt
  have X0 := (Blk.new w #[.int .u8 7, .int .u8 (kd : Int), .int .u8 (ka : Int), .int .u8 (kb : Int), .int .i16 imm] 70).alloc (.cells #[.int .i64 0, .int .i64 0, .int .i64 0, .int .i64 0] 29)
  have R0 := Blk.new' (w := w.alloc (.cells #[.int .u8 7, .int .u8 (kd : Int), .int .u8 (ka : Int), .int .u8 (kb : Int), .int .i16 imm] 70)) (b := w.heap.size + 1) (by simp) #[.int .i64 0, .int .i64 0, .int .i64 0, .int .i64 0] 29
  have E0 := ((Ext.refl w).alloc #[.int .u8 7, .int .u8 (kd : Int), .int .u8 (ka : Int), .int .u8 (kb : Int), .int .i16 imm] 70).alloc #[.int .i64 0, .int .i64 0, .int .i64 0, .int .i64 0] 29
  have M0 := hM.ext E0
  have HE0 := Lib.hid E0
  have HX0 := Lib.hid X0
  have HR0 := Lib.hid R0
  have HM0 := Lib.hid M0
  have va := hRB.at ka
  have vb := hRB.at kb
  have va0 := va.1.wide
  have va1 := va.2.1.wide
  have va2 := va.2.2.1.wide
  have va3 := va.2.2.2.wide
  have vb0 := vb.1.wide
  have vb1 := vb.2.1.wide
  have vb2 := vb.2.2.1.wide
  have vb3 := vb.2.2.2.wide
  clear E0 X0 R0 M0 hM va vb
  go_enter Try.func52, Try.ntmps52
  go_wp2_with fail
  refine comp_r1 _ _ _ _ _ _ _ _ _ _ _ _ _ _ _ _ _ _ _ _ _ _ _ _ _ _ _ _ _ _ _ _ _ _ _ _ _ _ _ _ _ _ _ _ _ _ _ _ _ _ _ _ _ _ _ _ _ _ _ _ _ _ _ _ _ _ _ _ _ _ _ _ _ _ _ _ _ _ _ _ _ _ _ _ _ _ _ _ _ _ _ _ _ _ _ _ _ _ _ _ _ _ mb w.heap.size kd ka kb 7 imm vp s _ HM0.out HX0.out hkd hka hkb ?_
  rintro c8 c9 c10 c11 c12 c13 c14 c15 c16 c17 c18 c19 c20 c21 c22 c23 w1 ba bb ⟨A1, B1, hne, l1, l2, x1⟩
  have X1 := HX0.out.ext x1
  have R1 := HR0.out.ext x1
  have M1 := HM0.out.ext x1
  have HE1 := Lib.hid (HE0.out.trans x1)
  simp at l1 l2
  have HM1 := Lib.hid M1
  clear HX0 HR0 HM0 x1 HE0 M1
  have cA := A1.cell
  have cB := B1.cell
  have cX := X1.cell
  have cR := R1.cell
  have fR := R1.frozen
  go_wp2_with fail
  refine (vec_maxZ _ _ _ _ _ _ _ _ va0 vb0 va1 vb1 va2 vb2 va3 vb3 _).mono ?_
  rintro e w2 ⟨rfl, x2⟩
  have R2 := R1.ext x2
  have c2 := R2.cell
  have f2 := R2.frozen
  clear cA cB cX cR fR A1 B1 X1 R1
  go_wp2
  have R9 : Blk _ (w.heap.size + 1) #[.int .i64 (V4.map2 maxZ (regAt s.rs ka) (regAt s.rs kb)).c0, .int .i64 (V4.map2 maxZ (regAt s.rs ka) (regAt s.rs kb)).c1, .int .i64 (V4.map2 maxZ (regAt s.rs ka) (regAt s.rs kb)).c2, .int .i64 (V4.map2 maxZ (regAt s.rs ka) (regAt s.rs kb)).c3] 29 := (((R2.set 0 (.int .i64 (V4.map2 maxZ (regAt s.rs ka) (regAt s.rs kb)).c0)).set 1 (.int .i64 (V4.map2 maxZ (regAt s.rs ka) (regAt s.rs kb)).c1)).set 2 (.int .i64 (V4.map2 maxZ (regAt s.rs ka) (regAt s.rs kb)).c2)).set 3 (.int .i64 (V4.map2 maxZ (regAt s.rs ka) (regAt s.rs kb)).c3)
  refine bodyPost_ret (v := .agg #[.int .i64 (V4.map2 maxZ (regAt s.rs ka) (regAt s.rs kb)).c0, .int .i64 (V4.map2 maxZ (regAt s.rs ka) (regAt s.rs kb)).c1, .int .i64 (V4.map2 maxZ (regAt s.rs ka) (regAt s.rs kb)).c2, .int .i64 (V4.map2 maxZ (regAt s.rs ka) (regAt s.rs kb)).c3]) (results_blk (b := w.heap.size + 1) (t := 4) (ty := 29) rfl rfl R9 Try.underlying29 rfl (by kernel_rfl)) rfl ⟨rfl, ?_⟩
  exact Ext.calm_trans (HE1.out.trans x2) ((((calm_setP _ (w.heap.size + 1) 0 _).trans (calm_setP _ (w.heap.size + 1) 1 _)).trans (calm_setP _ (w.heap.size + 1) 2 _)).trans (calm_setP _ (w.heap.size + 1) 3 _)) (fun g hg => by simp at hg; omega)
set_option maxRecDepth 100000 in
set_option maxHeartbeats 2000000 in
theorem comp_op1 (w : World) (mb : Nat) (vp : Value) (s : St) (hM : MAt w mb vp s) (hRB : RB s.rs) (kd ka kb : Nat) (imm : Int) (hkd : kd < 12) (hka : ka < 12) (hkb : kb < 12) (himm : -32768 ≤ imm ∧ imm ≤ 32767) :
    Calls Try.prog 52 #[.pointer (some ⟨mb, 0, none⟩), .agg #[.int .u8 1, .int .u8 (kd : Int), .int .u8 (ka : Int), .int .u8 (kb : Int), .int .i16 imm]] w fun e w' => e = .returned (.agg #[.int .i64 (regAt s.rs ka).c0, .int .i64 (regAt s.rs ka).c1, .int .i64 (regAt s.rs ka).c2, .int .i64 (regAt s.rs ka).c3]) ∧ Ext w w' := by
  have hlt := hM.lt
  have X0 := (Blk.new w #[.int .u8 1, .int .u8 (kd : Int), .int .u8 (ka : Int), .int .u8 (kb : Int), .int .i16 imm] 70).alloc (.cells #[.int .i64 0, .int .i64 0, .int .i64 0, .int .i64 0] 29)
  have R0 := Blk.new' (w := w.alloc (.cells #[.int .u8 1, .int .u8 (kd : Int), .int .u8 (ka : Int), .int .u8 (kb : Int), .int .i16 imm] 70)) (b := w.heap.size + 1) (by simp) #[.int .i64 0, .int .i64 0, .int .i64 0, .int .i64 0] 29
  have E0 := ((Ext.refl w).alloc #[.int .u8 1, .int .u8 (kd : Int), .int .u8 (ka : Int), .int .u8 (kb : Int), .int .i16 imm] 70).alloc #[.int .i64 0, .int .i64 0, .int .i64 0, .int .i64 0] 29
  have M0 := hM.ext E0
  have HE0 := Lib.hid E0
  have HX0 := Lib.hid X0
  have HR0 := Lib.hid R0
  have HM0 := Lib.hid M0
  have va := hRB.at ka
  have vb := hRB.at kb
  have va0 := va.1.wide
  have va1 := va.2.1.wide
  have va2 := va.2.2.1.wide
  have va3 := va.2.2.2.wide
  have vb0 := vb.1.wide
  have vb1 := vb.2.1.wide
  have vb2 := vb.2.2.1.wide
  have vb3 := vb.2.2.2.wide
  clear E0 X0 R0 M0 hM va vb
  go_enter Try.func52, Try.ntmps52
  go_wp2_with fail
  refine comp_r1 _ _ _ _ _ _ _ _ _ _ _ _ _ _ _ _ _ _ _ _ _ _ _ _ _ _ _ _ _ _ _ _ _ _ _ _ _ _ _ _ _ _ _ _ _ _ _ _ _ _ _ _ _ _ _ _ _ _ _ _ _ _ _ _ _ _ _ _ _ _ _ _ _ _ _ _ _ _ _ _ _ _ _ _ _ _ _ _ _ _ _ _ _ _ _ _ _ _ _ _ _ _ mb w.heap.size kd ka kb 1 imm vp s _ HM0.out HX0.out hkd hka hkb ?_
  rintro c8 c9 c10 c11 c12 c13 c14 c15 c16 c17 c18 c19 c20 c21 c22 c23 w1 ba bb ⟨A1, B1, hne, l1, l2, x1⟩
  have X1 := HX0.out.ext x1
  have R1 := HR0.out.ext x1
  have M1 := HM0.out.ext x1
  have HE1 := Lib.hid (HE0.out.trans x1)
  simp at l1 l2
  have HM1 := Lib.hid M1
  clear HX0 HR0 HM0 x1 HE0 M1
  have cA := A1.cell
  have cB := B1.cell
  have cX := X1.cell
  have cR := R1.cell
  have fR := R1.frozen
  go_wp2
  have R9 : Blk _ (w.heap.size + 1) #[.int .i64 (regAt s.rs ka).c0, .int .i64 (regAt s.rs ka).c1, .int .i64 (regAt s.rs ka).c2, .int .i64 (regAt s.rs ka).c3] 29 := (((R1.set 0 (.int .i64 (regAt s.rs ka).c0)).set 1 (.int .i64 (regAt s.rs ka).c1)).set 2 (.int .i64 (regAt s.rs ka).c2)).set 3 (.int .i64 (regAt s.rs ka).c3)
  refine bodyPost_ret (v := .agg #[.int .i64 (regAt s.rs ka).c0, .int .i64 (regAt s.rs ka).c1, .int .i64 (regAt s.rs ka).c2, .int .i64 (regAt s.rs ka).c3]) (results_blk (b := w.heap.size + 1) (t := 4) (ty := 29) rfl rfl R9 Try.underlying29 rfl (by kernel_rfl)) rfl ⟨rfl, ?_⟩
  exact Ext.calm_trans HE1.out ((((calm_setP _ (w.heap.size + 1) 0 _).trans (calm_setP _ (w.heap.size + 1) 1 _)).trans (calm_setP _ (w.heap.size + 1) 2 _)).trans (calm_setP _ (w.heap.size + 1) 3 _)) (fun g hg => by simp at hg; omega)
set_option maxRecDepth 100000 in
set_option maxHeartbeats 2000000 in
theorem comp_op2 (w : World) (mb : Nat) (vp : Value) (s : St) (hM : MAt w mb vp s) (hRB : RB s.rs) (kd ka kb : Nat) (imm : Int) (hkd : kd < 12) (hka : ka < 12) (hkb : kb < 12) (himm : -32768 ≤ imm ∧ imm ≤ 32767) :
    Calls Try.prog 52 #[.pointer (some ⟨mb, 0, none⟩), .agg #[.int .u8 2, .int .u8 (kd : Int), .int .u8 (ka : Int), .int .u8 (kb : Int), .int .i16 imm]] w fun e w' => e = .returned (.agg #[.int .i64 (V4.all (imm * 256)).c0, .int .i64 (V4.all (imm * 256)).c1, .int .i64 (V4.all (imm * 256)).c2, .int .i64 (V4.all (imm * 256)).c3]) ∧ Ext w w' := by
  have hlt := hM.lt
  have X0 := (Blk.new w #[.int .u8 2, .int .u8 (kd : Int), .int .u8 (ka : Int), .int .u8 (kb : Int), .int .i16 imm] 70).alloc (.cells #[.int .i64 0, .int .i64 0, .int .i64 0, .int .i64 0] 29)
  have R0 := Blk.new' (w := w.alloc (.cells #[.int .u8 2, .int .u8 (kd : Int), .int .u8 (ka : Int), .int .u8 (kb : Int), .int .i16 imm] 70)) (b := w.heap.size + 1) (by simp) #[.int .i64 0, .int .i64 0, .int .i64 0, .int .i64 0] 29
  have E0 := ((Ext.refl w).alloc #[.int .u8 2, .int .u8 (kd : Int), .int .u8 (ka : Int), .int .u8 (kb : Int), .int .i16 imm] 70).alloc #[.int .i64 0, .int .i64 0, .int .i64 0, .int .i64 0] 29
  have M0 := hM.ext E0
  have HE0 := Lib.hid E0
  have HX0 := Lib.hid X0
  have HR0 := Lib.hid R0
  have HM0 := Lib.hid M0
  have va := hRB.at ka
  have vb := hRB.at kb
  have va0 := va.1.wide
  have va1 := va.2.1.wide
  have va2 := va.2.2.1.wide
  have va3 := va.2.2.2.wide
  have vb0 := vb.1.wide
  have vb1 := vb.2.1.wide
  have vb2 := vb.2.2.1.wide
  have vb3 := vb.2.2.2.wide
  clear E0 X0 R0 M0 hM va vb
  go_enter Try.func52, Try.ntmps52
  go_wp2_with fail
  refine comp_r1 _ _ _ _ _ _ _ _ _ _ _ _ _ _ _ _ _ _ _ _ _ _ _ _ _ _ _ _ _ _ _ _ _ _ _ _ _ _ _ _ _ _ _ _ _ _ _ _ _ _ _ _ _ _ _ _ _ _ _ _ _ _ _ _ _ _ _ _ _ _ _ _ _ _ _ _ _ _ _ _ _ _ _ _ _ _ _ _ _ _ _ _ _ _ _ _ _ _ _ _ _ _ mb w.heap.size kd ka kb 2 imm vp s _ HM0.out HX0.out hkd hka hkb ?_
  rintro c8 c9 c10 c11 c12 c13 c14 c15 c16 c17 c18 c19 c20 c21 c22 c23 w1 ba bb ⟨A1, B1, hne, l1, l2, x1⟩
  have X1 := HX0.out.ext x1
  have R1 := HR0.out.ext x1
  have M1 := HM0.out.ext x1
  have HE1 := Lib.hid (HE0.out.trans x1)
  simp at l1 l2
  have HM1 := Lib.hid M1
  clear HX0 HR0 HM0 x1 HE0 M1
  have cA := A1.cell
  have cB := B1.cell
  have cX := X1.cell
  have cR := R1.cell
  have fR := R1.frozen
  have hw2 : IntKind.i64.wrap imm = imm := by rw [IntKind.wrap_i64]; omega
  have hw3 : IntKind.i64.wrap (256 * imm) = imm * 256 := by rw [IntKind.wrap_i64]; omega
  go_wp2_with fail
  refine (vmall_any (imm * 256) _).mono ?_
  rintro e w2 ⟨rfl, x2⟩
  have R2 := R1.ext x2
  have c2 := R2.cell
  have f2 := R2.frozen
  clear cA cB cX cR fR A1 B1 X1 R1
  go_wp2
  have R9 : Blk _ (w.heap.size + 1) #[.int .i64 (V4.all (imm * 256)).c0, .int .i64 (V4.all (imm * 256)).c1, .int .i64 (V4.all (imm * 256)).c2, .int .i64 (V4.all (imm * 256)).c3] 29 := (((R2.set 0 (.int .i64 (V4.all (imm * 256)).c0)).set 1 (.int .i64 (V4.all (imm * 256)).c1)).set 2 (.int .i64 (V4.all (imm * 256)).c2)).set 3 (.int .i64 (V4.all (imm * 256)).c3)
  refine bodyPost_ret (v := .agg #[.int .i64 (V4.all (imm * 256)).c0, .int .i64 (V4.all (imm * 256)).c1, .int .i64 (V4.all (imm * 256)).c2, .int .i64 (V4.all (imm * 256)).c3]) (results_blk (b := w.heap.size + 1) (t := 4) (ty := 29) rfl rfl R9 Try.underlying29 rfl (by kernel_rfl)) rfl ⟨rfl, ?_⟩
  exact Ext.calm_trans (HE1.out.trans x2) ((((calm_setP _ (w.heap.size + 1) 0 _).trans (calm_setP _ (w.heap.size + 1) 1 _)).trans (calm_setP _ (w.heap.size + 1) 2 _)).trans (calm_setP _ (w.heap.size + 1) 3 _)) (fun g hg => by simp at hg; omega)
set_option maxRecDepth 100000 in
set_option maxHeartbeats 2000000 in
theorem comp_op8 (w : World) (mb : Nat) (vp : Value) (s : St) (hM : MAt w mb vp s) (hRB : RB s.rs) (kd ka kb : Nat) (imm : Int) (hkd : kd < 12) (hka : ka < 12) (hkb : kb < 12) (himm : -32768 ≤ imm ∧ imm ≤ 32767) :
    Calls Try.prog 52 #[.pointer (some ⟨mb, 0, none⟩), .agg #[.int .u8 8, .int .u8 (kd : Int), .int .u8 (ka : Int), .int .u8 (kb : Int), .int .i16 imm]] w fun e w' => e = .returned (.agg #[.int .i64 (V4.all ((regAt s.rs ka).dot (regAt s.rs kb))).c0, .int .i64 (V4.all ((regAt s.rs ka).dot (regAt s.rs kb))).c1, .int .i64 (V4.all ((regAt s.rs ka).dot (regAt s.rs kb))).c2, .int .i64 (V4.all ((regAt s.rs ka).dot (regAt s.rs kb))).c3]) ∧ Ext w w' := by
  have hlt := hM.lt
  have X0 := (Blk.new w #[.int .u8 8, .int .u8 (kd : Int), .int .u8 (ka : Int), .int .u8 (kb : Int), .int .i16 imm] 70).alloc (.cells #[.int .i64 0, .int .i64 0, .int .i64 0, .int .i64 0] 29)
  have R0 := Blk.new' (w := w.alloc (.cells #[.int .u8 8, .int .u8 (kd : Int), .int .u8 (ka : Int), .int .u8 (kb : Int), .int .i16 imm] 70)) (b := w.heap.size + 1) (by simp) #[.int .i64 0, .int .i64 0, .int .i64 0, .int .i64 0] 29
  have E0 := ((Ext.refl w).alloc #[.int .u8 8, .int .u8 (kd : Int), .int .u8 (ka : Int), .int .u8 (kb : Int), .int .i16 imm] 70).alloc #[.int .i64 0, .int .i64 0, .int .i64 0, .int .i64 0] 29
  have M0 := hM.ext E0
  have HE0 := Lib.hid E0
  have HX0 := Lib.hid X0
  have HR0 := Lib.hid R0
  have HM0 := Lib.hid M0
  have va := hRB.at ka
  have vb := hRB.at kb
  have va0 := va.1.wide
  have va1 := va.2.1.wide
  have va2 := va.2.2.1.wide
  have va3 := va.2.2.2.wide
  have vb0 := vb.1.wide
  have vb1 := vb.2.1.wide
  have vb2 := vb.2.2.1.wide
  have vb3 := vb.2.2.2.wide
  clear E0 X0 R0 M0 hM va vb
  go_enter Try.func52, Try.ntmps52
  go_wp2_with fail
  refine comp_r1 _ _ _ _ _ _ _ _ _ _ _ _ _ _ _ _ _ _ _ _ _ _ _ _ _ _ _ _ _ _ _ _ _ _ _ _ _ _ _ _ _ _ _ _ _ _ _ _ _ _ _ _ _ _ _ _ _ _ _ _ _ _ _ _ _ _ _ _ _ _ _ _ _ _ _ _ _ _ _ _ _ _ _ _ _ _ _ _ _ _ _ _ _ _ _ _ _ _ _ _ _ _ mb w.heap.size kd ka kb 8 imm vp s _ HM0.out HX0.out hkd hka hkb ?_
  rintro c8 c9 c10 c11 c12 c13 c14 c15 c16 c17 c18 c19 c20 c21 c22 c23 w1 ba bb ⟨A1, B1, hne, l1, l2, x1⟩
  have X1 := HX0.out.ext x1
  have R1 := HR0.out.ext x1
  have M1 := HM0.out.ext x1
  have HE1 := Lib.hid (HE0.out.trans x1)
  simp at l1 l2
  have HM1 := Lib.hid M1
  clear HX0 HR0 HM0 x1 HE0 M1
  have cA := A1.cell
  have cB := B1.cell
  have cX := X1.cell
  have cR := R1.cell
  have fR := R1.frozen
  go_wp2_with fail
  refine (dot_any _ _ _ _ _ _ _ _ va0 vb0 va1 vb1 va2 vb2 va3 vb3 _).mono ?_
  rintro e w2 ⟨rfl, x2⟩
  have R2 := R1.ext x2
  go_wp2_with fail
  refine (vmall_any ((regAt s.rs ka).dot (regAt s.rs kb)) _).mono ?_
  rintro e w3 ⟨rfl, x3⟩
  have R3 := R2.ext x3
  have c3 := R3.cell
  have f3 := R3.frozen
  clear cA cB cX cR fR A1 B1 X1 R1
  go_wp2
  have R9 : Blk _ (w.heap.size + 1) #[.int .i64 (V4.all ((regAt s.rs ka).dot (regAt s.rs kb))).c0, .int .i64 (V4.all ((regAt s.rs ka).dot (regAt s.rs kb))).c1, .int .i64 (V4.all ((regAt s.rs ka).dot (regAt s.rs kb))).c2, .int .i64 (V4.all ((regAt s.rs ka).dot (regAt s.rs kb))).c3] 29 := (((R3.set 0 (.int .i64 (V4.all ((regAt s.rs ka).dot (regAt s.rs kb))).c0)).set 1 (.int .i64 (V4.all ((regAt s.rs ka).dot (regAt s.rs kb))).c1)).set 2 (.int .i64 (V4.all ((regAt s.rs ka).dot (regAt s.rs kb))).c2)).set 3 (.int .i64 (V4.all ((regAt s.rs ka).dot (regAt s.rs kb))).c3)
  refine bodyPost_ret (v := .agg #[.int .i64 (V4.all ((regAt s.rs ka).dot (regAt s.rs kb))).c0, .int .i64 (V4.all ((regAt s.rs ka).dot (regAt s.rs kb))).c1, .int .i64 (V4.all ((regAt s.rs ka).dot (regAt s.rs kb))).c2, .int .i64 (V4.all ((regAt s.rs ka).dot (regAt s.rs kb))).c3]) (results_blk (b := w.heap.size + 1) (t := 4) (ty := 29) rfl rfl R9 Try.underlying29 rfl (by kernel_rfl)) rfl ⟨rfl, ?_⟩
  exact Ext.calm_trans ((HE1.out.trans x2).trans x3) ((((calm_setP _ (w.heap.size + 1) 0 _).trans (calm_setP _ (w.heap.size + 1) 1 _)).trans (calm_setP _ (w.heap.size + 1) 2 _)).trans (calm_setP _ (w.heap.size + 1) 3 _)) (fun g hg => by simp at hg; omega)
set_option maxRecDepth 100000 in
set_option maxHeartbeats 2000000 in
theorem comp_op9 (w : World) (mb : Nat) (vp : Value) (s : St) (hM : MAt w mb vp s) (hRB : RB s.rs) (kd ka kb : Nat) (imm : Int) (hkd : kd < 12) (hka : ka < 12) (hkb : kb < 12) (himm : -32768 ≤ imm ∧ imm ≤ 32767) (jb jm : Nat) (hjb : (kb : Int) % 4 = jb) (hjm : imm % 4 = jm) :
    Calls Try.prog 52 #[.pointer (some ⟨mb, 0, none⟩), .agg #[.int .u8 9, .int .u8 (kd : Int), .int .u8 (ka : Int), .int .u8 (kb : Int), .int .i16 imm]] w fun e w' => e = .returned (.agg #[.int .i64 (V4.all ((regAt s.rs ka).get jb)).c0, .int .i64 (V4.all ((regAt s.rs ka).get jb)).c1, .int .i64 (V4.all ((regAt s.rs ka).get jb)).c2, .int .i64 (V4.all ((regAt s.rs ka).get jb)).c3]) ∧ Ext w w' := by
  have hlt := hM.lt
  have hj4 : jb < 4 := by omega
  have HJ := Lib.hid hjb
  have HK := Lib.hid hjm
  clear hjb hjm
  have X0 := (Blk.new w #[.int .u8 9, .int .u8 (kd : Int), .int .u8 (ka : Int), .int .u8 (kb : Int), .int .i16 imm] 70).alloc (.cells #[.int .i64 0, .int .i64 0, .int .i64 0, .int .i64 0] 29)
  have R0 := Blk.new' (w := w.alloc (.cells #[.int .u8 9, .int .u8 (kd : Int), .int .u8 (ka : Int), .int .u8 (kb : Int), .int .i16 imm] 70)) (b := w.heap.size + 1) (by simp) #[.int .i64 0, .int .i64 0, .int .i64 0, .int .i64 0] 29
  have E0 := ((Ext.refl w).alloc #[.int .u8 9, .int .u8 (kd : Int), .int .u8 (ka : Int), .int .u8 (kb : Int), .int .i16 imm] 70).alloc #[.int .i64 0, .int .i64 0, .int .i64 0, .int .i64 0] 29
  have M0 := hM.ext E0
  have HE0 := Lib.hid E0
  have HX0 := Lib.hid X0
  have HR0 := Lib.hid R0
  have HM0 := Lib.hid M0
  have va := hRB.at ka
  have vb := hRB.at kb
  have va0 := va.1.wide
  have va1 := va.2.1.wide
  have va2 := va.2.2.1.wide
  have va3 := va.2.2.2.wide
  have vb0 := vb.1.wide
  have vb1 := vb.2.1.wide
  have vb2 := vb.2.2.1.wide
  have vb3 := vb.2.2.2.wide
  clear E0 X0 R0 M0 hM va vb
  go_enter Try.func52, Try.ntmps52
  go_wp2_with fail
  refine comp_r1 _ _ _ _ _ _ _ _ _ _ _ _ _ _ _ _ _ _ _ _ _ _ _ _ _ _ _ _ _ _ _ _ _ _ _ _ _ _ _ _ _ _ _ _ _ _ _ _ _ _ _ _ _ _ _ _ _ _ _ _ _ _ _ _ _ _ _ _ _ _ _ _ _ _ _ _ _ _ _ _ _ _ _ _ _ _ _ _ _ _ _ _ _ _ _ _ _ _ _ _ _ _ mb w.heap.size kd ka kb 9 imm vp s _ HM0.out HX0.out hkd hka hkb ?_
  rintro c8 c9 c10 c11 c12 c13 c14 c15 c16 c17 c18 c19 c20 c21 c22 c23 w1 ba bb ⟨A1, B1, hne, l1, l2, x1⟩
  have X1 := HX0.out.ext x1
  have R1 := HR0.out.ext x1
  have M1 := HM0.out.ext x1
  have HE1 := Lib.hid (HE0.out.trans x1)
  simp at l1 l2
  have HM1 := Lib.hid M1
  clear HX0 HR0 HM0 x1 HE0 M1
  have cA := A1.cell
  have cB := B1.cell
  have cX := X1.cell
  have cR := R1.cell
  have fR := R1.frozen
  have hwk : IntKind.i64.wrap (kb : Int) = kb := by rw [IntKind.wrap_i64]; omega
  go_wp2_with fail
  refine (component_nat _ (by omega) jb HJ.out _).mono ?_
  rintro e w2 ⟨rfl, q2⟩
  have x2 := (Ext.refl w1).qt q2
  have R2 := R1.ext x2
  have cg := V4.cell (A1.ext x2) jb hj4
  go_wp2_with fail
  refine (vmall_any ((regAt s.rs ka).get jb) _).mono ?_
  rintro e w3 ⟨rfl, x3⟩
  have R3 := R2.ext x3
  have c3 := R3.cell
  have f3 := R3.frozen
  clear cA cB cX cR fR cg A1 B1 X1 R1
  go_wp2
  have R9 : Blk _ (w.heap.size + 1) #[.int .i64 (V4.all ((regAt s.rs ka).get jb)).c0, .int .i64 (V4.all ((regAt s.rs ka).get jb)).c1, .int .i64 (V4.all ((regAt s.rs ka).get jb)).c2, .int .i64 (V4.all ((regAt s.rs ka).get jb)).c3] 29 := (((R3.set 0 (.int .i64 (V4.all ((regAt s.rs ka).get jb)).c0)).set 1 (.int .i64 (V4.all ((regAt s.rs ka).get jb)).c1)).set 2 (.int .i64 (V4.all ((regAt s.rs ka).get jb)).c2)).set 3 (.int .i64 (V4.all ((regAt s.rs ka).get jb)).c3)
  refine bodyPost_ret (v := .agg #[.int .i64 (V4.all ((regAt s.rs ka).get jb)).c0, .int .i64 (V4.all ((regAt s.rs ka).get jb)).c1, .int .i64 (V4.all ((regAt s.rs ka).get jb)).c2, .int .i64 (V4.all ((regAt s.rs ka).get jb)).c3]) (results_blk (b := w.heap.size + 1) (t := 4) (ty := 29) rfl rfl R9 Try.underlying29 rfl (by kernel_rfl)) rfl ⟨rfl, ?_⟩
  exact Ext.calm_trans ((HE1.out.trans x2).trans x3) ((((calm_setP _ (w.heap.size + 1) 0 _).trans (calm_setP _ (w.heap.size + 1) 1 _)).trans (calm_setP _ (w.heap.size + 1) 2 _)).trans (calm_setP _ (w.heap.size + 1) 3 _)) (fun g hg => by simp at hg; omega)
set_option maxRecDepth 100000 in
set_option maxHeartbeats 2000000 in
theorem comp_op10 (w : World) (mb : Nat) (vp : Value) (s : St) (hM : MAt w mb vp s) (hRB : RB s.rs) (kd ka kb : Nat) (imm : Int) (hkd : kd < 12) (hka : ka < 12) (hkb : kb < 12) (himm : -32768 ≤ imm ∧ imm ≤ 32767) (jb jm : Nat) (hjb : (kb : Int) % 4 = jb) (hjm : imm % 4 = jm) :
    Calls Try.prog 52 #[.pointer (some ⟨mb, 0, none⟩), .agg #[.int .u8 10, .int .u8 (kd : Int), .int .u8 (ka : Int), .int .u8 (kb : Int), .int .i16 imm]] w fun e w' => e = .returned (.agg #[.int .i64 ((regAt s.rs kd).put jb ((regAt s.rs ka).get jm)).c0, .int .i64 ((regAt s.rs kd).put jb ((regAt s.rs ka).get jm)).c1, .int .i64 ((regAt s.rs kd).put jb ((regAt s.rs ka).get jm)).c2, .int .i64 ((regAt s.rs kd).put jb ((regAt s.rs ka).get jm)).c3]) ∧ Ext w w' := by
  have hlt := hM.lt
  have hj4 : jb < 4 := by omega
  have HJ := Lib.hid hjb
  have HK := Lib.hid hjm
  clear hjb hjm
  have X0 := (Blk.new w #[.int .u8 10, .int .u8 (kd : Int), .int .u8 (ka : Int), .int .u8 (kb : Int), .int .i16 imm] 70).alloc (.cells #[.int .i64 0, .int .i64 0, .int .i64 0, .int .i64 0] 29)
  have R0 := Blk.new' (w := w.alloc (.cells #[.int .u8 10, .int .u8 (kd : Int), .int .u8 (ka : Int), .int .u8 (kb : Int), .int .i16 imm] 70)) (b := w.heap.size + 1) (by simp) #[.int .i64 0, .int .i64 0, .int .i64 0, .int .i64 0] 29
  have E0 := ((Ext.refl w).alloc #[.int .u8 10, .int .u8 (kd : Int), .int .u8 (ka : Int), .int .u8 (kb : Int), .int .i16 imm] 70).alloc #[.int .i64 0, .int .i64 0, .int .i64 0, .int .i64 0] 29
  have M0 := hM.ext E0
  have HE0 := Lib.hid E0
  have HX0 := Lib.hid X0
  have HR0 := Lib.hid R0
  have HM0 := Lib.hid M0
  have va := hRB.at ka
  have vb := hRB.at kb
  have va0 := va.1.wide
  have va1 := va.2.1.wide
  have va2 := va.2.2.1.wide
  have va3 := va.2.2.2.wide
  have vb0 := vb.1.wide
  have vb1 := vb.2.1.wide
  have vb2 := vb.2.2.1.wide
  have vb3 := vb.2.2.2.wide
  clear E0 X0 R0 M0 hM va vb
  go_enter Try.func52, Try.ntmps52
  go_wp2_with fail
  refine comp_r1 _ _ _ _ _ _ _ _ _ _ _ _ _ _ _ _ _ _ _ _ _ _ _ _ _ _ _ _ _ _ _ _ _ _ _ _ _ _ _ _ _ _ _ _ _ _ _ _ _ _ _ _ _ _ _ _ _ _ _ _ _ _ _ _ _ _ _ _ _ _ _ _ _ _ _ _ _ _ _ _ _ _ _ _ _ _ _ _ _ _ _ _ _ _ _ _ _ _ _ _ _ _ mb w.heap.size kd ka kb 10 imm vp s _ HM0.out HX0.out hkd hka hkb ?_
  rintro c8 c9 c10 c11 c12 c13 c14 c15 c16 c17 c18 c19 c20 c21 c22 c23 w1 ba bb ⟨A1, B1, hne, l1, l2, x1⟩
  have X1 := HX0.out.ext x1
  have R1 := HR0.out.ext x1
  have M1 := HM0.out.ext x1
  have HE1 := Lib.hid (HE0.out.trans x1)
  simp at l1 l2
  have HM1 := Lib.hid M1
  clear HX0 HR0 HM0 x1 HE0 M1
  have cA := A1.cell
  have cB := B1.cell
  have cX := X1.cell
  have cR := R1.cell
  have fR := R1.frozen
  go_wp2_with fail
  refine comp_r20 _ _ _ _ _ _ _ _ _ _ _ _ _ _ _ _ _ _ _ _ _ _ _ _ _ _ _ _ _ _ _ _ _ _ _ _ _ _ _ _ _ _ _ _ _ _ _ _ _ _ _ _ _ _ _ _ _ _ _ _ _ _ _ _ _ _ _ _ _ _ _ _ _ _ _ _ _ _ _ _ _ _ _ _ _ _ _ _ _ _ _ _ _ _ _ _ _ _ _ _ _ _ mb w.heap.size kd ka kb 10 imm vp s w1 HM1.out X1 hkd hka hkb ?_
  rintro d0 d1 d2 d3 d4 d5 d6 d7 w2 bd ⟨D2, l3, x2⟩
  have zA := A1.lt
  have zX := X1.lt
  have zR := R1.lt
  go_wp2_with fail
  refine comp_r21 _ _ _ _ _ _ _ _ _ _ _ _ _ _ _ _ _ _ _ _ _ _ _ _ _ _ _ _ _ _ _ _ _ _ _ _ _ _ _ _ _ _ _ _ _ _ _ _ _ _ _ _ _ _ _ _ _ _ _ _ _ _ _ _ _ _ _ _ _ _ _ _ _ _ _ _ _ _ _ _ _ _ _ _ _ _ _ _ _ _ _ _ _ _ _ _ _ _ _ _ _ w.heap.size ba bd kd ka kb jb jm 10 imm (regAt s.rs ka) (regAt s.rs kd) w2 (X1.ext x2) (A1.ext x2) D2 hkb himm HJ.out HK.out (by omega) (by omega) ?_
  rintro g0 g1 g2 g3 g4 g5 g6 g7 g8 g9 g10 w3 ⟨D3, k3⟩
  have R3 := (R1.ext x2).calm k3 (by simp; omega)
  have E3 := Ext.calm_trans (HE1.out.trans x2) k3 (fun g hg => by simp at hg; omega)
  have c3 := R3.cell
  have f3 := R3.frozen
  have cD := D3.cell
  clear cA cB cX cR fR A1 B1 X1 R1
  go_wp2
  have R9 : Blk _ (w.heap.size + 1) #[.int .i64 ((regAt s.rs kd).put jb ((regAt s.rs ka).get jm)).c0, .int .i64 ((regAt s.rs kd).put jb ((regAt s.rs ka).get jm)).c1, .int .i64 ((regAt s.rs kd).put jb ((regAt s.rs ka).get jm)).c2, .int .i64 ((regAt s.rs kd).put jb ((regAt s.rs ka).get jm)).c3] 29 := (((R3.set 0 (.int .i64 ((regAt s.rs kd).put jb ((regAt s.rs ka).get jm)).c0)).set 1 (.int .i64 ((regAt s.rs kd).put jb ((regAt s.rs ka).get jm)).c1)).set 2 (.int .i64 ((regAt s.rs kd).put jb ((regAt s.rs ka).get jm)).c2)).set 3 (.int .i64 ((regAt s.rs kd).put jb ((regAt s.rs ka).get jm)).c3)
  refine bodyPost_ret (v := .agg #[.int .i64 ((regAt s.rs kd).put jb ((regAt s.rs ka).get jm)).c0, .int .i64 ((regAt s.rs kd).put jb ((regAt s.rs ka).get jm)).c1, .int .i64 ((regAt s.rs kd).put jb ((regAt s.rs ka).get jm)).c2, .int .i64 ((regAt s.rs kd).put jb ((regAt s.rs ka).get jm)).c3]) (results_blk (b := w.heap.size + 1) (t := 4) (ty := 29) rfl rfl R9 Try.underlying29 rfl (by kernel_rfl)) rfl ⟨rfl, ?_⟩
  exact Ext.calm_trans E3 ((((calm_setP _ (w.heap.size + 1) 0 _).trans (calm_setP _ (w.heap.size + 1) 1 _)).trans (calm_setP _ (w.heap.size + 1) 2 _)).trans (calm_setP _ (w.heap.size + 1) 3 _)) (fun g hg => by simp at hg; omega)
set_option maxRecDepth 100000 in
set_option maxHeartbeats 2000000 in
theorem comp_op14 (w : World) (mb : Nat) (vp : Value) (s : St) (hM : MAt w mb vp s) (hRB : RB s.rs) (kd ka kb : Nat) (imm : Int) (hkd : kd < 12) (hka : ka < 12) (hkb : kb < 12) (himm : -32768 ≤ imm ∧ imm ≤ 32767) (h8 : ka < 9) :
    Calls Try.prog 52 #[.pointer (some ⟨mb, 0, none⟩), .agg #[.int .u8 14, .int .u8 (kd : Int), .int .u8 (ka : Int), .int .u8 (kb : Int), .int .i16 imm]] w fun e w' => e = .returned (.agg #[.int .i64 (matT s.rs ka (regAt s.rs kb)).c0, .int .i64 (matT s.rs ka (regAt s.rs kb)).c1, .int .i64 (matT s.rs ka (regAt s.rs kb)).c2, .int .i64 (matT s.rs ka (regAt s.rs kb)).c3]) ∧ Ext w w' := by
  have hlt := hM.lt
  have X0 := (Blk.new w #[.int .u8 14, .int .u8 (kd : Int), .int .u8 (ka : Int), .int .u8 (kb : Int), .int .i16 imm] 70).alloc (.cells #[.int .i64 0, .int .i64 0, .int .i64 0, .int .i64 0] 29)
  have R0 := Blk.new' (w := w.alloc (.cells #[.int .u8 14, .int .u8 (kd : Int), .int .u8 (ka : Int), .int .u8 (kb : Int), .int .i16 imm] 70)) (b := w.heap.size + 1) (by simp) #[.int .i64 0, .int .i64 0, .int .i64 0, .int .i64 0] 29
  have E0 := ((Ext.refl w).alloc #[.int .u8 14, .int .u8 (kd : Int), .int .u8 (ka : Int), .int .u8 (kb : Int), .int .i16 imm] 70).alloc #[.int .i64 0, .int .i64 0, .int .i64 0, .int .i64 0] 29
  have M0 := hM.ext E0
  have HE0 := Lib.hid E0
  have HX0 := Lib.hid X0
  have HR0 := Lib.hid R0
  have HM0 := Lib.hid M0
  have va := hRB.at ka
  have vb := hRB.at kb
  have va0 := va.1.wide
  have va1 := va.2.1.wide
  have va2 := va.2.2.1.wide
  have va3 := va.2.2.2.wide
  have vb0 := vb.1.wide
  have vb1 := vb.2.1.wide
  have vb2 := vb.2.2.1.wide
  have vb3 := vb.2.2.2.wide
  clear E0 X0 R0 M0 hM va vb
  go_enter Try.func52, Try.ntmps52
  go_wp2_with fail
  refine comp_r1 _ _ _ _ _ _ _ _ _ _ _ _ _ _ _ _ _ _ _ _ _ _ _ _ _ _ _ _ _ _ _ _ _ _ _ _ _ _ _ _ _ _ _ _ _ _ _ _ _ _ _ _ _ _ _ _ _ _ _ _ _ _ _ _ _ _ _ _ _ _ _ _ _ _ _ _ _ _ _ _ _ _ _ _ _ _ _ _ _ _ _ _ _ _ _ _ _ _ _ _ _ _ mb w.heap.size kd ka kb 14 imm vp s _ HM0.out HX0.out hkd hka hkb ?_
  rintro c8 c9 c10 c11 c12 c13 c14 c15 c16 c17 c18 c19 c20 c21 c22 c23 w1 ba bb ⟨A1, B1, hne, l1, l2, x1⟩
  have X1 := HX0.out.ext x1
  have R1 := HR0.out.ext x1
  have M1 := HM0.out.ext x1
  have HE1 := Lib.hid (HE0.out.trans x1)
  simp at l1 l2
  have HM1 := Lib.hid M1
  clear HX0 HR0 HM0 x1 HE0 M1
  have cA := A1.cell
  have cB := B1.cell
  have cX := X1.cell
  have cR := R1.cell
  have fR := R1.frozen
  have zB := B1.lt
  have zX := X1.lt
  have zM := HM1.out.lt
  go_wp2_with fail
  refine comp_r24 _ _ _ _ _ _ _ _ _ _ _ _ _ _ _ _ _ _ _ _ _ _ _ _ _ _ _ _ _ _ _ _ _ _ _ _ _ _ _ _ _ _ _ _ _ _ _ _ _ _ _ _ _ _ _ _ _ _ _ _ _ _ _ _ _ _ _ _ _ _ _ _ _ _ _ _ _ _ _ _ _ _ _ _ _ _ _ _ _ _ _ _ _ _ _ _ _ _ _ _ mb w.heap.size kd ka kb 14 imm vp s w1 HM1.out X1 hkd hka hkb (w.heap.size + 1) bb (regAt s.rs kb) B1 R1 hRB (hRB.at kb) h8 (by omega) (by omega) (by omega) ?_
  rintro g0 g1 g2 g3 g4 g5 w2 ⟨R2, k2⟩
  have E2 := Ext.calm_trans HE1.out k2 (fun g hg => by simp at hg; omega)
  go_wp2
  refine bodyPost_ret (v := .agg #[.int .i64 (matT s.rs ka (regAt s.rs kb)).c0, .int .i64 (matT s.rs ka (regAt s.rs kb)).c1, .int .i64 (matT s.rs ka (regAt s.rs kb)).c2, .int .i64 (matT s.rs ka (regAt s.rs kb)).c3]) (results_blk (b := w.heap.size + 1) (t := 4) (ty := 29) rfl rfl R2 Try.underlying29 rfl (by kernel_rfl)) rfl ⟨rfl, ?_⟩
  exact E2
end Go.Proofs.Ytellfhnfifgpoaa

