/-
  DERIVED. THE LAW VmNone: programs that may not be do nothing (made by mkvm.py).
-/
import Derived.Test.YtellfhnfifgpoaaPkRun
import Derived.Test.YtellfhnfifgpoaaPkCheck
import Derived.Test.YtellfhnfifgpoaaPkIsa
import Derived.Test.YtellfhnfifgpoaaPkFix
namespace Go.Proofs.Ytellfhnfifgpoaa
open Go.RowKit
set_option linter.unusedVariables false
def V4.clamp (v : V4) : V4 := ⟨clampZ v.c0, clampZ v.c1, clampZ v.c2, clampZ v.c3⟩
theorem getD_clamp (rs : List Int) (j : Nat) : (rs.map clampZ).getD j 0 = clampZ (rs.getD j 0) := by
  by_cases hj : j < rs.length
  · simp [List.getD, hj]
  · simp [List.getD, List.getElem?_eq_none (Nat.le_of_not_lt hj)]
    rfl
theorem regAt_clamp (rs : List Int) (i : Nat) : regAt (rs.map clampZ) i = (regAt rs i).clamp := by
  unfold regAt V4.clamp
  simp only [getD_clamp]
theorem within_q (v : V4) (b0 : -9223372036854775808 ≤ v.c0 ∧ v.c0 ≤ 9223372036854775807) (b1 : -9223372036854775808 ≤ v.c1 ∧ v.c1 ≤ 9223372036854775807) (b2 : -9223372036854775808 ≤ v.c2 ∧ v.c2 ≤ 9223372036854775807) (b3 : -9223372036854775808 ≤ v.c3 ∧ v.c3 ≤ 9223372036854775807) (w : World) : Calls Try.prog 24 #[.agg #[.int .i64 v.c0, .int .i64 v.c1, .int .i64 v.c2, .int .i64 v.c3], .int .i64 2147483647] w fun e w' => e = .returned (.agg #[.int .i64 v.clamp.c0, .int .i64 v.clamp.c1, .int .i64 v.clamp.c2, .int .i64 v.clamp.c3]) ∧ Ext w w' := by
  have h := vec_within v.c0 v.c1 v.c2 v.c3 2147483647 b0 b1 b2 b3 (by omega) w
  simp only [withinW_q] at h
  exact h
set_option maxRecDepth 100000 in
set_option maxHeartbeats 4000000 in
theorem none_r15 (f1 f2 f3 f4 f5 f6 f7 f8 f9 f10 f11 f12 f13 f15 f16 f18 f19 f20 f21 f22 f23 f24 f25 f26 f27 f28 f29 f30 f31 f32 f33 f34 f35 f36 f37 f38 f39 f40 f41 f42 f43 f44 f45 f46 f47 f48 f49 f50 f51 f52 f53 f54 f55 f56 f57 f58 f59 f60 f61 f62 f63 f64 f65 f66 f67 f68 f69 f70 f71 f72 f73 f74 f75 f76 f77 f78 f79 f80 f81 f82 f83 f84 f85 f86 f87 f88 f89 f90 f91 f92 f93 f94 f95 f96 f97 f98 : Value) (ao : Option Addr) (n cc rb : Nat) (k : Int) (xs : List In) (s : St) (w : World) (hP : PArr w (.slice ao n cc) xs) (hok : ∀ x ∈ xs, x.ok) (hl : xs.length ≤ 1000) (hR : RAt w rb s) (hle : s.steps ≤ fuelL xs) (hlk : k ≤ fuelL xs) {Q : Exit → Act → World → Prop}
    (hQ : ∀ (c63 c64 c65 c66 c67 c68 c69 c70 c71 c72 c73 : Value) (wx : World) , Ext w wx → Q .normal ⟨(Value.slice ao n cc :: f1 :: f2 :: f3 :: f4 :: f5 :: f6 :: f7 :: f8 :: f9 :: f10 :: f11 :: Value.bool true :: f13 :: Value.pointer (some ⟨rb, 0, none⟩) :: f15 :: f16 :: Value.int .i64 k :: f18 :: f19 :: f20 :: f21 :: f22 :: f23 :: f24 :: f25 :: f26 :: f27 :: f28 :: f29 :: f30 :: f31 :: f32 :: f33 :: f34 :: f35 :: f36 :: f37 :: f38 :: f39 :: f40 :: f41 :: f42 :: f43 :: f44 :: f45 :: f46 :: f47 :: f48 :: f49 :: f50 :: f51 :: f52 :: f53 :: f54 :: f55 :: f56 :: f57 :: f58 :: f59 :: f60 :: f61 :: f62 :: c63 :: c64 :: c65 :: c66 :: c67 :: c68 :: c69 :: c70 :: c71 :: c72 :: c73 :: f74 :: f75 :: f76 :: f77 :: f78 :: f79 :: f80 :: f81 :: f82 :: f83 :: f84 :: f85 :: f86 :: f87 :: f88 :: f89 :: f90 :: f91 :: f92 :: f93 :: f94 :: f95 :: f96 :: f97 :: f98 :: List.nil).toArray, []⟩ wx) : Code.wp Try.prog (regionOf Try.f5 15) Q ⟨(Value.slice ao n cc :: f1 :: f2 :: f3 :: f4 :: f5 :: f6 :: f7 :: f8 :: f9 :: f10 :: f11 :: f12 :: f13 :: Value.pointer (some ⟨rb, 0, none⟩) :: f15 :: f16 :: Value.int .i64 k :: f18 :: f19 :: f20 :: f21 :: f22 :: f23 :: f24 :: f25 :: f26 :: f27 :: f28 :: f29 :: f30 :: f31 :: f32 :: f33 :: f34 :: f35 :: f36 :: f37 :: f38 :: f39 :: f40 :: f41 :: f42 :: f43 :: f44 :: f45 :: f46 :: f47 :: f48 :: f49 :: f50 :: f51 :: f52 :: f53 :: f54 :: f55 :: f56 :: f57 :: f58 :: f59 :: f60 :: f61 :: f62 :: f63 :: f64 :: f65 :: f66 :: f67 :: f68 :: f69 :: f70 :: f71 :: f72 :: f73 :: f74 :: f75 :: f76 :: f77 :: f78 :: f79 :: f80 :: f81 :: f82 :: f83 :: f84 :: f85 :: f86 :: f87 :: f88 :: f89 :: f90 :: f91 :: f92 :: f93 :: f94 :: f95 :: f96 :: f97 :: f98 :: List.nil).toArray, []⟩ w := by
  have HQ := Lib.hid hQ
  clear hQ
  change Code.wp Try.prog (Code.region _ _ true) _ _ _
  apply wp_region_vars [false, false, false, false, false, false, false, false, false, false, false, false] [] [] _ (by kernel_rfl) (by kernel_rfl) (by kernel_rfl)
  case H =>
    intro x hx
    have hne : Nonempty (Wx x) := ⟨⟨x, Ext.refl x⟩⟩
    have qR := fun (y : Wx x) => ((hR.calm hx (by simp)).ext y.ext).steps
    have qP := fun (y : Wx x) => (hP.ext (hx.ext.trans y.ext))
    simp only [eraseM]
    repeat (go_big_quiet_step (first | (go_at_call 16; exact calm_of (fuelP_any _ _ xs (qP _) hok (by omega)))))
    exact wpQuiet_nil rfl
  case hok => exact fun t ht => absurd ht (List.not_mem_nil)
  case hdis =>
    intro k k' t t' hk
    cases hk
  rintro w2 f hw -
  have hx2 := hw.ext
  exact HQ.out _ _ _ _ _ _ _ _ _ _ _ w2 hx2
set_option maxRecDepth 100000 in
set_option maxHeartbeats 4000000 in
theorem none_r19 (f0 f1 f2 f3 f4 f5 f6 f7 f8 f9 f10 f11 f12 f14 f15 f16 f17 f18 f19 f22 f23 f24 f25 f26 f27 f28 f29 f30 f31 f32 f33 f34 f35 f36 f37 f38 f39 f40 f41 f42 f43 f44 f45 f46 f47 f48 f49 f50 f51 f52 f53 f54 f55 f56 f57 f58 f59 f60 f61 f62 f63 f64 f65 f66 f67 f68 f69 f70 f71 f72 f73 f74 f75 f76 f77 f78 f79 f80 f81 f82 f83 f84 f85 f86 f87 f88 f89 f90 f91 f92 f93 f94 f95 f96 f97 f98 : Value) (gb nb i : Nat) (rs : List Int) (hrl : rs.length = 48) (hbd : ∀ j, -9223372036854775808 ≤ rs.getD j 0 ∧ rs.getD j 0 ≤ 9223372036854775807) (w : World) (hG : Blk w gb (RL rs) 31) (hN : Blk w nb #[.int .i64 (regAt rs i).clamp.c0, .int .i64 (regAt rs i).clamp.c1, .int .i64 (regAt rs i).clamp.c2, .int .i64 (regAt rs i).clamp.c3] 29) (hi : i < 12) {Q : Exit → Act → World → Prop}
    (hQ : ∀ (c80 c81 c82 c83 c84 : Value) (wx : World) , Ext w wx → Q .normal ⟨(f0 :: f1 :: f2 :: f3 :: f4 :: f5 :: f6 :: f7 :: f8 :: f9 :: f10 :: f11 :: f12 :: Value.pointer (some ⟨gb, 0, none⟩) :: f14 :: f15 :: f16 :: f17 :: f18 :: f19 :: Value.int .i64 (i : Int) :: Value.pointer (some ⟨nb, 0, none⟩) :: f22 :: f23 :: f24 :: f25 :: f26 :: f27 :: f28 :: f29 :: f30 :: f31 :: f32 :: f33 :: f34 :: f35 :: f36 :: f37 :: f38 :: f39 :: f40 :: f41 :: f42 :: f43 :: f44 :: f45 :: f46 :: f47 :: f48 :: f49 :: f50 :: f51 :: f52 :: f53 :: f54 :: f55 :: f56 :: f57 :: f58 :: f59 :: f60 :: f61 :: f62 :: f63 :: f64 :: f65 :: f66 :: f67 :: f68 :: f69 :: f70 :: f71 :: f72 :: f73 :: f74 :: f75 :: f76 :: f77 :: f78 :: f79 :: c80 :: c81 :: c82 :: c83 :: c84 :: Value.bool false :: f86 :: f87 :: f88 :: f89 :: f90 :: f91 :: f92 :: f93 :: f94 :: f95 :: f96 :: f97 :: f98 :: List.nil).toArray, []⟩ wx) : Code.wp Try.prog (regionOf Try.f5 19) Q ⟨(f0 :: f1 :: f2 :: f3 :: f4 :: f5 :: f6 :: f7 :: f8 :: f9 :: f10 :: f11 :: f12 :: Value.pointer (some ⟨gb, 0, none⟩) :: f14 :: f15 :: f16 :: f17 :: f18 :: f19 :: Value.int .i64 (i : Int) :: Value.pointer (some ⟨nb, 0, none⟩) :: f22 :: f23 :: f24 :: f25 :: f26 :: f27 :: f28 :: f29 :: f30 :: f31 :: f32 :: f33 :: f34 :: f35 :: f36 :: f37 :: f38 :: f39 :: f40 :: f41 :: f42 :: f43 :: f44 :: f45 :: f46 :: f47 :: f48 :: f49 :: f50 :: f51 :: f52 :: f53 :: f54 :: f55 :: f56 :: f57 :: f58 :: f59 :: f60 :: f61 :: f62 :: f63 :: f64 :: f65 :: f66 :: f67 :: f68 :: f69 :: f70 :: f71 :: f72 :: f73 :: f74 :: f75 :: f76 :: f77 :: f78 :: f79 :: f80 :: f81 :: f82 :: f83 :: f84 :: f85 :: f86 :: f87 :: f88 :: f89 :: f90 :: f91 :: f92 :: f93 :: f94 :: f95 :: f96 :: f97 :: f98 :: List.nil).toArray, []⟩ w := by
  have HQ := Lib.hid hQ
  clear hQ
  have hiI : (i : Int) < 12 := by omega
  have hE := eqV
  change Code.wp Try.prog (Code.region _ _ true) _ _ _
  apply wp_region_vars [false, false, false, false, false, false] [] [] _ (by kernel_rfl) (by kernel_rfl) (by kernel_rfl)
  case H =>
    intro x hx
    have hne : Nonempty (Wx x) := ⟨⟨x, Ext.refl x⟩⟩
    have qhN := fun (y : Wx x) => ((hN.calm hx (by simp)).ext y.ext).cell
    have qG0 := fun (y : Wx x) => RL.cell hrl ((hG.calm hx (by simp)).ext y.ext) (i * 4) (by omega)
    have qG1 := fun (y : Wx x) => RL.cell hrl ((hG.calm hx (by simp)).ext y.ext) (i * 4 + 1) (by omega)
    have qG2 := fun (y : Wx x) => RL.cell hrl ((hG.calm hx (by simp)).ext y.ext) (i * 4 + 2) (by omega)
    have qG3 := fun (y : Wx x) => RL.cell hrl ((hG.calm hx (by simp)).ext y.ext) (i * 4 + 3) (by omega)
    simp only [eraseM]
    repeat (go_big_quiet_step (first | (go_at_call 24; exact calm_of (within_q (regAt rs i) (hbd _) (hbd _) (hbd _) (hbd _) _))))
    exact wpQuiet_nil rfl
  case hok => exact fun t ht => absurd ht (List.not_mem_nil)
  case hdis =>
    intro k k' t t' hk
    cases hk
  rintro w2 f hw -
  have hx2 := hw.ext
  exact HQ.out _ _ _ _ _ w2 hx2
theorem lim_bd (v : V4) : (¬ (v.lim 0 65536).c0 < 0 ∧ ¬ 65536 < (v.lim 0 65536).c0) ∧ (¬ (v.lim 0 65536).c1 < 0 ∧ ¬ 65536 < (v.lim 0 65536).c1) ∧ (¬ (v.lim 0 65536).c2 < 0 ∧ ¬ 65536 < (v.lim 0 65536).c2) ∧ (¬ (v.lim 0 65536).c3 < 0 ∧ ¬ 65536 < (v.lim 0 65536).c3) := by
  have h : ∀ n : Int, ¬ limI 0 65536 n < 0 ∧ ¬ 65536 < limI 0 65536 n := fun n => by rw [limI_eq (by omega)]; omega
  exact ⟨h _, h _, h _, h _⟩
theorem RAt.regs {w : World} {b : Nat} {s : St} (h : RAt w b s) : w.rangeAt b 0 (s.rs.map (Value.int .i64)) := fun j v hv => by
  have hj := (List.getElem?_eq_some_iff.1 hv).1
  rw [Nat.zero_add, h.1.cell j]
  simp only [List.getElem?_toArray, resL]
  rw [List.getElem?_append_left hj]
  exact hv
set_option maxRecDepth 100000 in
set_option maxHeartbeats 4000000 in
theorem vmNone_main {w : World} (u : Value) (p : List In) (v1 : Value) (ins : List Int) (raw : V4) (x y d : Int) (h0 : PArr w u p) (hok : ∀ x ∈ p, x.ok) (h1 : Arr w .i32 v1 ins) (b0 : -9223372036854775808 ≤ raw.c0 ∧ raw.c0 ≤ 9223372036854775807) (b1 : -9223372036854775808 ≤ raw.c1 ∧ raw.c1 ≤ 9223372036854775807) (b2 : -9223372036854775808 ≤ raw.c2 ∧ raw.c2 ≤ 9223372036854775807) (b3 : -9223372036854775808 ≤ raw.c3 ∧ raw.c3 ≤ 9223372036854775807) (hx : -9223372036854775808 ≤ x ∧ x ≤ 9223372036854775807) (hy : -9223372036854775808 ≤ y ∧ y ≤ 9223372036854775807) (hd : -9223372036854775808 ≤ d ∧ d ≤ 9223372036854775807) (l0 : p.length ≤ 60) (l1 : ins.length ≤ 100) :
    Calls Try.prog 5 #[u, v1, .agg #[.int .i64 raw.c0, .int .i64 raw.c1, .int .i64 raw.c2, .int .i64 raw.c3], .int .i64 x, .int .i64 y, .int .i64 d] w fun e w' => e = .returned (.bool true) ∧ Ext w w' := by
  have HP := Lib.hid h0
  have hA := Lib.hid h1
  have HOK := Lib.hid hok
  obtain ⟨a0, c0, rfl, -, -⟩ := h0.slice
  have HBD := Lib.hid (regsOf_bd (raw := raw) (arr_wide h1) b0 b1 b2 b3)
  obtain ⟨⟨a1, c1, rfl, -, -, -⟩, -, -⟩ := h1
  have i0 : (p.length : Int) ≤ 60 := by omega
  have i1 : (ins.length : Int) ≤ 100 := by omega
  have X0 := Blk.new w #[.int .i64 raw.c0, .int .i64 raw.c1, .int .i64 raw.c2, .int .i64 raw.c3] 24
  have E0 := (Ext.refl w).alloc #[.int .i64 raw.c0, .int .i64 raw.c1, .int .i64 raw.c2, .int .i64 raw.c3] 24
  have HX0 := Lib.hid X0
  have HE0 := Lib.hid E0
  clear X0 E0 b0 b1 b2 b3 h0 hok
  go_enter Try.func5, Try.ntmps5
  go_wp2_with fail
  refine (awake8_any _).mono ?_
  rintro e w1 ⟨rfl, x1⟩
  have HE1 := Lib.hid (HE0.out.trans x1)
  have cX := (HX0.out.ext x1).cell
  clear x1 HE0 HX0
  go_wp2_with fail
  refine (regs8_rl _ _ ins (hA.out.ext HE1.out) l1 raw).mono ?_
  rintro e w3 ⟨rfl, x3⟩
  obtain ⟨rs, hrs⟩ : ∃ rs, regsOf ins raw = rs := ⟨_, rfl⟩
  have hrl : rs.length = 48 := by rw [← hrs]; exact regsOf_len ins raw
  rw [hrs] at HBD ⊢
  have HRL := Lib.hid hrl
  have hsz := RL.size hrl
  have hone := RL.one rs
  have HE3 := Lib.hid (HE1.out.trans x3)
  have Z3 := Blk.new w3 #[.int .i64 0, .int .i64 0, .int .i64 0, .int .i64 0, .int .i64 0, .int .i64 0, .int .i64 0, .int .i64 0, .int .i64 0, .int .i64 0, .int .i64 0, .int .i64 0, .int .i64 0, .int .i64 0, .int .i64 0, .int .i64 0, .int .i64 0, .int .i64 0, .int .i64 0, .int .i64 0, .int .i64 0, .int .i64 0, .int .i64 0, .int .i64 0, .int .i64 0, .int .i64 0, .int .i64 0, .int .i64 0, .int .i64 0, .int .i64 0, .int .i64 0, .int .i64 0, .int .i64 0, .int .i64 0, .int .i64 0, .int .i64 0, .int .i64 0, .int .i64 0, .int .i64 0, .int .i64 0, .int .i64 0, .int .i64 0, .int .i64 0, .int .i64 0, .int .i64 0, .int .i64 0, .int .i64 0, .int .i64 0] 31
  clear hrs hrl x3 hA cX HE1
  go_upto_region 6 with (first
    | ((with_reducible refine wpList_store_blk (op := ⟨none, .store 31 (.tmp 13) (.tmp 34), _, _, _, _⟩) ?_ 31 (.tmp 13) (.tmp 34) ?_ w3.heap.size ?_ (cs := RL rs) ?_ (T := 31) Z3 ?_ ?_ ?_ ?_); rfl; rfl; rfl; rfl; (rw [hsz]; kernel_rfl); exact hone; (rw [hsz]; rfl))
    | fail)
  have G4 := Z3.setRow (RL rs)
  have E4 := Ext.setRow ((Ext.refl w3).alloc #[.int .i64 0, .int .i64 0, .int .i64 0, .int .i64 0, .int .i64 0, .int .i64 0, .int .i64 0, .int .i64 0, .int .i64 0, .int .i64 0, .int .i64 0, .int .i64 0, .int .i64 0, .int .i64 0, .int .i64 0, .int .i64 0, .int .i64 0, .int .i64 0, .int .i64 0, .int .i64 0, .int .i64 0, .int .i64 0, .int .i64 0, .int .i64 0, .int .i64 0, .int .i64 0, .int .i64 0, .int .i64 0, .int .i64 0, .int .i64 0, .int .i64 0, .int .i64 0, .int .i64 0, .int .i64 0, .int .i64 0, .int .i64 0, .int .i64 0, .int .i64 0, .int .i64 0, .int .i64 0, .int .i64 0, .int .i64 0, .int .i64 0, .int .i64 0, .int .i64 0, .int .i64 0, .int .i64 0, .int .i64 0] 31) (Nat.le_refl _) (RL rs)
  clear Z3
  generalize (w3.alloc (.cells #[.int .i64 0, .int .i64 0, .int .i64 0, .int .i64 0, .int .i64 0, .int .i64 0, .int .i64 0, .int .i64 0, .int .i64 0, .int .i64 0, .int .i64 0, .int .i64 0, .int .i64 0, .int .i64 0, .int .i64 0, .int .i64 0, .int .i64 0, .int .i64 0, .int .i64 0, .int .i64 0, .int .i64 0, .int .i64 0, .int .i64 0, .int .i64 0, .int .i64 0, .int .i64 0, .int .i64 0, .int .i64 0, .int .i64 0, .int .i64 0, .int .i64 0, .int .i64 0, .int .i64 0, .int .i64 0, .int .i64 0, .int .i64 0, .int .i64 0, .int .i64 0, .int .i64 0, .int .i64 0, .int .i64 0, .int .i64 0, .int .i64 0, .int .i64 0, .int .i64 0, .int .i64 0, .int .i64 0, .int .i64 0] 31)).setRow w3.heap.size (RL rs) = w4 at *
  have HG4 := Lib.hid G4
  have HE4 := Lib.hid (HE3.out.trans E4)
  have hz3 := HE3.out.size
  generalize w3.heap.size = n at *
  clear E4 HE3
  go_wp2_with (first
    | ((with_reducible refine wpList_load_blk (op := ⟨some 36, _, _, _, _, _⟩) ?_ 31 (.tmp 13) ?_ n ?_ (z := RL rs) (T := 31) G4 Try.underlying31 ?_ ?_ ?_); rfl; rfl; rfl; rfl; (rw [hsz]; kernel_rfl))
    | fail)
  refine (vrun_any w4 _ p (HP.out.ext HE4.out) HOK.out (by omega) rs HRL.out HBD.out).mono ?_
  rintro e w5 ⟨rfl, x5⟩
  have hrb := runV_rb HOK.out HRL.out
  obtain ⟨s1, hs1⟩ : ∃ s1, runV p rs = s1 := ⟨_, rfl⟩
  rw [hs1] at hrb ⊢
  have HS1 := Lib.hid hs1
  have HRB := Lib.hid hrb
  have hry : (resL s1).toArray.size = 50 := by simp [resL, hrb.1]
  have hro := resL_one s1
  have Z5 := Blk.new w5 #[.int .i64 0, .int .i64 0, .int .i64 0, .int .i64 0, .int .i64 0, .int .i64 0, .int .i64 0, .int .i64 0, .int .i64 0, .int .i64 0, .int .i64 0, .int .i64 0, .int .i64 0, .int .i64 0, .int .i64 0, .int .i64 0, .int .i64 0, .int .i64 0, .int .i64 0, .int .i64 0, .int .i64 0, .int .i64 0, .int .i64 0, .int .i64 0, .int .i64 0, .int .i64 0, .int .i64 0, .int .i64 0, .int .i64 0, .int .i64 0, .int .i64 0, .int .i64 0, .int .i64 0, .int .i64 0, .int .i64 0, .int .i64 0, .int .i64 0, .int .i64 0, .int .i64 0, .int .i64 0, .int .i64 0, .int .i64 0, .int .i64 0, .int .i64 0, .int .i64 0, .int .i64 0, .int .i64 0, .int .i64 0, .bool false, .int .i64 0] 42
  have HE5 := Lib.hid (HE4.out.trans x5)
  have HG5 := Lib.hid (HG4.out.ext x5)
  clear hs1 hrb x5 G4 HG4 HE4 hsz hone
  go_upto_region 7 with (first
    | ((with_reducible refine wpList_store_blk (op := ⟨none, .store 42 (.tmp 14) (.tmp 37), _, _, _, _⟩) ?_ 42 (.tmp 14) (.tmp 37) ?_ w5.heap.size ?_ (cs := (resL s1).toArray) ?_ (T := 42) Z5 ?_ ?_ ?_ ?_); rfl; rfl; rfl; rfl; (rw [hry]; kernel_rfl); exact hro; (rw [hry]; rfl))
    | fail)
  have R6 : RAt _ w5.heap.size s1 := ⟨Z5.setRow _, HRB.out.1⟩
  have E6 := Ext.setRow ((Ext.refl w5).alloc #[.int .i64 0, .int .i64 0, .int .i64 0, .int .i64 0, .int .i64 0, .int .i64 0, .int .i64 0, .int .i64 0, .int .i64 0, .int .i64 0, .int .i64 0, .int .i64 0, .int .i64 0, .int .i64 0, .int .i64 0, .int .i64 0, .int .i64 0, .int .i64 0, .int .i64 0, .int .i64 0, .int .i64 0, .int .i64 0, .int .i64 0, .int .i64 0, .int .i64 0, .int .i64 0, .int .i64 0, .int .i64 0, .int .i64 0, .int .i64 0, .int .i64 0, .int .i64 0, .int .i64 0, .int .i64 0, .int .i64 0, .int .i64 0, .int .i64 0, .int .i64 0, .int .i64 0, .int .i64 0, .int .i64 0, .int .i64 0, .int .i64 0, .int .i64 0, .int .i64 0, .int .i64 0, .int .i64 0, .int .i64 0, .bool false, .int .i64 0] 42) (Nat.le_refl _) (resL s1).toArray
  clear Z5 hry hro
  generalize (w5.alloc (.cells #[.int .i64 0, .int .i64 0, .int .i64 0, .int .i64 0, .int .i64 0, .int .i64 0, .int .i64 0, .int .i64 0, .int .i64 0, .int .i64 0, .int .i64 0, .int .i64 0, .int .i64 0, .int .i64 0, .int .i64 0, .int .i64 0, .int .i64 0, .int .i64 0, .int .i64 0, .int .i64 0, .int .i64 0, .int .i64 0, .int .i64 0, .int .i64 0, .int .i64 0, .int .i64 0, .int .i64 0, .int .i64 0, .int .i64 0, .int .i64 0, .int .i64 0, .int .i64 0, .int .i64 0, .int .i64 0, .int .i64 0, .int .i64 0, .int .i64 0, .int .i64 0, .int .i64 0, .int .i64 0, .int .i64 0, .int .i64 0, .int .i64 0, .int .i64 0, .int .i64 0, .int .i64 0, .int .i64 0, .int .i64 0, .bool false, .int .i64 0] 42)).setRow w5.heap.size (resL s1).toArray = w6 at *
  have HR6 := Lib.hid R6
  have HE6 := Lib.hid (HE5.out.trans E6)
  have HG6 := Lib.hid (HG5.out.ext E6)
  have q0 := RL.cell HRL.out HG6.out 0 (by omega)
  have q1 := RL.cell HRL.out HG6.out 1 (by omega)
  have q2 := RL.cell HRL.out HG6.out 2 (by omega)
  have q3 := RL.cell HRL.out HG6.out 3 (by omega)
  have hbd : ∀ j, -9223372036854775808 ≤ rs.getD j 0 ∧ rs.getD j 0 ≤ 9223372036854775807 := fun j => by
    by_cases hj : j < rs.length
    · have : rs.getD j 0 = rs[j] := by simp [List.getD, hj]
      rw [this]
      exact HBD.out _ (List.getElem_mem hj)
    · have : rs.getD j 0 = 0 := by simp [List.getD, List.getElem?_eq_none (Nat.le_of_not_lt hj)]
      rw [this]
      omega
  have HBJ := Lib.hid hbd
  clear R6 E6 HE5 HG5 hbd
  go_wp2_with fail
  show Calls Try.prog _ #[_, .agg #[.int .i64 (regAt rs 0).c0, .int .i64 (regAt rs 0).c1, .int .i64 (regAt rs 0).c2, .int .i64 (regAt rs 0).c3], _, _, _] _ _
  refine (shade_any w6 _ p (HP.out.ext HE6.out) HOK.out (by omega) (regAt rs 0) (HBJ.out _) (HBJ.out _) (HBJ.out _) (HBJ.out _) x y d hx hy hd).mono ?_
  rintro e w7 ⟨rfl, x7⟩
  obtain ⟨⟨m0, m1⟩, ⟨m2, m3⟩, ⟨m4, m5⟩, ⟨m6, m7⟩⟩ := lim_bd (regAt (runV p (shadeR (regAt rs 0) x y d)).rs 0)
  obtain ⟨k, hk⟩ : ∃ k, (runV p (shadeR (regAt rs 0) x y d)).steps = k := ⟨_, rfl⟩
  rw [hk]
  have HK := Lib.hid hk
  clear hk
  generalize ((regAt (runV p (shadeR (regAt rs 0) x y d)).rs 0).lim 0 65536) = c2 at *
  have HE7 := Lib.hid (HE6.out.trans x7)
  have HG7 := Lib.hid (HG6.out.ext x7)
  have HR7 := Lib.hid (HR6.out.ext x7)
  clear x7 q0 q1 q2 q3 HE6 HG6 HR6
  have C8 := Blk.new w7 #[.int .i64 c2.c0, .int .i64 c2.c1, .int .i64 c2.c2, .int .i64 c2.c3] 29
  have E8 := (Ext.refl w7).alloc #[.int .i64 c2.c0, .int .i64 c2.c1, .int .i64 c2.c2, .int .i64 c2.c3] 29
  have HC8 := Lib.hid C8
  have HEE := Lib.hid E8
  clear C8 E8
  go_upto_region 8 with fail
  generalize w7.alloc (.cells #[.int .i64 c2.c0, .int .i64 c2.c1, .int .i64 c2.c2, .int .i64 c2.c3] 29) = w8 at *
  have cC := HC8.out.cell
  have HE8 := Lib.hid (HE7.out.trans HEE.out)
  have HG8 := Lib.hid (HG7.out.ext HEE.out)
  have HR8 := Lib.hid (HR7.out.ext HEE.out)
  clear HE7 HG7 HR7 HC8 HEE
  have hj0 := fun W => (idxV (.int .i64 c2.c0) (.int .i64 c2.c1) (.int .i64 c2.c2) (.int .i64 c2.c3) W).1
  have hj1 := fun W => (idxV (.int .i64 c2.c0) (.int .i64 c2.c1) (.int .i64 c2.c2) (.int .i64 c2.c3) W).2.1
  have hj2 := fun W => (idxV (.int .i64 c2.c0) (.int .i64 c2.c1) (.int .i64 c2.c2) (.int .i64 c2.c3) W).2.2.1
  have hj3 := fun W => (idxV (.int .i64 c2.c0) (.int .i64 c2.c1) (.int .i64 c2.c2) (.int .i64 c2.c3) W).2.2.2
  go_wp2_with fail
  refine wp_loop_rounds 5 ?_
  rw [rounds_succ]
  go_wp2
  rw [rounds_succ]
  go_wp2
  rw [rounds_succ]
  go_wp2
  rw [rounds_succ]
  go_wp2
  rw [rounds_succ]
  go_wp2_with fail
  refine (checkP_any true w8 _ p (HP.out.ext HE8.out) HOK.out (by omega)).mono ?_
  rintro e w9 ⟨rfl, x9⟩
  have HE9 := Lib.hid (HE8.out.trans x9)
  have HG9 := Lib.hid (HG8.out.ext x9)
  have HR9 := Lib.hid (HR8.out.ext x9)
  clear hj0 hj1 hj2 hj3 x9 HE8 HG8 HR8 cC m0 m1 m2 m3 m4 m5 m6 m7
  by_cases hck : chk true p = 0
  · have HCK := Lib.hid hck
    have hc0 : (chk true p == 0) = true := by simpa using hck
    clear hck
    go_wp2_with fail
    have hall := (chk_zero HCK.out).2.1
    have f1 : s1.steps ≤ fuelL p := by
      rw [← HS1.out]
      unfold runV
      rw [if_pos HCK.out]
      have := run_fuel_bound HOK.out hall (p.length - 0) (st0 rs)
      unfold run
      have h0 : (st0 rs).steps = 0 := rfl
      omega
    have f2 : k ≤ fuelL p := by
      rw [← HK.out]
      unfold runV
      rw [if_pos HCK.out]
      have := run_fuel_bound HOK.out hall (p.length - 0) (st0 (shadeR (regAt rs 0) x y d))
      unfold run
      have h0 : (st0 (shadeR (regAt rs 0) x y d)).steps = 0 := rfl
      omega
    refine none_r15 _ _ _ _ _ _ _ _ _ _ _ _ _ _ _ _ _ _ _ _ _ _ _ _ _ _ _ _ _ _ _ _ _ _ _ _ _ _ _ _ _ _ _ _ _ _ _ _ _ _ _ _ _ _ _ _ _ _ _ _ _ _ _ _ _ _ _ _ _ _ _ _ _ _ _ _ _ _ _ _ _ _ _ _ _ _ _ _ _ _ _ _ _ _ _ _ _ _ _ w5.heap.size k p s1 w9 (HP.out.ext HE9.out) HOK.out (by omega) HR9.out f1 f2 ?_
    rintro g0 g1 g2 g3 g4 g5 g6 g7 g8 g9 g10 w10 x10
    have HE10 := Lib.hid (HE9.out.trans x10)
    clear x10 f1 f2 hall
    go_wp2
    go_ret
    exact ⟨rfl, HE10.out⟩
  · have hc0 : (chk true p == 0) = false := by simpa using hck
    have hs : s1 = st0 rs := by rw [← HS1.out]; unfold runV; rw [if_neg hck]
    have hk0 : k = 0 := by rw [← HK.out]; unfold runV; rw [if_neg hck]; rfl
    have R9 := HR9.out
    rw [hs] at R9
    have cg : w9.cell? ⟨w5.heap.size, 48, none⟩ = some (.bool false) := R9.gone
    have cs : w9.cell? ⟨w5.heap.size, 49, none⟩ = some (.int .i64 0) := R9.steps
    obtain ⟨cl, hcl⟩ : ∃ cl, rs.map clampZ = cl := ⟨_, rfl⟩
    have hrr : w9.rangeAt w5.heap.size 0 (cl.map (Value.int .i64)) := by rw [← hcl]; exact R9.regs
    have hcl48 : cl.length = 48 := by rw [← hcl]; simp [HRL.out]
    have hrz : (cl.map (Value.int .i64)).length = 48 := by simp [hcl48]
    have HCL := Lib.hid hcl
    have HC48 := Lib.hid hcl48
    subst hk0
    clear hck hs R9 HR9 HK HS1 HRB hcl hcl48
    go_wp2_with (first
      | ((with_reducible refine wpList_load_mid (op := ⟨some 75, _, _, _, _, _⟩) ?_ 31 (.tmp 74) ?_ w5.heap.size 0 ?_ (cl.map (Value.int .i64)) _ hrr Try.underlying31 ?_ ?_ ?_); rfl; rfl; rfl; rfl; (rw [hrz]; kernel_rfl))
      | fail)
    have eRL : (cl.map (Value.int .i64)).toArray = RL cl := rfl
    rw [eRL]
    clear hrr hrz eRL
    go_loopg [76] 12 (fun m iv wr => ∃ i : Nat, i + m = 12 ∧ iv = .int .i64 (i : Int) ∧ Ext w9 wr)
    case atStart => exact ⟨0, by omega, rfl, Ext.refl _⟩
    case round =>
      obtain ⟨i, him, rfl, e10⟩ := hrel
      by_cases hi : i < 12
      · have hiI : (i : Int) < 12 := by omega
        have hix := fun W => idx_regs W cl HC48.out i hi
        rw [← HCL.out, regAt_clamp, HCL.out] at hix
        have N11 := Blk.new wr #[.int .i64 (regAt rs i).clamp.c0, .int .i64 (regAt rs i).clamp.c1, .int .i64 (regAt rs i).clamp.c2, .int .i64 (regAt rs i).clamp.c3] 29
        have E11 := e10.alloc #[.int .i64 (regAt rs i).clamp.c0, .int .i64 (regAt rs i).clamp.c1, .int .i64 (regAt rs i).clamp.c2, .int .i64 (regAt rs i).clamp.c3] 29
        have HN := Lib.hid N11
        have HE11 := Lib.hid E11
        clear N11 E11
        go_upto_region 19 with fail
        generalize wr.alloc (.cells #[.int .i64 (regAt rs i).clamp.c0, .int .i64 (regAt rs i).clamp.c1, .int .i64 (regAt rs i).clamp.c2, .int .i64 (regAt rs i).clamp.c3] 29) = w11 at *
        refine none_r19 _ _ _ _ _ _ _ _ _ _ _ _ _ _ _ _ _ _ _ _ _ _ _ _ _ _ _ _ _ _ _ _ _ _ _ _ _ _ _ _ _ _ _ _ _ _ _ _ _ _ _ _ _ _ _ _ _ _ _ _ _ _ _ _ _ _ _ _ _ _ _ _ _ _ _ _ _ _ _ _ _ _ _ _ _ _ _ _ _ _ _ _ _ _ _ _ n wr.heap.size i rs HRL.out HBJ.out w11 (HG9.out.ext HE11.out) HN.out hi ?_
        rintro g0 g1 g2 g3 g4 w12 x12
        have HE12 := Lib.hid (HE11.out.trans x12)
        clear x12 hix
        go_wp2
        go_roundg (12 - (i + 1))
        case measure => omega
        case rel => exact ⟨i + 1, by omega, rfl, HE12.out⟩
      · obtain rfl : i = 12 := by omega
        have cg2 := e10.old cg
        have cs2 := e10.old cs
        go_wp2
        go_ret
        exact ⟨rfl, HE9.out.trans e10⟩
theorem vmNone_row {w : World} (u : Value) (p : List In) (v1 : Value) (ins : List Int) (r0 r1 r2 r3 x y d : Int) (h0 : PArr w u p ∧ p.length ≤ maxLen ∧ ∀ x ∈ p, x.ok) (h1 : Arr w .i32 v1 ins) (b0 : -9223372036854775808 ≤ r0 ∧ r0 ≤ 9223372036854775807) (b1 : -9223372036854775808 ≤ r1 ∧ r1 ≤ 9223372036854775807) (b2 : -9223372036854775808 ≤ r2 ∧ r2 ≤ 9223372036854775807) (b3 : -9223372036854775808 ≤ r3 ∧ r3 ≤ 9223372036854775807) (hx : -9223372036854775808 ≤ x ∧ x ≤ 9223372036854775807) (hy : -9223372036854775808 ≤ y ∧ y ≤ 9223372036854775807) (hd : -9223372036854775808 ≤ d ∧ d ≤ 9223372036854775807) :
    Calls Try.prog 5 #[u, v1, .agg #[.int .i64 r0, .int .i64 r1, .int .i64 r2, .int .i64 r3], .int .i64 x, .int .i64 y, .int .i64 d] w fun e w' => e = .returned (.bool true) ∧ Ext w w' := by
  by_cases l0 : p.length ≤ 60 ∧ ins.length ≤ 100
  · exact vmNone_main u p v1 ins ⟨r0, r1, r2, r3⟩ x y d h0.1 h0.2.2 h1 b0 b1 b2 b3 hx hy hd l0.1 l0.2
  · obtain ⟨a0, c0, rfl, -, -⟩ := h0.1.slice
    obtain ⟨⟨a1, c1, rfl, -, -, -⟩, -, -⟩ := h1
    have hb : (decide (60 < (p.length : Int)) || decide (100 < (ins.length : Int))) = true := by
      simp only [Bool.or_eq_true, decide_eq_true_eq]
      omega
    go_enter Try.func5, Try.ntmps5
    go_wp2_with fail
    refine (awake8_any _).mono ?_
    rintro e w1 ⟨rfl, x1⟩
    have e1 := Ext.trans ((Ext.refl w).alloc _ _) x1
    clear x1
    go_wp2
    all_goals (go_ret; exact ⟨rfl, e1⟩)
end Go.Proofs.Ytellfhnfifgpoaa

