/-
  DERIVED. VmRuns: numbers laid in order (made by mkvm.py). · VmRuns: regions that draw their order, walked apart (made by mkvm.py). · THE LAW VmRuns: any program that may be, any registers: what comes of it (made by mkvm.py).
-/
import Derived.Test.YtellfhnfifgpoaaPkRefB
import Derived.Test.YtellfhnfifgpoaaPkRun
import Derived.Test.YtellfhnfifgpoaaPkIsa
import Derived.Test.YtellfhnfifgpoaaPkPlain
import Derived.Test.YtellfhnfifgpoaaPkProg
namespace Go.Proofs.Ytellfhnfifgpoaa
open Go.RowKit
set_option linter.unusedVariables false
/-- the first m numbers laid, noughts behind -/
def cpy (rs : List Int) (m : Nat) : List Int := rs.take m ++ List.replicate (48 - m) 0
theorem cpy_zero (rs : List Int) : cpy rs 0 = List.replicate 48 0 := by simp [cpy]
theorem cpy_full {rs : List Int} (h : rs.length = 48) : cpy rs 48 = rs := by
  unfold cpy
  rw [List.take_of_length_le (by omega)]
  simp
theorem cpy_len {rs : List Int} (h : rs.length = 48) {m : Nat} (hm : m ≤ 48) : (cpy rs m).length = 48 := by
  simp [cpy, h]
  omega
theorem cpy_set {rs : List Int} (h : rs.length = 48) {m : Nat} (hm : m < 48) : (cpy rs m).set m (rs.getD m 0) = cpy rs (m + 1) := by
  have hl : (rs.take m).length = m := by simp [h]; omega
  unfold cpy
  rw [List.set_append_right _ _ (by omega), hl, Nat.sub_self, show 48 - m = (48 - (m + 1)) + 1 by omega, List.replicate_succ, List.set_cons_zero, List.take_add_one]
  have : rs[m]? = some (rs.getD m 0) := by simp [List.getD, show m < rs.length by omega]
  rw [this]
  simp
theorem cpy_put {rs : List Int} (h : rs.length = 48) {i : Nat} (hi : i < 12) : regPut (cpy rs (i * 4)) i (regAt rs i) = cpy rs ((i + 1) * 4) := by
  unfold regPut regAt
  simp only
  rw [cpy_set h (by omega), cpy_set h (by omega), cpy_set h (by omega), cpy_set h (by omega), show (i + 1) * 4 = i * 4 + 3 + 1 by omega]
theorem stL_one (s : St) : (stL s).toArray.all (·.oneCell') = true := all_oneCell_toArray (fun v hv => by
  rcases List.mem_append.1 hv with h | h
  · obtain ⟨y, _, rfl⟩ := List.mem_map.1 h; rfl
  · simp at h; rcases h with rfl | rfl | rfl <;> rfl)
end Go.Proofs.Ytellfhnfifgpoaa

namespace Go.Proofs.Ytellfhnfifgpoaa
open Go.RowKit
set_option linter.unusedVariables false
set_option maxRecDepth 100000 in
set_option maxHeartbeats 4000000 in
theorem runs_r20 (f0 f1 f2 f3 f4 f5 f6 f7 f8 f9 f10 f11 f13 f16 f17 f18 f19 f20 f21 f22 f23 f24 f25 f26 f27 f28 f29 f30 f31 f32 f33 f34 f35 f36 f37 f38 f39 f40 f41 f42 f43 f44 f45 f46 f47 f48 f49 f50 f51 f52 f53 f54 f55 f56 f57 f58 f59 f60 f61 f62 f63 f64 f65 f66 f67 f68 f69 f70 f71 f72 f73 f74 f75 f76 f77 f78 f79 f80 f81 f82 : Value) (sb rb i : Nat) (s : St) (w : World) (hR : RAt w rb s) (hS : StAt w sb s) (hi : i < 12) {Q : Exit → Act → World → Prop}
    (hQ : ∀ (c54 c55 c56 c57 c58 c59 c60 c61 : Value) (wx : World) , Ext w wx → Q .normal ⟨(f0 :: f1 :: f2 :: f3 :: f4 :: f5 :: f6 :: f7 :: f8 :: f9 :: f10 :: f11 :: Value.pointer (some ⟨sb, 0, none⟩) :: f13 :: Value.pointer (some ⟨rb, 0, none⟩) :: Value.int .i64 (i : Int) :: f16 :: f17 :: f18 :: f19 :: f20 :: f21 :: f22 :: f23 :: f24 :: f25 :: f26 :: f27 :: f28 :: f29 :: f30 :: f31 :: f32 :: f33 :: f34 :: f35 :: f36 :: f37 :: f38 :: f39 :: f40 :: f41 :: f42 :: f43 :: f44 :: f45 :: f46 :: f47 :: f48 :: f49 :: f50 :: f51 :: f52 :: f53 :: c54 :: c55 :: c56 :: c57 :: c58 :: c59 :: c60 :: c61 :: Value.bool false :: f63 :: f64 :: f65 :: f66 :: f67 :: f68 :: f69 :: f70 :: f71 :: f72 :: f73 :: f74 :: f75 :: f76 :: f77 :: f78 :: f79 :: f80 :: f81 :: f82 :: List.nil).toArray, []⟩ wx) : Code.wp Try.prog (regionOf Try.f3 20) Q ⟨(f0 :: f1 :: f2 :: f3 :: f4 :: f5 :: f6 :: f7 :: f8 :: f9 :: f10 :: f11 :: Value.pointer (some ⟨sb, 0, none⟩) :: f13 :: Value.pointer (some ⟨rb, 0, none⟩) :: Value.int .i64 (i : Int) :: f16 :: f17 :: f18 :: f19 :: f20 :: f21 :: f22 :: f23 :: f24 :: f25 :: f26 :: f27 :: f28 :: f29 :: f30 :: f31 :: f32 :: f33 :: f34 :: f35 :: f36 :: f37 :: f38 :: f39 :: f40 :: f41 :: f42 :: f43 :: f44 :: f45 :: f46 :: f47 :: f48 :: f49 :: f50 :: f51 :: f52 :: f53 :: f54 :: f55 :: f56 :: f57 :: f58 :: f59 :: f60 :: f61 :: f62 :: f63 :: f64 :: f65 :: f66 :: f67 :: f68 :: f69 :: f70 :: f71 :: f72 :: f73 :: f74 :: f75 :: f76 :: f77 :: f78 :: f79 :: f80 :: f81 :: f82 :: List.nil).toArray, []⟩ w := by
  have HQ := Lib.hid hQ
  clear hQ
  have hiI : (i : Int) < 12 := by omega
  have hE := eqV
  change Code.wp Try.prog (Code.region _ _ true) _ _ _
  apply wp_region_vars [false, false, false, false, false, false, false, false, false] [] [] _ (by kernel_rfl) (by kernel_rfl) (by kernel_rfl)
  case H =>
    intro x hx
    have hne : Nonempty (Wx x) := ⟨⟨x, Ext.refl x⟩⟩
    have qR0 := fun (y : Wx x) => ((hR.calm hx (by simp)).ext y.ext).cell (i * 4) (by omega)
    have qR1 := fun (y : Wx x) => ((hR.calm hx (by simp)).ext y.ext).cell (i * 4 + 1) (by omega)
    have qR2 := fun (y : Wx x) => ((hR.calm hx (by simp)).ext y.ext).cell (i * 4 + 2) (by omega)
    have qR3 := fun (y : Wx x) => ((hR.calm hx (by simp)).ext y.ext).cell (i * 4 + 3) (by omega)
    have qS0 := fun (y : Wx x) => ((hS.calm hx (by simp)).ext y.ext).cell (i * 4) (by omega)
    have qS1 := fun (y : Wx x) => ((hS.calm hx (by simp)).ext y.ext).cell (i * 4 + 1) (by omega)
    have qS2 := fun (y : Wx x) => ((hS.calm hx (by simp)).ext y.ext).cell (i * 4 + 2) (by omega)
    have qS3 := fun (y : Wx x) => ((hS.calm hx (by simp)).ext y.ext).cell (i * 4 + 3) (by omega)
    simp only [eraseM]
    repeat (go_big_quiet_step (fail))
    exact wpQuiet_nil rfl
  case hok => exact fun t ht => absurd ht (List.not_mem_nil)
  case hdis =>
    intro k k' t t' hk
    cases hk
  rintro w2 f hw -
  have hx2 := hw.ext
  exact HQ.out _ _ _ _ _ _ _ _ w2 hx2
set_option maxRecDepth 100000 in
set_option maxHeartbeats 4000000 in
theorem runs_r23 (f0 f1 f2 f3 f4 f5 f6 f8 f9 f10 f11 f13 f15 f16 f17 f18 f19 f20 f21 f22 f23 f24 f25 f26 f27 f28 f29 f30 f31 f32 f33 f34 f35 f36 f37 f38 f39 f40 f41 f42 f43 f44 f45 f46 f47 f48 f49 f50 f51 f52 f53 f54 f55 f56 f57 f58 f59 f60 f61 f62 f63 f64 f65 f66 f67 f68 f69 f70 f71 f72 f73 f74 f75 f76 f77 f78 f79 f80 f81 f82 : Value) (ao : Option Addr) (n cc sb rb : Nat) (xs : List In) (s : St) (w : World) (hP : PArr w (.slice ao n cc) xs) (hok : ∀ x ∈ xs, x.ok) (hl : xs.length ≤ 1000) (hR : RAt w rb s) (hS : StAt w sb s) (hle : s.steps ≤ fuelL xs) {Q : Exit → Act → World → Prop}
    (hQ : ∀ (c64 c65 c66 c67 c68 c69 c70 c71 c72 c73 c74 c75 c76 c77 c78 c79 c80 c81 c82 : Value) (wx : World) , Ext w wx → Q .normal ⟨(f0 :: f1 :: f2 :: f3 :: f4 :: f5 :: Value.bool true :: Value.slice ao n cc :: f8 :: f9 :: f10 :: f11 :: Value.pointer (some ⟨sb, 0, none⟩) :: f13 :: Value.pointer (some ⟨rb, 0, none⟩) :: f15 :: f16 :: f17 :: f18 :: f19 :: f20 :: f21 :: f22 :: f23 :: f24 :: f25 :: f26 :: f27 :: f28 :: f29 :: f30 :: f31 :: f32 :: f33 :: f34 :: f35 :: f36 :: f37 :: f38 :: f39 :: f40 :: f41 :: f42 :: f43 :: f44 :: f45 :: f46 :: f47 :: f48 :: f49 :: f50 :: f51 :: f52 :: f53 :: f54 :: f55 :: f56 :: f57 :: f58 :: f59 :: f60 :: f61 :: f62 :: f63 :: c64 :: c65 :: c66 :: c67 :: c68 :: c69 :: c70 :: c71 :: c72 :: c73 :: c74 :: c75 :: c76 :: c77 :: c78 :: c79 :: c80 :: c81 :: c82 :: List.nil).toArray, []⟩ wx) : Code.wp Try.prog (regionOf Try.f3 23) Q ⟨(f0 :: f1 :: f2 :: f3 :: f4 :: f5 :: f6 :: Value.slice ao n cc :: f8 :: f9 :: f10 :: f11 :: Value.pointer (some ⟨sb, 0, none⟩) :: f13 :: Value.pointer (some ⟨rb, 0, none⟩) :: f15 :: f16 :: f17 :: f18 :: f19 :: f20 :: f21 :: f22 :: f23 :: f24 :: f25 :: f26 :: f27 :: f28 :: f29 :: f30 :: f31 :: f32 :: f33 :: f34 :: f35 :: f36 :: f37 :: f38 :: f39 :: f40 :: f41 :: f42 :: f43 :: f44 :: f45 :: f46 :: f47 :: f48 :: f49 :: f50 :: f51 :: f52 :: f53 :: f54 :: f55 :: f56 :: f57 :: f58 :: f59 :: f60 :: f61 :: f62 :: f63 :: f64 :: f65 :: f66 :: f67 :: f68 :: f69 :: f70 :: f71 :: f72 :: f73 :: f74 :: f75 :: f76 :: f77 :: f78 :: f79 :: f80 :: f81 :: f82 :: List.nil).toArray, []⟩ w := by
  have HQ := Lib.hid hQ
  clear hQ
  change Code.wp Try.prog (Code.region _ _ true) _ _ _
  apply wp_region_vars [false, false, false, false, false, false, false, false, false, false, false, false, false, false, false, false, false, false, false, false] [] [] _ (by kernel_rfl) (by kernel_rfl) (by kernel_rfl)
  case H =>
    intro x hx
    have hne : Nonempty (Wx x) := ⟨⟨x, Ext.refl x⟩⟩
    have qRgone := fun (y : Wx x) => ((hR.calm hx (by simp)).ext y.ext).gone
    have qRsteps := fun (y : Wx x) => ((hR.calm hx (by simp)).ext y.ext).steps
    have qSgone := fun (y : Wx x) => ((hS.calm hx (by simp)).ext y.ext).gone
    have qSsteps := fun (y : Wx x) => ((hS.calm hx (by simp)).ext y.ext).steps
    have qP := fun (y : Wx x) => (hP.ext (hx.ext.trans y.ext))
    simp only [eraseM]
    repeat (go_big_quiet_step (first | (go_at_call 16; exact calm_of (fuelP_any _ _ xs (qP _) hok (by omega)))))
    exact wpQuiet_nil rfl
  case hok => exact fun t ht => absurd ht (List.not_mem_nil)
  case hdis =>
    intro k k' t t' hk
    cases hk
  rintro w2 f hw -
  have hx2 := hw.ext
  exact HQ.out _ _ _ _ _ _ _ _ _ _ _ _ _ _ _ _ _ _ _ w2 hx2
end Go.Proofs.Ytellfhnfifgpoaa

namespace Go.Proofs.Ytellfhnfifgpoaa
open Go.RowKit
set_option linter.unusedVariables false
set_option maxRecDepth 100000 in
set_option maxHeartbeats 4000000 in
theorem vmRuns_main {w : World} (u : Value) (sl : List Sm) (v1 : Value) (ins : List Int) (raw : V4) (h0 : SArr w u sl) (h1 : Arr w .i32 v1 ins) (b0 : -9223372036854775808 ≤ raw.c0 ∧ raw.c0 ≤ 9223372036854775807) (b1 : -9223372036854775808 ≤ raw.c1 ∧ raw.c1 ≤ 9223372036854775807) (b2 : -9223372036854775808 ≤ raw.c2 ∧ raw.c2 ≤ 9223372036854775807) (b3 : -9223372036854775808 ≤ raw.c3 ∧ raw.c3 ≤ 9223372036854775807) (l0 : sl.length ≤ 40) (l1 : ins.length ≤ 100) :
    Calls Try.prog 3 #[u, v1, .agg #[.int .i64 raw.c0, .int .i64 raw.c1, .int .i64 raw.c2, .int .i64 raw.c3]] w fun e w' => e = .returned (.bool true) ∧ Ext w w' := by
  have hS := Lib.hid h0
  have hA := Lib.hid h1
  obtain ⟨⟨a0, c0, rfl, -⟩, -, -⟩ := h0
  have HBD := Lib.hid (regsOf_bd (raw := raw) (arr_wide h1) b0 b1 b2 b3)
  obtain ⟨⟨a1, c1, rfl, -, -, -⟩, -, -⟩ := h1
  have i0 : (sl.length : Int) ≤ 40 := by omega
  have i1 : (ins.length : Int) ≤ 100 := by omega
  have X0 := Blk.new w #[.int .i64 raw.c0, .int .i64 raw.c1, .int .i64 raw.c2, .int .i64 raw.c3] 24
  have E0 := (Ext.refl w).alloc #[.int .i64 raw.c0, .int .i64 raw.c1, .int .i64 raw.c2, .int .i64 raw.c3] 24
  have HX0 := Lib.hid X0
  have HE0 := Lib.hid E0
  clear X0 E0 b0 b1 b2 b3
  go_enter Try.func3, Try.ntmps3
  go_wp2_with fail
  refine (awake8_any _).mono ?_
  rintro e w1 ⟨rfl, x1⟩
  have HE1 := Lib.hid (HE0.out.trans x1)
  have HX1 := Lib.hid (HX0.out.ext x1)
  clear x1 HE0 HX0
  go_wp2_with fail
  refine (program_any true _ _ sl (hS.out.ext HE1.out) l0).mono ?_
  rintro e w2 ⟨v2, xs, rfl, o2, hok, hxl, hck, x2⟩
  have hx20 : xs.length ≤ 20 := by omega
  obtain ⟨ao2, cc2, rfl, -, -⟩ := o2.slice
  have HO := Lib.hid o2
  have HOK := Lib.hid hok
  have HCK := Lib.hid hck
  have HE2 := Lib.hid (HE1.out.trans x2)
  have cX := (HX1.out.ext x2).cell
  clear hxl o2 hok hck x2 HX1 hS
  go_wp2_with fail
  refine (regs8_rl _ _ ins (hA.out.ext HE2.out) l1 raw).mono ?_
  rintro e w3 ⟨rfl, x3⟩
  obtain ⟨rs, hrs⟩ : ∃ rs, regsOf ins raw = rs := ⟨_, rfl⟩
  have hrl : rs.length = 48 := by rw [← hrs]; exact regsOf_len ins raw
  rw [hrs] at HBD ⊢
  have HRL := Lib.hid hrl
  have hsz := RL.size hrl
  have hone := RL.one rs
  have HE3 := Lib.hid (HE2.out.trans x3)
  have HO3 := Lib.hid (HO.out.ext x3)
  have Z3 := Blk.new w3 #[.int .i64 0, .int .i64 0, .int .i64 0, .int .i64 0, .int .i64 0, .int .i64 0, .int .i64 0, .int .i64 0, .int .i64 0, .int .i64 0, .int .i64 0, .int .i64 0, .int .i64 0, .int .i64 0, .int .i64 0, .int .i64 0, .int .i64 0, .int .i64 0, .int .i64 0, .int .i64 0, .int .i64 0, .int .i64 0, .int .i64 0, .int .i64 0, .int .i64 0, .int .i64 0, .int .i64 0, .int .i64 0, .int .i64 0, .int .i64 0, .int .i64 0, .int .i64 0, .int .i64 0, .int .i64 0, .int .i64 0, .int .i64 0, .int .i64 0, .int .i64 0, .int .i64 0, .int .i64 0, .int .i64 0, .int .i64 0, .int .i64 0, .int .i64 0, .int .i64 0, .int .i64 0, .int .i64 0, .int .i64 0] 31
  clear hrs hrl x3 HO hA cX HE2 HE1
  go_upto_region 8 with (first
    | ((with_reducible refine wpList_store_blk (op := ⟨none, .store 31 (.tmp 8) (.tmp 30), _, _, _, _⟩) ?_ 31 (.tmp 8) (.tmp 30) ?_ w3.heap.size ?_ (cs := RL rs) ?_ (T := 31) Z3 ?_ ?_ ?_ ?_); rfl; rfl; rfl; rfl; (rw [hsz]; kernel_rfl); exact hone; (rw [hsz]; rfl))
    | fail)
  have G4 := (Z3.setRow (RL rs)).alloc (.cells #[.int .i64 0, .int .i64 0, .int .i64 0, .int .i64 0, .int .i64 0, .int .i64 0, .int .i64 0, .int .i64 0, .int .i64 0, .int .i64 0, .int .i64 0, .int .i64 0, .int .i64 0, .int .i64 0, .int .i64 0, .int .i64 0, .int .i64 0, .int .i64 0, .int .i64 0, .int .i64 0, .int .i64 0, .int .i64 0, .int .i64 0, .int .i64 0, .int .i64 0, .int .i64 0, .int .i64 0, .int .i64 0, .int .i64 0, .int .i64 0, .int .i64 0, .int .i64 0, .int .i64 0, .int .i64 0, .int .i64 0, .int .i64 0, .int .i64 0, .int .i64 0, .int .i64 0, .int .i64 0, .int .i64 0, .int .i64 0, .int .i64 0, .int .i64 0, .int .i64 0, .int .i64 0, .int .i64 0, .int .i64 0] 33)
  have D4 := Blk.new' (w := (w3.alloc (.cells #[.int .i64 0, .int .i64 0, .int .i64 0, .int .i64 0, .int .i64 0, .int .i64 0, .int .i64 0, .int .i64 0, .int .i64 0, .int .i64 0, .int .i64 0, .int .i64 0, .int .i64 0, .int .i64 0, .int .i64 0, .int .i64 0, .int .i64 0, .int .i64 0, .int .i64 0, .int .i64 0, .int .i64 0, .int .i64 0, .int .i64 0, .int .i64 0, .int .i64 0, .int .i64 0, .int .i64 0, .int .i64 0, .int .i64 0, .int .i64 0, .int .i64 0, .int .i64 0, .int .i64 0, .int .i64 0, .int .i64 0, .int .i64 0, .int .i64 0, .int .i64 0, .int .i64 0, .int .i64 0, .int .i64 0, .int .i64 0, .int .i64 0, .int .i64 0, .int .i64 0, .int .i64 0, .int .i64 0, .int .i64 0] 31)).setRow w3.heap.size (RL rs)) (b := w3.heap.size + 1) (by simp) #[.int .i64 0, .int .i64 0, .int .i64 0, .int .i64 0, .int .i64 0, .int .i64 0, .int .i64 0, .int .i64 0, .int .i64 0, .int .i64 0, .int .i64 0, .int .i64 0, .int .i64 0, .int .i64 0, .int .i64 0, .int .i64 0, .int .i64 0, .int .i64 0, .int .i64 0, .int .i64 0, .int .i64 0, .int .i64 0, .int .i64 0, .int .i64 0, .int .i64 0, .int .i64 0, .int .i64 0, .int .i64 0, .int .i64 0, .int .i64 0, .int .i64 0, .int .i64 0, .int .i64 0, .int .i64 0, .int .i64 0, .int .i64 0, .int .i64 0, .int .i64 0, .int .i64 0, .int .i64 0, .int .i64 0, .int .i64 0, .int .i64 0, .int .i64 0, .int .i64 0, .int .i64 0, .int .i64 0, .int .i64 0] 33
  have E4 := (Ext.setRow ((Ext.refl w3).alloc #[.int .i64 0, .int .i64 0, .int .i64 0, .int .i64 0, .int .i64 0, .int .i64 0, .int .i64 0, .int .i64 0, .int .i64 0, .int .i64 0, .int .i64 0, .int .i64 0, .int .i64 0, .int .i64 0, .int .i64 0, .int .i64 0, .int .i64 0, .int .i64 0, .int .i64 0, .int .i64 0, .int .i64 0, .int .i64 0, .int .i64 0, .int .i64 0, .int .i64 0, .int .i64 0, .int .i64 0, .int .i64 0, .int .i64 0, .int .i64 0, .int .i64 0, .int .i64 0, .int .i64 0, .int .i64 0, .int .i64 0, .int .i64 0, .int .i64 0, .int .i64 0, .int .i64 0, .int .i64 0, .int .i64 0, .int .i64 0, .int .i64 0, .int .i64 0, .int .i64 0, .int .i64 0, .int .i64 0, .int .i64 0] 31) (Nat.le_refl _) (RL rs)).alloc #[.int .i64 0, .int .i64 0, .int .i64 0, .int .i64 0, .int .i64 0, .int .i64 0, .int .i64 0, .int .i64 0, .int .i64 0, .int .i64 0, .int .i64 0, .int .i64 0, .int .i64 0, .int .i64 0, .int .i64 0, .int .i64 0, .int .i64 0, .int .i64 0, .int .i64 0, .int .i64 0, .int .i64 0, .int .i64 0, .int .i64 0, .int .i64 0, .int .i64 0, .int .i64 0, .int .i64 0, .int .i64 0, .int .i64 0, .int .i64 0, .int .i64 0, .int .i64 0, .int .i64 0, .int .i64 0, .int .i64 0, .int .i64 0, .int .i64 0, .int .i64 0, .int .i64 0, .int .i64 0, .int .i64 0, .int .i64 0, .int .i64 0, .int .i64 0, .int .i64 0, .int .i64 0, .int .i64 0, .int .i64 0] 33
  clear Z3
  generalize ((w3.alloc (.cells #[.int .i64 0, .int .i64 0, .int .i64 0, .int .i64 0, .int .i64 0, .int .i64 0, .int .i64 0, .int .i64 0, .int .i64 0, .int .i64 0, .int .i64 0, .int .i64 0, .int .i64 0, .int .i64 0, .int .i64 0, .int .i64 0, .int .i64 0, .int .i64 0, .int .i64 0, .int .i64 0, .int .i64 0, .int .i64 0, .int .i64 0, .int .i64 0, .int .i64 0, .int .i64 0, .int .i64 0, .int .i64 0, .int .i64 0, .int .i64 0, .int .i64 0, .int .i64 0, .int .i64 0, .int .i64 0, .int .i64 0, .int .i64 0, .int .i64 0, .int .i64 0, .int .i64 0, .int .i64 0, .int .i64 0, .int .i64 0, .int .i64 0, .int .i64 0, .int .i64 0, .int .i64 0, .int .i64 0, .int .i64 0] 31)).setRow w3.heap.size (RL rs)).alloc (.cells #[.int .i64 0, .int .i64 0, .int .i64 0, .int .i64 0, .int .i64 0, .int .i64 0, .int .i64 0, .int .i64 0, .int .i64 0, .int .i64 0, .int .i64 0, .int .i64 0, .int .i64 0, .int .i64 0, .int .i64 0, .int .i64 0, .int .i64 0, .int .i64 0, .int .i64 0, .int .i64 0, .int .i64 0, .int .i64 0, .int .i64 0, .int .i64 0, .int .i64 0, .int .i64 0, .int .i64 0, .int .i64 0, .int .i64 0, .int .i64 0, .int .i64 0, .int .i64 0, .int .i64 0, .int .i64 0, .int .i64 0, .int .i64 0, .int .i64 0, .int .i64 0, .int .i64 0, .int .i64 0, .int .i64 0, .int .i64 0, .int .i64 0, .int .i64 0, .int .i64 0, .int .i64 0, .int .i64 0, .int .i64 0] 33) = w4 at *
  have D5 : Blk w4 (w3.heap.size + 1) (RL (cpy rs (0 * 4))) 33 := by rw [Nat.zero_mul, cpy_zero]; exact D4
  have HG4 := Lib.hid G4
  have HD5 := Lib.hid D5
  have HE4 := Lib.hid (HE3.out.trans E4)
  have HO4 := Lib.hid (HO3.out.ext E4)
  have HLT := Lib.hid (fun k hk => (HO3.out.lt k hk).2)
  have hz4 := D4.lt
  clear D4 D5 E4
  go_wp2_with (first
    | ((with_reducible refine wpList_load_blk (op := ⟨some 31, _, _, _, _, _⟩) ?_ 31 (.tmp 8) ?_ w3.heap.size ?_ (z := RL rs) (T := 31) G4 Try.underlying31 ?_ ?_ ?_); rfl; rfl; rfl; rfl; (rw [hsz]; kernel_rfl))
    | fail)
  generalize hn3 : w3.heap.size = n at *
  have hzz := HE3.out.size
  rw [hn3] at hzz
  clear hn3 G4
  go_loopg [32] 12 (fun m iv wr => ∃ i : Nat, i + m = 12 ∧ iv = .int .i64 (i : Int) ∧ Blk wr (n + 1) (RL (cpy rs (i * 4))) 33 ∧ Calm [n + 1] w4 wr)
  case atStart => exact ⟨0, by omega, rfl, HD5.out, Calm.refl _ _⟩
  case round =>
    obtain ⟨i, him, rfl, D6, K6⟩ := hrel
    have HD6 := Lib.hid D6
    have HK6 := Lib.hid K6
    have hlt6 := D6.lt
    clear D6 K6
    by_cases hi : i < 12
    · have hiI : (i : Int) < 12 := by omega
      have hix := fun W => idx_regs W rs HRL.out i hi
      have A7 := (HD6.out).alloc (.cells #[.int .i64 (regAt rs i).c0, .int .i64 (regAt rs i).c1, .int .i64 (regAt rs i).c2, .int .i64 (regAt rs i).c3] 29)
      have N7 := Blk.new wr #[.int .i64 (regAt rs i).c0, .int .i64 (regAt rs i).c1, .int .i64 (regAt rs i).c2, .int .i64 (regAt rs i).c3] 29
      have K7 := HK6.out.trans (((Ext.refl wr).alloc #[.int .i64 (regAt rs i).c0, .int .i64 (regAt rs i).c1, .int .i64 (regAt rs i).c2, .int .i64 (regAt rs i).c3] 29).calm [n + 1])
      have HA7 := Lib.hid A7
      have HN7 := Lib.hid N7
      have HK7 := Lib.hid K7
      clear A7 N7 K7
      go_upto_region 11 with fail
      generalize wr.alloc (.cells #[.int .i64 (regAt rs i).c0, .int .i64 (regAt rs i).c1, .int .i64 (regAt rs i).c2, .int .i64 (regAt rs i).c3] 29) = w7 at *
      have t0 := RL.cell (cpy_len HRL.out (by omega)) HA7.out (i * 4) (by omega)
      have t1 := RL.cell (cpy_len HRL.out (by omega)) HA7.out (i * 4 + 1) (by omega)
      have t2 := RL.cell (cpy_len HRL.out (by omega)) HA7.out (i * 4 + 2) (by omega)
      have t3 := RL.cell (cpy_len HRL.out (by omega)) HA7.out (i * 4 + 3) (by omega)
      have f7 := HA7.out.frozen
      have cN := HN7.out.cell
      have A8 := RL.put HA7.out i (regAt rs i)
      rw [cpy_put HRL.out hi] at A8
      have HA8 := Lib.hid A8
      have HK8 := Lib.hid ((((HK7.out.trans (calm_setP _ (n + 1) (i * 4) (.int .i64 (regAt rs i).c0))).trans (calm_setP _ (n + 1) (i * 4 + 1) (.int .i64 (regAt rs i).c1))).trans (calm_setP _ (n + 1) (i * 4 + 2) (.int .i64 (regAt rs i).c2))).trans (calm_setP _ (n + 1) (i * 4 + 3) (.int .i64 (regAt rs i).c3)))
      clear A8 hsz hone hix
      go_wp2
      go_roundg (12 - (i + 1))
      case measure => omega
      case rel => exact ⟨i + 1, by omega, rfl, HA8.out, HK8.out⟩
    · obtain rfl : i = 12 := by omega
      have D6 : Blk wr (n + 1) (RL rs) 33 := by
        have := HD6.out
        rw [show 12 * 4 = 48 from rfl, cpy_full HRL.out] at this
        exact this
      have HG6 := Lib.hid (HG4.out.calm HK6.out (by simp))
      have HO6 := Lib.hid (HO4.out.calm HK6.out (fun k hk => by have := HLT.out k hk; simp; omega))
      have HE6 := Lib.hid (Ext.calm_trans HE4.out HK6.out (fun g hg => by simp at hg; omega))
      have hz6 := HK6.out.size
      clear HD6 HK6 HG4 HO4 HE4 HO3 HD5
      go_wp2_with (first
        | ((with_reducible refine wpList_load_blk (op := ⟨some 40, _, _, _, _, _⟩) ?_ 33 (.tmp 9) ?_ (n + 1) ?_ (z := RL rs) (T := 33) D6 Try.underlying33 ?_ ?_ ?_); rfl; rfl; rfl; rfl; (rw [hsz]; kernel_rfl))
        | fail)
      show Calls Try.prog _ #[regsV rs] _ _
      refine (rstart_any rs HRL.out HBD.out _).mono ?_
      rintro e w7 ⟨rfl, x7⟩
      obtain ⟨s0, hs0⟩ : ∃ s0 : St, s0 = ⟨rs.map clampZ, false, false, 0⟩ := ⟨_, rfl⟩
      rw [← hs0]
      have HS0 := Lib.hid (show s0 = st0 rs from hs0)
      have hrb0 : RB s0.rs := by rw [hs0]; exact st0_rb HRL.out
      have hst : (stL s0).toArray.size = 51 := by simp [stL, hrb0.1]
      have hso := stL_one s0
      have HRB0 := Lib.hid hrb0
      have Z7 := Blk.new w7 #[.int .i64 0, .int .i64 0, .int .i64 0, .int .i64 0, .int .i64 0, .int .i64 0, .int .i64 0, .int .i64 0, .int .i64 0, .int .i64 0, .int .i64 0, .int .i64 0, .int .i64 0, .int .i64 0, .int .i64 0, .int .i64 0, .int .i64 0, .int .i64 0, .int .i64 0, .int .i64 0, .int .i64 0, .int .i64 0, .int .i64 0, .int .i64 0, .int .i64 0, .int .i64 0, .int .i64 0, .int .i64 0, .int .i64 0, .int .i64 0, .int .i64 0, .int .i64 0, .int .i64 0, .int .i64 0, .int .i64 0, .int .i64 0, .int .i64 0, .int .i64 0, .int .i64 0, .int .i64 0, .int .i64 0, .int .i64 0, .int .i64 0, .int .i64 0, .int .i64 0, .int .i64 0, .int .i64 0, .int .i64 0, .bool false, .bool false, .int .i64 0] 35
      have hz77 := x7.size
      have HE7 := Lib.hid (HE6.out.trans x7)
      have HG7 := Lib.hid (HG6.out.ext x7)
      have HO7 := Lib.hid (HO6.out.ext x7)
      clear hs0 x7 hrb0 HE6 HG6 HO6 D6
      go_wp2_with (first
        | ((with_reducible refine wpList_store_blk (op := ⟨none, .store 35 (.tmp 12) (.tmp 41), _, _, _, _⟩) ?_ 35 (.tmp 12) (.tmp 41) ?_ w7.heap.size ?_ (cs := (stL s0).toArray) ?_ (T := 35) Z7 ?_ ?_ ?_ ?_); rfl; rfl; rfl; rfl; (rw [hst]; kernel_rfl); exact hso; (rw [hst]; rfl))
        | fail)
      have S8 : StAt _ w7.heap.size s0 := ⟨Z7.setRow _, HRB0.out.1⟩
      have E8 := Ext.setRow ((Ext.refl w7).alloc #[.int .i64 0, .int .i64 0, .int .i64 0, .int .i64 0, .int .i64 0, .int .i64 0, .int .i64 0, .int .i64 0, .int .i64 0, .int .i64 0, .int .i64 0, .int .i64 0, .int .i64 0, .int .i64 0, .int .i64 0, .int .i64 0, .int .i64 0, .int .i64 0, .int .i64 0, .int .i64 0, .int .i64 0, .int .i64 0, .int .i64 0, .int .i64 0, .int .i64 0, .int .i64 0, .int .i64 0, .int .i64 0, .int .i64 0, .int .i64 0, .int .i64 0, .int .i64 0, .int .i64 0, .int .i64 0, .int .i64 0, .int .i64 0, .int .i64 0, .int .i64 0, .int .i64 0, .int .i64 0, .int .i64 0, .int .i64 0, .int .i64 0, .int .i64 0, .int .i64 0, .int .i64 0, .int .i64 0, .int .i64 0, .bool false, .bool false, .int .i64 0] 35) (Nat.le_refl _) (stL s0).toArray
      generalize (w7.alloc (.cells #[.int .i64 0, .int .i64 0, .int .i64 0, .int .i64 0, .int .i64 0, .int .i64 0, .int .i64 0, .int .i64 0, .int .i64 0, .int .i64 0, .int .i64 0, .int .i64 0, .int .i64 0, .int .i64 0, .int .i64 0, .int .i64 0, .int .i64 0, .int .i64 0, .int .i64 0, .int .i64 0, .int .i64 0, .int .i64 0, .int .i64 0, .int .i64 0, .int .i64 0, .int .i64 0, .int .i64 0, .int .i64 0, .int .i64 0, .int .i64 0, .int .i64 0, .int .i64 0, .int .i64 0, .int .i64 0, .int .i64 0, .int .i64 0, .int .i64 0, .int .i64 0, .int .i64 0, .int .i64 0, .int .i64 0, .int .i64 0, .int .i64 0, .int .i64 0, .int .i64 0, .int .i64 0, .int .i64 0, .int .i64 0, .bool false, .bool false, .int .i64 0] 35)).setRow w7.heap.size (stL s0).toArray = w8 at *
      have HS8 := Lib.hid S8
      have HE8 := Lib.hid (HE7.out.trans E8)
      have HG8 := Lib.hid (HG7.out.ext E8)
      have HO8 := Lib.hid (HO7.out.ext E8)
      clear S8 E8 Z7 hst hso HE7 HG7 HO7
      refine (ref_any w8 _ _ xs HO8.out HOK.out (by omega)).mono ?_
      rintro e w9 ⟨v9, rfl, o9, x9⟩
      obtain ⟨ao9, cc9, rfl, -, -⟩ := o9.slice
      have HR9 := Lib.hid o9
      have HS9 := Lib.hid (HS8.out.ext x9)
      have HE9 := Lib.hid (HE8.out.trans x9)
      have HG9 := Lib.hid (HG8.out.ext x9)
      have HO9 := Lib.hid (HO8.out.ext x9)
      have hz8 := HS8.out.lt
      clear o9 x9 HS8 HE8 HG8 HO8
      go_wp2_with fail
      refine (rrun_valid _ w8.heap.size w7.heap.size xs HOK.out HCK.out (fun k hk => by have := (HR9.out.lt k hk).1; omega) s0 w9 HR9.out HS9.out HRB0.out (by rw [HS0.out]; exact Int.le_refl _) (by rw [HS0.out]; show (0 : Int) ≤ 1000000; omega)).mono ?_
      rintro e w10 ⟨rfl, S10, K10⟩
      have hz7 := HE9.out.size
      have HS10 := Lib.hid S10
      have HE10 := Lib.hid (Ext.calm_trans HE9.out K10 (fun g hg => by simp at hg; omega))
      have G10 := HG9.out.calm K10 (by simp; omega)
      have HO10 := Lib.hid (HO9.out.calm K10 (fun k hk => by have := HLT.out k hk; simp; omega))
      have hz10 := K10.size
      obtain ⟨s1, hs1⟩ : ∃ s1, run xs 0 xs.length s0 = s1 := ⟨_, rfl⟩
      rw [hs1] at HS10
      have hv1 : runV xs rs = s1 := by unfold runV; rw [if_pos HCK.out, ← HS0.out]; exact hs1
      have hfu : s1.steps ≤ fuelL xs := by
        have := run_fuel_bound HOK.out (chk_zero HCK.out).2.1 (xs.length - 0) s0
        rw [← hs1]
        unfold run
        have h0 : s0.steps = 0 := by rw [HS0.out]; rfl
        omega
      have HFU := Lib.hid hfu
      have HV1 := Lib.hid hv1
      have HG10 := Lib.hid G10
      clear S10 K10 hs1 hv1 hfu HR9 HS9 HE9 HG9 HO9 HRB0 HS0
      go_wp2_with (first
        | ((with_reducible refine wpList_load_blk (op := ⟨some 49, _, _, _, _, _⟩) ?_ 31 (.tmp 8) ?_ n ?_ (z := RL rs) (T := 31) G10 Try.underlying31 ?_ ?_ ?_); rfl; rfl; rfl; rfl; (rw [hsz]; kernel_rfl))
        | fail)
      refine (vrun_any w10 _ xs HO10.out.parr HOK.out (by omega) rs HRL.out HBD.out).mono ?_
      rintro e w11 ⟨rfl, x11⟩
      rw [HV1.out]
      have S11 := HS10.out.ext x11
      have hry : (resL s1).toArray.size = 50 := by simp [resL, S11.2]
      have hro := resL_one s1
      have Z11 := Blk.new w11 #[.int .i64 0, .int .i64 0, .int .i64 0, .int .i64 0, .int .i64 0, .int .i64 0, .int .i64 0, .int .i64 0, .int .i64 0, .int .i64 0, .int .i64 0, .int .i64 0, .int .i64 0, .int .i64 0, .int .i64 0, .int .i64 0, .int .i64 0, .int .i64 0, .int .i64 0, .int .i64 0, .int .i64 0, .int .i64 0, .int .i64 0, .int .i64 0, .int .i64 0, .int .i64 0, .int .i64 0, .int .i64 0, .int .i64 0, .int .i64 0, .int .i64 0, .int .i64 0, .int .i64 0, .int .i64 0, .int .i64 0, .int .i64 0, .int .i64 0, .int .i64 0, .int .i64 0, .int .i64 0, .int .i64 0, .int .i64 0, .int .i64 0, .int .i64 0, .int .i64 0, .int .i64 0, .int .i64 0, .int .i64 0, .bool false, .int .i64 0] 42
      have HE11 := Lib.hid (HE10.out.trans x11)
      have HO11 := Lib.hid (HO10.out.ext x11)
      have HS11 := Lib.hid S11
      clear x11 HS10 HE10 HO10 S11 HG10 G10 hsz hone
      go_wp2_with (first
        | ((with_reducible refine wpList_store_blk (op := ⟨none, .store 42 (.tmp 14) (.tmp 50), _, _, _, _⟩) ?_ 42 (.tmp 14) (.tmp 50) ?_ w11.heap.size ?_ (cs := (resL s1).toArray) ?_ (T := 42) Z11 ?_ ?_ ?_ ?_); rfl; rfl; rfl; rfl; (rw [hry]; kernel_rfl); exact hro; (rw [hry]; rfl))
        | fail)
      have R12 : RAt _ w11.heap.size s1 := ⟨Z11.setRow _, HS11.out.2⟩
      have E12 := Ext.setRow ((Ext.refl w11).alloc #[.int .i64 0, .int .i64 0, .int .i64 0, .int .i64 0, .int .i64 0, .int .i64 0, .int .i64 0, .int .i64 0, .int .i64 0, .int .i64 0, .int .i64 0, .int .i64 0, .int .i64 0, .int .i64 0, .int .i64 0, .int .i64 0, .int .i64 0, .int .i64 0, .int .i64 0, .int .i64 0, .int .i64 0, .int .i64 0, .int .i64 0, .int .i64 0, .int .i64 0, .int .i64 0, .int .i64 0, .int .i64 0, .int .i64 0, .int .i64 0, .int .i64 0, .int .i64 0, .int .i64 0, .int .i64 0, .int .i64 0, .int .i64 0, .int .i64 0, .int .i64 0, .int .i64 0, .int .i64 0, .int .i64 0, .int .i64 0, .int .i64 0, .int .i64 0, .int .i64 0, .int .i64 0, .int .i64 0, .int .i64 0, .bool false, .int .i64 0] 42) (Nat.le_refl _) (resL s1).toArray
      generalize (w11.alloc (.cells #[.int .i64 0, .int .i64 0, .int .i64 0, .int .i64 0, .int .i64 0, .int .i64 0, .int .i64 0, .int .i64 0, .int .i64 0, .int .i64 0, .int .i64 0, .int .i64 0, .int .i64 0, .int .i64 0, .int .i64 0, .int .i64 0, .int .i64 0, .int .i64 0, .int .i64 0, .int .i64 0, .int .i64 0, .int .i64 0, .int .i64 0, .int .i64 0, .int .i64 0, .int .i64 0, .int .i64 0, .int .i64 0, .int .i64 0, .int .i64 0, .int .i64 0, .int .i64 0, .int .i64 0, .int .i64 0, .int .i64 0, .int .i64 0, .int .i64 0, .int .i64 0, .int .i64 0, .int .i64 0, .int .i64 0, .int .i64 0, .int .i64 0, .int .i64 0, .int .i64 0, .int .i64 0, .int .i64 0, .int .i64 0, .bool false, .int .i64 0] 42)).setRow w11.heap.size (resL s1).toArray = w12 at *
      have HR12 := Lib.hid R12
      have HS12 := Lib.hid (HS11.out.ext E12)
      have HE12 := Lib.hid (HE11.out.trans E12)
      have HO12 := Lib.hid (HO11.out.ext E12)
      clear R12 E12 Z11 hry hro HS11 HE11 HO11
      go_loopg [51] 12 (fun m iv wr => ∃ i : Nat, i + m = 12 ∧ iv = .int .i64 (i : Int) ∧ Ext w12 wr)
      case atStart => exact ⟨0, by omega, rfl, Ext.refl _⟩
      case round =>
        obtain ⟨i, him2, rfl, e13⟩ := hrel
        by_cases hi2 : i < 12
        · have hiI : (i : Int) < 12 := by omega
          go_wp2_with fail
          refine runs_r20 _ _ _ _ _ _ _ _ _ _ _ _ _ _ _ _ _ _ _ _ _ _ _ _ _ _ _ _ _ _ _ _ _ _ _ _ _ _ _ _ _ _ _ _ _ _ _ _ _ _ _ _ _ _ _ _ _ _ _ _ _ _ _ _ _ _ _ _ _ _ _ _ _ _ _ _ _ _ _ _ w7.heap.size w11.heap.size i s1 wr (HR12.out.ext e13) (HS12.out.ext e13) hi2 ?_
          rintro g0 g1 g2 g3 g4 g5 g6 g7 w14 x14
          have HE14 := Lib.hid (e13.trans x14)
          clear x14
          go_wp2
          go_roundg (12 - (i + 1))
          case measure => omega
          case rel => exact ⟨i + 1, by omega, rfl, HE14.out⟩
        · obtain rfl : i = 12 := by omega
          go_wp2_with fail
          refine runs_r23 _ _ _ _ _ _ _ _ _ _ _ _ _ _ _ _ _ _ _ _ _ _ _ _ _ _ _ _ _ _ _ _ _ _ _ _ _ _ _ _ _ _ _ _ _ _ _ _ _ _ _ _ _ _ _ _ _ _ _ _ _ _ _ _ _ _ _ _ _ _ _ _ _ _ _ _ _ _ _ _ _ _ _ w7.heap.size w11.heap.size xs s1 wr (HO12.out.ext e13).parr HOK.out (by omega) (HR12.out.ext e13) (HS12.out.ext e13) HFU.out ?_
          rintro g0 g1 g2 g3 g4 g5 g6 g7 g8 g9 g10 g11 g12 g13 g14 g15 g16 g17 g18 w14 x14
          have HE14 := Lib.hid ((HE12.out.trans e13).trans x14)
          clear x14 e13
          go_wp2
          go_ret
          exact ⟨rfl, HE14.out⟩
theorem vmRuns_row {w : World} (u : Value) (sl : List Sm) (v1 : Value) (ins : List Int) (r0 r1 r2 r3 : Int) (h0 : SArr w u sl) (h1 : Arr w .i32 v1 ins) (b0 : -9223372036854775808 ≤ r0 ∧ r0 ≤ 9223372036854775807) (b1 : -9223372036854775808 ≤ r1 ∧ r1 ≤ 9223372036854775807) (b2 : -9223372036854775808 ≤ r2 ∧ r2 ≤ 9223372036854775807) (b3 : -9223372036854775808 ≤ r3 ∧ r3 ≤ 9223372036854775807) :
    Calls Try.prog 3 #[u, v1, .agg #[.int .i64 r0, .int .i64 r1, .int .i64 r2, .int .i64 r3]] w fun e w' => e = .returned (.bool true) ∧ Ext w w' := by
  by_cases l0 : sl.length ≤ 40 ∧ ins.length ≤ 100
  · exact vmRuns_main u sl v1 ins ⟨r0, r1, r2, r3⟩ h0 h1 b0 b1 b2 b3 l0.1 l0.2
  · obtain ⟨⟨a0, c0, rfl, -⟩, -, -⟩ := h0
    obtain ⟨⟨a1, c1, rfl, -, -, -⟩, -, -⟩ := h1
    have hb : (decide (40 < (sl.length : Int)) || decide (100 < (ins.length : Int))) = true := by
      simp only [Bool.or_eq_true, decide_eq_true_eq]
      omega
    go_enter Try.func3, Try.ntmps3
    go_wp2_with fail
    refine (awake8_any _).mono ?_
    rintro e w1 ⟨rfl, x1⟩
    have e1 := Ext.trans ((Ext.refl w).alloc _ _) x1
    clear x1
    go_wp2
    all_goals (go_ret; exact ⟨rfl, e1⟩)
end Go.Proofs.Ytellfhnfifgpoaa

