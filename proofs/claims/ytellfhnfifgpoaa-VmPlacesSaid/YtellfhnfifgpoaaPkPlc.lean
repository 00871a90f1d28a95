/-
  DERIVED. VmPlaces: numbers laid one by one (made by mkvm.py). · VmPlaces: regions that draw their order, walked apart (made by mkvm.py). · A region that draws its order and calls what makes memory, whose result another call takes: steps by an invariant. · VmPlaces: what a shaper makes by the document, walked apart (an invariant over whatever order) (made by mkvm.py).
-/
import Derived.Test.YtellfhnfifgpoaaPkRun
import Derived.Test.YtellfhnfifgpoaaPkRefB
import Derived.Test.YtellfhnfifgpoaaPkRefC
import Derived.Test.YtellfhnfifgpoaaPkIsa
import Derived.Test.YtellfhnfifgpoaaPkFix
namespace Go.Proofs.Ytellfhnfifgpoaa
open Go.RowKit
set_option linter.unusedVariables false
/-- a row of numbers of a kind -/
def RK (k : IntKind) (l : List Int) : Array Value := (l.map (Value.int k)).toArray
theorem RK.cell {w : World} {b : Nat} {k : IntKind} {l : List Int} {T : TypeId} (h : Blk w b (RK k l) T) (j : Nat) (hj : j < l.length) : w.cell? ⟨b, j, none⟩ = some (.int k (l.getD j 0)) := by
  rw [h.cell j]
  simp [RK, List.getD, hj]
/-- the first m of n numbers laid, noughts behind -/
def cpyN (l : List Int) (n m : Nat) : List Int := l.take m ++ List.replicate (n - m) 0
theorem cpyN_zero (l : List Int) (n : Nat) : cpyN l n 0 = List.replicate n 0 := by simp [cpyN]
theorem cpyN_full {l : List Int} {n : Nat} (h : l.length = n) : cpyN l n n = l := by
  unfold cpyN
  rw [List.take_of_length_le (by omega)]
  simp
theorem cpyN_len {l : List Int} {n m : Nat} (h : l.length = n) (hm : m ≤ n) : (cpyN l n m).length = n := by
  simp [cpyN, h]
  omega
theorem cpyN_splice {l : List Int} {n m : Nat} (h : l.length = n) (hm : m < n) : ((RK .i64 (cpyN l n m)).toList.take m ++ (Value.int .i64 (l.getD m 0)).cells.toList ++ (RK .i64 (cpyN l n m)).toList.drop (m + (Value.int .i64 (l.getD m 0)).cells.size)).toArray = RK .i64 (cpyN l n (m + 1)) := by
  have hl : (l.take m).length = m := by simp [h]; omega
  have hg : l[m]? = some (l.getD m 0) := by simp [List.getD, show m < l.length by omega]
  unfold RK cpyN
  apply congrArg List.toArray
  simp only [Value.cells, List.size_toArray, List.length_cons, List.length_nil]
  rw [← List.map_take, ← List.map_drop, List.take_append_of_le_length (by omega), List.take_of_length_le (by omega), List.drop_append, List.drop_eq_nil_of_le (by omega), hl, List.drop_replicate, List.take_add_one, hg]
  simp
  omega
end Go.Proofs.Ytellfhnfifgpoaa

namespace Go.Proofs.Ytellfhnfifgpoaa
open Go.RowKit
set_option linter.unusedVariables false
set_option maxRecDepth 100000 in
set_option maxHeartbeats 4000000 in
theorem pl_r11 (f0 f1 f2 f3 f4 f5 f6 f7 f8 f11 f12 f13 f14 f15 f16 f20 f21 f22 f23 f24 f25 f26 f27 f28 f29 f30 f31 f32 f33 f34 f35 f36 f37 f38 f39 f40 f41 f42 f43 f44 f45 f46 f47 f48 f49 f50 f51 f52 f53 f54 f55 f56 f57 f58 f59 f60 f61 f62 f63 f64 f65 f66 f67 f68 f69 f70 f71 f72 f73 f74 f75 f76 f77 f78 f79 f80 f81 f82 f83 f84 f85 f86 f87 f88 f89 f90 f91 f92 f93 f94 f95 f96 f97 f98 f99 f100 f101 f102 f103 f104 f105 f106 f107 f108 f109 f110 f111 f112 f113 f114 f115 f116 f117 f118 f119 f120 f121 f122 f123 f124 f125 f126 f127 f128 f129 f130 f131 f132 f133 f134 f135 f136 f137 f138 f139 f140 f141 f142 f143 f144 f145 f146 f147 f148 f149 f150 f151 f152 f153 f154 f155 f156 f157 : Value) (b9 b10 b17 b18 i : Nat) (P C : List Int) (lP : P.length = 4) (lC : C.length = 4) (w : World) (hP : Blk w b9 (RK .i32 P) 46) (hC : Blk w b10 (RK .i32 C) 46) (hA : Blk w b17 (RK .i64 (cpyN P 4 i)) 29) (hB : Blk w b18 (RK .i64 (cpyN C 4 i)) 29) (n1 : b9 < b17) (n2 : b10 < b17) (n3 : b17 < b18) (hi : i < 4) (px cx : Int) (Hp : Hid (P.getD i 0 = px)) (Hc : Hid (C.getD i 0 = cx)) (wP : IntKind.i64.wrap px = px) (wC : IntKind.i64.wrap cx = cx) {Q : Exit → Act → World → Prop}
    (hQ : ∀ (c40 c41 c42 c43 c44 c45 c46 c47 c48 c49 c50 c51 : Value) (wx : World) , Blk wx b17 (RK .i64 (cpyN P 4 (i + 1))) 29 ∧ Blk wx b18 (RK .i64 (cpyN C 4 (i + 1))) 29 ∧ Calm [b17, b18] w wx → Q .normal ⟨(f0 :: f1 :: f2 :: f3 :: f4 :: f5 :: f6 :: f7 :: f8 :: Value.pointer (some ⟨b9, 0, none⟩) :: Value.pointer (some ⟨b10, 0, none⟩) :: f11 :: f12 :: f13 :: f14 :: f15 :: f16 :: Value.pointer (some ⟨b17, 0, none⟩) :: Value.pointer (some ⟨b18, 0, none⟩) :: Value.int .i64 (i : Int) :: f20 :: f21 :: f22 :: f23 :: f24 :: f25 :: f26 :: f27 :: f28 :: f29 :: f30 :: f31 :: f32 :: f33 :: f34 :: f35 :: f36 :: f37 :: f38 :: f39 :: c40 :: c41 :: c42 :: c43 :: c44 :: c45 :: c46 :: c47 :: c48 :: c49 :: c50 :: c51 :: f52 :: f53 :: f54 :: f55 :: f56 :: f57 :: f58 :: f59 :: f60 :: f61 :: f62 :: f63 :: f64 :: f65 :: f66 :: f67 :: f68 :: f69 :: f70 :: f71 :: f72 :: f73 :: f74 :: f75 :: f76 :: f77 :: f78 :: f79 :: f80 :: f81 :: f82 :: f83 :: f84 :: f85 :: f86 :: f87 :: f88 :: f89 :: f90 :: f91 :: f92 :: f93 :: f94 :: f95 :: f96 :: f97 :: f98 :: f99 :: f100 :: f101 :: f102 :: f103 :: f104 :: f105 :: f106 :: f107 :: f108 :: f109 :: f110 :: f111 :: f112 :: f113 :: f114 :: f115 :: f116 :: f117 :: f118 :: f119 :: f120 :: f121 :: f122 :: f123 :: f124 :: f125 :: f126 :: f127 :: f128 :: f129 :: f130 :: f131 :: f132 :: f133 :: f134 :: f135 :: f136 :: f137 :: f138 :: f139 :: f140 :: f141 :: f142 :: f143 :: f144 :: f145 :: f146 :: f147 :: f148 :: f149 :: f150 :: f151 :: f152 :: f153 :: f154 :: f155 :: f156 :: f157 :: List.nil).toArray, []⟩ wx) : Code.wp Try.prog (regionOf Try.f4 11) Q ⟨(f0 :: f1 :: f2 :: f3 :: f4 :: f5 :: f6 :: f7 :: f8 :: Value.pointer (some ⟨b9, 0, none⟩) :: Value.pointer (some ⟨b10, 0, none⟩) :: f11 :: f12 :: f13 :: f14 :: f15 :: f16 :: Value.pointer (some ⟨b17, 0, none⟩) :: Value.pointer (some ⟨b18, 0, none⟩) :: Value.int .i64 (i : Int) :: f20 :: f21 :: f22 :: f23 :: f24 :: f25 :: f26 :: f27 :: f28 :: f29 :: f30 :: f31 :: f32 :: f33 :: f34 :: f35 :: f36 :: f37 :: f38 :: f39 :: f40 :: f41 :: f42 :: f43 :: f44 :: f45 :: f46 :: f47 :: f48 :: f49 :: f50 :: f51 :: f52 :: f53 :: f54 :: f55 :: f56 :: f57 :: f58 :: f59 :: f60 :: f61 :: f62 :: f63 :: f64 :: f65 :: f66 :: f67 :: f68 :: f69 :: f70 :: f71 :: f72 :: f73 :: f74 :: f75 :: f76 :: f77 :: f78 :: f79 :: f80 :: f81 :: f82 :: f83 :: f84 :: f85 :: f86 :: f87 :: f88 :: f89 :: f90 :: f91 :: f92 :: f93 :: f94 :: f95 :: f96 :: f97 :: f98 :: f99 :: f100 :: f101 :: f102 :: f103 :: f104 :: f105 :: f106 :: f107 :: f108 :: f109 :: f110 :: f111 :: f112 :: f113 :: f114 :: f115 :: f116 :: f117 :: f118 :: f119 :: f120 :: f121 :: f122 :: f123 :: f124 :: f125 :: f126 :: f127 :: f128 :: f129 :: f130 :: f131 :: f132 :: f133 :: f134 :: f135 :: f136 :: f137 :: f138 :: f139 :: f140 :: f141 :: f142 :: f143 :: f144 :: f145 :: f146 :: f147 :: f148 :: f149 :: f150 :: f151 :: f152 :: f153 :: f154 :: f155 :: f156 :: f157 :: List.nil).toArray, []⟩ w := by
  have HQ := Lib.hid hQ
  clear hQ
  have hiI : (i : Int) < 4 := by omega
  change Code.wp Try.prog (Code.region _ _ true) _ _ _
  apply wp_region_vars [false, false, false, false, false, false, false, false, false, false, false, true, false, true] [b17, b18] [⟨none, 0, b17, some 11, 29, RK .i64 (cpyN P 4 i), RK .i64 (cpyN P 4 (i + 1))⟩, ⟨none, 0, b18, some 13, 29, RK .i64 (cpyN C 4 i), RK .i64 (cpyN C 4 (i + 1))⟩] _ (by kernel_rfl) (by kernel_rfl) (by kernel_rfl)
  case H =>
    intro x hx
    have hne : Nonempty (Wx x) := ⟨⟨x, Ext.refl x⟩⟩
    have qP := fun (y : Wx x) => (show y.val.cell? ⟨b9, i, none⟩ = some (.int .i32 px) by rw [← Hp.out]; exact RK.cell ((hP.calm hx (fun hc => by simp at hc; omega)).ext y.ext) (i) (by omega))
    have qC := fun (y : Wx x) => (show y.val.cell? ⟨b10, i, none⟩ = some (.int .i32 cx) by rw [← Hc.out]; exact RK.cell ((hC.calm hx (fun hc => by simp at hc; omega)).ext y.ext) (i) (by omega))
    simp only [eraseM]
    repeat (go_big_quiet_step (fail))
    exact wpQuiet_nil rfl
  case hok =>
    simp only [List.forall_mem_cons, List.not_mem_nil, false_implies, implies_true, and_true]
    exact ⟨tgt_mine (v := .int .i64 (px)) (off := i) (by simp) hA rfl rfl rfl rfl rfl rfl (by kernel_rfl) (by kernel_rfl) (by simp [Value.cells, RK, cpyN_len lP (show i ≤ 4 by omega)]; omega) (by rw [← Hp.out]; exact cpyN_splice lP hi), tgt_mine (v := .int .i64 (cx)) (off := i) (by simp) hB rfl rfl rfl rfl rfl rfl (by kernel_rfl) (by kernel_rfl) (by simp [Value.cells, RK, cpyN_len lC (show i ≤ 4 by omega)]; omega) (by rw [← Hc.out]; exact cpyN_splice lC hi)⟩
  case hdis =>
    intro k k' t t' hk hk' hkk ha ha'
    match k, k', hk, hk' with
    | 0, 0, _, _ => exact absurd rfl hkk
    | 0, 1, hk, hk' => cases hk; cases hk'; exact Nat.ne_of_lt n3
    | 1, 0, hk, hk' => cases hk; cases hk'; exact fun e => Nat.ne_of_lt n3 e.symm
    | 1, 1, _, _ => exact absurd rfl hkk
    | k + 2, _, hk, _ => simp at hk
    | 0, k' + 2, _, hk' => simp at hk'
    | 1, k' + 2, _, hk' => simp at hk'
  rintro w2 f hw ⟨k0, l0, d0, u0, k1, l1, d1, u1, -⟩
  have e0 : f 0 = b17 := k0
  have e1 : f 1 = b18 := k1
  have d1' : Blk w2 (f 1) (RK .i64 (cpyN C 4 (i + 1))) 29 := d1
  rw [e0] at d0
  rw [e1] at d1'
  exact HQ.out _ _ _ _ _ _ _ _ _ _ _ _ w2 ⟨d0, d1', hw⟩
set_option maxRecDepth 100000 in
set_option maxHeartbeats 4000000 in
theorem pl_r15 (f0 f1 f2 f3 f4 f5 f6 f7 f9 f10 f11 f12 f13 f14 f15 f17 f18 f21 f22 f23 f24 f25 f26 f27 f28 f29 f30 f31 f32 f33 f34 f35 f36 f37 f38 f39 f40 f41 f42 f43 f44 f45 f46 f47 f48 f49 f50 f51 f52 f53 f54 f55 f56 f57 f58 f59 f60 f61 f62 f63 f64 f65 f66 f67 f68 f69 f70 f71 f72 f73 f74 f75 f76 f77 f78 f79 f80 f81 f82 f83 f84 f85 f86 f87 f88 f89 f90 f91 f92 f93 f94 f95 f96 f97 f98 f99 f100 f101 f102 f103 f104 f105 f106 f107 f108 f109 f110 f111 f112 f113 f114 f115 f116 f117 f118 f119 f120 f121 f122 f123 f124 f125 f126 f127 f128 f129 f130 f131 f132 f133 f134 f135 f136 f137 f138 f139 f140 f141 f142 f143 f144 f145 f146 f147 f148 f149 f150 f151 f152 f153 f154 f155 f156 f157 : Value) (b8 b16 i k : Nat) (M : List Int) (lM : M.length = 16) (w : World) (hM : Blk w b8 (RK .i32 M) 47) (hA : Blk w b16 (RK .i64 (cpyN M 16 (i * 4 + k))) 51) (n1 : b8 < b16) (hi : i < 4) (hk : k < 4) (mx : Int) (Hm : Hid (M.getD (i * 4 + k) 0 = mx)) (wM : IntKind.i64.wrap mx = mx) {Q : Exit → Act → World → Prop}
    (hQ : ∀ (c55 c56 c57 c58 c59 c60 c61 c62 c63 c64 : Value) (wx : World) , Blk wx b16 (RK .i64 (cpyN M 16 (i * 4 + k + 1))) 51 ∧ Calm [b16] w wx → Q .normal ⟨(f0 :: f1 :: f2 :: f3 :: f4 :: f5 :: f6 :: f7 :: Value.pointer (some ⟨b8, 0, none⟩) :: f9 :: f10 :: f11 :: f12 :: f13 :: f14 :: f15 :: Value.pointer (some ⟨b16, 0, none⟩) :: f17 :: f18 :: Value.int .i64 (i : Int) :: Value.int .i64 (k : Int) :: f21 :: f22 :: f23 :: f24 :: f25 :: f26 :: f27 :: f28 :: f29 :: f30 :: f31 :: f32 :: f33 :: f34 :: f35 :: f36 :: f37 :: f38 :: f39 :: f40 :: f41 :: f42 :: f43 :: f44 :: f45 :: f46 :: f47 :: f48 :: f49 :: f50 :: f51 :: f52 :: f53 :: f54 :: c55 :: c56 :: c57 :: c58 :: c59 :: c60 :: c61 :: c62 :: c63 :: c64 :: f65 :: f66 :: f67 :: f68 :: f69 :: f70 :: f71 :: f72 :: f73 :: f74 :: f75 :: f76 :: f77 :: f78 :: f79 :: f80 :: f81 :: f82 :: f83 :: f84 :: f85 :: f86 :: f87 :: f88 :: f89 :: f90 :: f91 :: f92 :: f93 :: f94 :: f95 :: f96 :: f97 :: f98 :: f99 :: f100 :: f101 :: f102 :: f103 :: f104 :: f105 :: f106 :: f107 :: f108 :: f109 :: f110 :: f111 :: f112 :: f113 :: f114 :: f115 :: f116 :: f117 :: f118 :: f119 :: f120 :: f121 :: f122 :: f123 :: f124 :: f125 :: f126 :: f127 :: f128 :: f129 :: f130 :: f131 :: f132 :: f133 :: f134 :: f135 :: f136 :: f137 :: f138 :: f139 :: f140 :: f141 :: f142 :: f143 :: f144 :: f145 :: f146 :: f147 :: f148 :: f149 :: f150 :: f151 :: f152 :: f153 :: f154 :: f155 :: f156 :: f157 :: List.nil).toArray, []⟩ wx) : Code.wp Try.prog (regionOf Try.f4 15) Q ⟨(f0 :: f1 :: f2 :: f3 :: f4 :: f5 :: f6 :: f7 :: Value.pointer (some ⟨b8, 0, none⟩) :: f9 :: f10 :: f11 :: f12 :: f13 :: f14 :: f15 :: Value.pointer (some ⟨b16, 0, none⟩) :: f17 :: f18 :: Value.int .i64 (i : Int) :: Value.int .i64 (k : Int) :: f21 :: f22 :: f23 :: f24 :: f25 :: f26 :: f27 :: f28 :: f29 :: f30 :: f31 :: f32 :: f33 :: f34 :: f35 :: f36 :: f37 :: f38 :: f39 :: f40 :: f41 :: f42 :: f43 :: f44 :: f45 :: f46 :: f47 :: f48 :: f49 :: f50 :: f51 :: f52 :: f53 :: f54 :: f55 :: f56 :: f57 :: f58 :: f59 :: f60 :: f61 :: f62 :: f63 :: f64 :: f65 :: f66 :: f67 :: f68 :: f69 :: f70 :: f71 :: f72 :: f73 :: f74 :: f75 :: f76 :: f77 :: f78 :: f79 :: f80 :: f81 :: f82 :: f83 :: f84 :: f85 :: f86 :: f87 :: f88 :: f89 :: f90 :: f91 :: f92 :: f93 :: f94 :: f95 :: f96 :: f97 :: f98 :: f99 :: f100 :: f101 :: f102 :: f103 :: f104 :: f105 :: f106 :: f107 :: f108 :: f109 :: f110 :: f111 :: f112 :: f113 :: f114 :: f115 :: f116 :: f117 :: f118 :: f119 :: f120 :: f121 :: f122 :: f123 :: f124 :: f125 :: f126 :: f127 :: f128 :: f129 :: f130 :: f131 :: f132 :: f133 :: f134 :: f135 :: f136 :: f137 :: f138 :: f139 :: f140 :: f141 :: f142 :: f143 :: f144 :: f145 :: f146 :: f147 :: f148 :: f149 :: f150 :: f151 :: f152 :: f153 :: f154 :: f155 :: f156 :: f157 :: List.nil).toArray, []⟩ w := by
  have HQ := Lib.hid hQ
  clear hQ
  have hiI : (i : Int) < 4 := by omega
  have hkI : (k : Int) < 4 := by omega
  change Code.wp Try.prog (Code.region _ _ true) _ _ _
  apply wp_region_vars [false, false, false, false, false, false, false, false, false, false, true] [b16] [⟨none, 0, b16, some 10, 51, RK .i64 (cpyN M 16 (i * 4 + k)), RK .i64 (cpyN M 16 (i * 4 + k + 1))⟩] _ (by kernel_rfl) (by kernel_rfl) (by kernel_rfl)
  case H =>
    intro x hx
    have hne : Nonempty (Wx x) := ⟨⟨x, Ext.refl x⟩⟩
    have qM := fun (y : Wx x) => (show y.val.cell? ⟨b8, i * 4 + k, none⟩ = some (.int .i32 mx) by rw [← Hm.out]; exact RK.cell ((hM.calm hx (fun hc => by simp at hc; omega)).ext y.ext) (i * 4 + k) (by omega))
    simp only [eraseM]
    repeat (go_big_quiet_step (fail))
    exact wpQuiet_nil rfl
  case hok =>
    simp only [List.forall_mem_cons, List.not_mem_nil, false_implies, implies_true, and_true]
    exact tgt_mine (v := .int .i64 (mx)) (off := i * 4 + k) (by simp) hA rfl rfl rfl rfl rfl rfl (by kernel_rfl) (by kernel_rfl) (by simp [Value.cells, RK, cpyN_len lM (show i * 4 + k ≤ 16 by omega)]; omega) (by rw [← Hm.out]; exact cpyN_splice lM (by omega))
  case hdis =>
    intro k k' t t' hk hk' hkk ha ha'
    exfalso
    have h1 : k < 1 := (List.getElem?_eq_some_iff.1 hk).1
    have h2 : k' < 1 := (List.getElem?_eq_some_iff.1 hk').1
    omega
  rintro w2 f hw ⟨k0, l0, d0, u0, -⟩
  have e0 : f 0 = b16 := k0
  rw [e0] at d0
  exact HQ.out _ _ _ _ _ _ _ _ _ _ w2 ⟨d0, hw⟩
set_option maxRecDepth 100000 in
set_option maxHeartbeats 4000000 in
theorem pl_r16 (f0 f1 f2 f3 f4 f5 f6 f7 f8 f9 f10 f11 f12 f13 f14 f17 f18 f21 f22 f23 f24 f25 f26 f27 f28 f29 f30 f31 f32 f33 f34 f35 f36 f37 f38 f39 f40 f41 f42 f43 f44 f45 f46 f47 f48 f49 f50 f51 f52 f53 f54 f55 f56 f57 f58 f59 f60 f61 f62 f63 f64 f65 f66 f67 f68 f69 f70 f71 f72 f73 f74 f75 f76 f77 f78 f79 f80 f81 f82 f83 f84 f85 f86 f87 f88 f89 f90 f91 f92 f93 f94 f95 f96 f97 f98 f99 f100 f101 f102 f103 f104 f105 f106 f107 f108 f109 f110 f111 f112 f113 f114 f115 f116 f117 f118 f119 f120 f121 f122 f123 f124 f125 f126 f127 f128 f129 f130 f131 f132 f133 f134 f135 f136 f137 f138 f139 f140 f141 f142 f143 f144 f145 f146 f147 f148 f149 f150 f151 f152 f153 f154 f155 f156 f157 : Value) (b15 b16 i k : Nat) (M : List Int) (lM : M.length = 16) (w : World) (hM : Blk w b16 (RK .i64 (cpyN M 16 (i * 4 + k + 1))) 51) (hA : Blk w b15 (RK .i64 (cpyN M 16 (i * 4 + k))) 50) (n1 : b15 < b16) (hi : i < 4) (hk : k < 4) (mx : Int) (Hm : Hid (M.getD (i * 4 + k) 0 = mx)) {Q : Exit → Act → World → Prop}
    (hQ : ∀ (c65 c66 c67 c68 c69 c70 c71 c72 c73 : Value) (wx : World) , Blk wx b15 (RK .i64 (cpyN M 16 (i * 4 + k + 1))) 50 ∧ Calm [b15] w wx → Q .normal ⟨(f0 :: f1 :: f2 :: f3 :: f4 :: f5 :: f6 :: f7 :: f8 :: f9 :: f10 :: f11 :: f12 :: f13 :: f14 :: Value.pointer (some ⟨b15, 0, none⟩) :: Value.pointer (some ⟨b16, 0, none⟩) :: f17 :: f18 :: Value.int .i64 (i : Int) :: Value.int .i64 (k : Int) :: f21 :: f22 :: f23 :: f24 :: f25 :: f26 :: f27 :: f28 :: f29 :: f30 :: f31 :: f32 :: f33 :: f34 :: f35 :: f36 :: f37 :: f38 :: f39 :: f40 :: f41 :: f42 :: f43 :: f44 :: f45 :: f46 :: f47 :: f48 :: f49 :: f50 :: f51 :: f52 :: f53 :: f54 :: f55 :: f56 :: f57 :: f58 :: f59 :: f60 :: f61 :: f62 :: f63 :: f64 :: c65 :: c66 :: c67 :: c68 :: c69 :: c70 :: c71 :: c72 :: c73 :: f74 :: f75 :: f76 :: f77 :: f78 :: f79 :: f80 :: f81 :: f82 :: f83 :: f84 :: f85 :: f86 :: f87 :: f88 :: f89 :: f90 :: f91 :: f92 :: f93 :: f94 :: f95 :: f96 :: f97 :: f98 :: f99 :: f100 :: f101 :: f102 :: f103 :: f104 :: f105 :: f106 :: f107 :: f108 :: f109 :: f110 :: f111 :: f112 :: f113 :: f114 :: f115 :: f116 :: f117 :: f118 :: f119 :: f120 :: f121 :: f122 :: f123 :: f124 :: f125 :: f126 :: f127 :: f128 :: f129 :: f130 :: f131 :: f132 :: f133 :: f134 :: f135 :: f136 :: f137 :: f138 :: f139 :: f140 :: f141 :: f142 :: f143 :: f144 :: f145 :: f146 :: f147 :: f148 :: f149 :: f150 :: f151 :: f152 :: f153 :: f154 :: f155 :: f156 :: f157 :: List.nil).toArray, []⟩ wx) : Code.wp Try.prog (regionOf Try.f4 16) Q ⟨(f0 :: f1 :: f2 :: f3 :: f4 :: f5 :: f6 :: f7 :: f8 :: f9 :: f10 :: f11 :: f12 :: f13 :: f14 :: Value.pointer (some ⟨b15, 0, none⟩) :: Value.pointer (some ⟨b16, 0, none⟩) :: f17 :: f18 :: Value.int .i64 (i : Int) :: Value.int .i64 (k : Int) :: f21 :: f22 :: f23 :: f24 :: f25 :: f26 :: f27 :: f28 :: f29 :: f30 :: f31 :: f32 :: f33 :: f34 :: f35 :: f36 :: f37 :: f38 :: f39 :: f40 :: f41 :: f42 :: f43 :: f44 :: f45 :: f46 :: f47 :: f48 :: f49 :: f50 :: f51 :: f52 :: f53 :: f54 :: f55 :: f56 :: f57 :: f58 :: f59 :: f60 :: f61 :: f62 :: f63 :: f64 :: f65 :: f66 :: f67 :: f68 :: f69 :: f70 :: f71 :: f72 :: f73 :: f74 :: f75 :: f76 :: f77 :: f78 :: f79 :: f80 :: f81 :: f82 :: f83 :: f84 :: f85 :: f86 :: f87 :: f88 :: f89 :: f90 :: f91 :: f92 :: f93 :: f94 :: f95 :: f96 :: f97 :: f98 :: f99 :: f100 :: f101 :: f102 :: f103 :: f104 :: f105 :: f106 :: f107 :: f108 :: f109 :: f110 :: f111 :: f112 :: f113 :: f114 :: f115 :: f116 :: f117 :: f118 :: f119 :: f120 :: f121 :: f122 :: f123 :: f124 :: f125 :: f126 :: f127 :: f128 :: f129 :: f130 :: f131 :: f132 :: f133 :: f134 :: f135 :: f136 :: f137 :: f138 :: f139 :: f140 :: f141 :: f142 :: f143 :: f144 :: f145 :: f146 :: f147 :: f148 :: f149 :: f150 :: f151 :: f152 :: f153 :: f154 :: f155 :: f156 :: f157 :: List.nil).toArray, []⟩ w := by
  have HQ := Lib.hid hQ
  clear hQ
  have hiI : (i : Int) < 4 := by omega
  have hkI : (k : Int) < 4 := by omega
  have hg : Hid ((cpyN M 16 (i * 4 + k + 1)).getD (i * 4 + k) 0 = mx) := Lib.hid (by
    rw [← Hm.out]
    unfold cpyN
    simp only [List.getD]
    rw [List.getElem?_append_left (by simp; omega), List.getElem?_take_of_lt (by omega)])
  change Code.wp Try.prog (Code.region _ _ true) _ _ _
  apply wp_region_vars [false, false, false, false, false, false, false, false, false, true] [b15] [⟨none, 0, b15, some 9, 50, RK .i64 (cpyN M 16 (i * 4 + k)), RK .i64 (cpyN M 16 (i * 4 + k + 1))⟩] _ (by kernel_rfl) (by kernel_rfl) (by kernel_rfl)
  case H =>
    intro x hx
    have hne : Nonempty (Wx x) := ⟨⟨x, Ext.refl x⟩⟩
    have qM := fun (y : Wx x) => (show y.val.cell? ⟨b16, i * 4 + k, none⟩ = some (.int .i64 mx) by rw [← hg.out]; exact RK.cell ((hM.calm hx (fun hc => by simp at hc; omega)).ext y.ext) (i * 4 + k) (by rw [cpyN_len lM (by omega)]; omega))
    simp only [eraseM]
    repeat (go_big_quiet_step (fail))
    exact wpQuiet_nil rfl
  case hok =>
    simp only [List.forall_mem_cons, List.not_mem_nil, false_implies, implies_true, and_true]
    exact tgt_mine (v := .int .i64 (mx)) (off := i * 4 + k) (by simp) hA rfl rfl rfl rfl rfl rfl (by kernel_rfl) (by kernel_rfl) (by simp [Value.cells, RK, cpyN_len lM (show i * 4 + k ≤ 16 by omega)]; omega) (by rw [← Hm.out]; exact cpyN_splice lM (by omega))
  case hdis =>
    intro k k' t t' hk hk' hkk ha ha'
    exfalso
    have h1 : k < 1 := (List.getElem?_eq_some_iff.1 hk).1
    have h2 : k' < 1 := (List.getElem?_eq_some_iff.1 hk').1
    omega
  rintro w2 f hw ⟨k0, l0, d0, u0, -⟩
  have e0 : f 0 = b15 := k0
  rw [e0] at d0
  exact HQ.out _ _ _ _ _ _ _ _ _ w2 ⟨d0, hw⟩
end Go.Proofs.Ytellfhnfifgpoaa

namespace Go.Proofs.Ytellfhnfifgpoaa
open Go.RowKit
set_option linter.unusedVariables false
/-- what has come up, one more -/
def upd (L : Nat → Bool) (k : Nat) : Nat → Bool := fun j => decide (k = j) || L j
theorem upd_eq {listed : Array Bool} {k : Nat} (hk : k < listed.size) : (fun j => (listed.setIfInBounds k true).getD j false) = upd (fun j => listed.getD j false) k := by
  funext j
  unfold upd
  by_cases h : k = j
  · subst h
    simp [hk]
  · simp [h, Array.getD_eq_getD_getElem?, Array.getElem?_setIfInBounds_ne h]
theorem wp_enter {P : Program} {o : Oper} {c : Act} {u : World} {K : Act → World → Prop} {Q : Exit → Act → World → Prop} {f : FuncId} {args : Array Value} {R : Ending → World → Prop}
    (ho : (execOp c.eval o).run P u = .ok (.enter f args) u) (h : Calls P f args u R) (hR : ∀ e w', R e w' → ∃ v, e = .returned v ∧ K (c.put o.dst v) w') : o.wp P c u K Q := by
  unfold Oper.wp
  rw [ho, Oper.upon_enter]
  refine h.mono fun e w' he => ?_
  obtain ⟨v, rfl, hk⟩ := hR e w' he
  exact hk
theorem wp_value {P : Program} {o : Oper} {c : Act} {u u' : World} {K : Act → World → Prop} {Q : Exit → Act → World → Prop} {v : Value}
    (ho : (execOp c.eval o).run P u = .ok (.value v) u') (h : K (c.put o.dst v) u') : o.wp P c u K Q := by
  unfold Oper.wp
  rw [ho, Oper.upon_value]
  exact h
theorem wp_skip {P : Program} {o : Oper} {c : Act} {u u' : World} {K : Act → World → Prop} {Q : Exit → Act → World → Prop}
    (ho : (execOp c.eval o).run P u = .ok .skip u') (h : K (c.put o.dst undef) u') : o.wp P c u K Q := by
  unfold Oper.wp
  rw [ho, Oper.upon_skip]
  exact h
theorem eval_slot (c : Act) (k : Tmp) : c.eval (.tmp k) = slot c k := by simp [Act.eval, slot]
theorem slot_puts (c : Act) : ∀ (bs : List Tmp) (F : Act) (d : Tmp), slot (bs.foldl (fun a d => a.put (some d) (slot c d)) F) d = if d ∈ bs ∧ d < F.tmps.size then slot c d else slot F d
  | [], F, d => by simp
  | b :: bs, F, d => by
    rw [List.foldl_cons, slot_puts c bs (F.put (some b) (slot c b)) d, size_put]
    by_cases h1 : d ∈ bs ∧ d < F.tmps.size
    · rw [if_pos h1, if_pos ⟨List.mem_cons_of_mem _ h1.1, h1.2⟩]
    · rw [if_neg h1]
      by_cases h2 : d = b
      · subst h2
        by_cases h3 : d < F.tmps.size
        · rw [if_pos ⟨List.mem_cons_self, h3⟩, slot_put_eq h3]
        · rw [if_neg (fun h => h3 h.2), slot_out (by rw [size_put]; exact Nat.le_of_not_lt h3), slot_out (Nat.le_of_not_lt h3)]
      · rw [slot_put_ne (fun e => h2 (Option.some.inj e).symm), if_neg (fun h => ?_)]
        rcases List.mem_cons.1 h.1 with e | e
        · exact h2 e
        · exact h1 ⟨e, h.2⟩
theorem size_puts (c : Act) : ∀ (bs : List Tmp) (F : Act), (bs.foldl (fun a d => a.put (some d) (slot c d)) F).tmps.size = F.tmps.size ∧ (bs.foldl (fun a d => a.put (some d) (slot c d)) F).defers = F.defers
  | [], F => ⟨rfl, rfl⟩
  | b :: bs, F => by
    obtain ⟨h1, h2⟩ := size_puts c bs (F.put (some b) (slot c b))
    rw [List.foldl_cons, h1, h2, size_put, defers_put]
    exact ⟨rfl, rfl⟩
/-- a frame that is F but for some slots -/
theorem act_puts (bs : List Tmp) {c F : Act} (hd : c.defers = F.defers) (hs : c.tmps.size = F.tmps.size) (h : ∀ d, bs.contains d = false → slot c d = slot F d) : c = bs.foldl (fun a d => a.put (some d) (slot c d)) F := by
  obtain ⟨h1, h2⟩ := size_puts c bs F
  refine act_ext (hd.trans h2.symm) (hs.trans h1.symm) (fun d hdd => ?_)
  rw [slot_puts]
  by_cases hb : d ∈ bs
  · rw [if_pos ⟨hb, by rw [h1] at hdd; exact hdd⟩]
  · rw [if_neg (fun e => hb e.1)]
    exact h d (by simpa using hb)
end Go.Proofs.Ytellfhnfifgpoaa

namespace Go.Proofs.Ytellfhnfifgpoaa
open Go.RowKit
set_option linter.unusedVariables false
theorem mkA4' (u : World) : (Instr.alloc 24 true (.tuple #[])).run Try.prog u = .ok (.pointer (some ⟨u.heap.size, 0, none⟩)) (u.alloc (.cells #[.int .i64 0, .int .i64 0, .int .i64 0, .int .i64 0] 24)) := by
  simp [go_sem]
structure J21 (w : World) (xs : List In) (A B : V4) (L : Nat → Bool) (sl : Tmp → Value) (u : World) : Prop where
  e : Ext w u
  r : L 1 = true → L 5 = false → OwnR u w.heap.size (sl 90) xs
  k5 : L 5 = true → sl 94 = (Value.tuple #[.agg #[.int .i64 A.c0, .int .i64 A.c1, .int .i64 A.c2, .int .i64 A.c3], .agg #[.int .i64 B.c0, .int .i64 B.c1, .int .i64 B.c2, .int .i64 B.c3]])
  k6 : L 6 = true → sl 88 = (Value.tuple #[.agg #[.int .i64 A.c0, .int .i64 A.c1, .int .i64 A.c2, .int .i64 A.c3], .agg #[.int .i64 B.c0, .int .i64 B.c1, .int .i64 B.c2, .int .i64 B.c3]]) ∧ L 5 = true
  k7 : L 7 = true → sl 95 = (Value.agg #[.int .i64 A.c0, .int .i64 A.c1, .int .i64 A.c2, .int .i64 A.c3]) ∧ L 5 = true
  k8 : L 8 = true → sl 96 = (Value.agg #[.int .i64 B.c0, .int .i64 B.c1, .int .i64 B.c2, .int .i64 B.c3]) ∧ L 5 = true
  a : L 9 = true → ∃ g, sl 25 = Value.pointer (some ⟨g, 0, none⟩) ∧ w.heap.size ≤ g ∧ Blk u g (if L 11 then #[.int .i64 A.c0, .int .i64 A.c1, .int .i64 A.c2, .int .i64 A.c3] else #[.int .i64 0, .int .i64 0, .int .i64 0, .int .i64 0]) 24
  b : L 10 = true → ∃ g, sl 26 = Value.pointer (some ⟨g, 0, none⟩) ∧ w.heap.size ≤ g ∧ Blk u g (if L 12 then #[.int .i64 B.c0, .int .i64 B.c1, .int .i64 B.c2, .int .i64 B.c3] else #[.int .i64 0, .int .i64 0, .int .i64 0, .int .i64 0]) 24
  ab : L 9 = true → L 10 = true → sl 25 ≠ sl 26
  s11 : L 11 = true → L 9 = true
  s12 : L 12 = true → L 10 = true
theorem J21.move {w : World} {xs : List In} {A B : V4} {L L' : Nat → Bool} {sl sl' : Tmp → Value} {u u' : World} (h : J21 w xs A B L sl u) (x : Ext u u') (l1 : L' 1 = L 1) (l5 : L' 5 = L 5) (l6 : L' 6 = L 6) (l7 : L' 7 = L 7) (l8 : L' 8 = L 8) (l9 : L' 9 = L 9) (l10 : L' 10 = L 10) (l11 : L' 11 = L 11) (l12 : L' 12 = L 12) (t90 : sl' 90 = sl 90) (t94 : sl' 94 = sl 94) (t88 : sl' 88 = sl 88) (t95 : sl' 95 = sl 95) (t96 : sl' 96 = sl 96) (t25 : sl' 25 = sl 25) (t26 : sl' 26 = sl 26) : J21 w xs A B L' sl' u' := by
  refine ⟨h.e.trans x, ?_, ?_, ?_, ?_, ?_, ?_, ?_, ?_, ?_, ?_⟩
  · rw [l1, l5, t90]; exact fun h1 h2 => (h.r h1 h2).ext x
  · rw [l5, t94]; exact h.k5
  · rw [l6, l5, t88]; exact h.k6
  · rw [l7, l5, t95]; exact h.k7
  · rw [l8, l5, t96]; exact h.k8
  · rw [l9, l11, t25]; exact fun h1 => by obtain ⟨g, h2, h3, h4⟩ := h.a h1; exact ⟨g, h2, h3, h4.ext x⟩
  · rw [l10, l12, t26]; exact fun h1 => by obtain ⟨g, h2, h3, h4⟩ := h.b h1; exact ⟨g, h2, h3, h4.ext x⟩
  · rw [l9, l10, t25, t26]; exact h.ab
  · rw [l11, l9]; exact h.s11
  · rw [l12, l10]; exact h.s12
theorem J21.doR {w : World} {xs : List In} {A B : V4} {L : Nat → Bool} {sl sl' : Tmp → Value} {u u' : World} (h : J21 w xs A B L sl u) (hk : L 1 = false) (x : Ext u u') (hn : OwnR u' w.heap.size (sl' 90) xs) (t94 : sl' 94 = sl 94) (t88 : sl' 88 = sl 88) (t95 : sl' 95 = sl 95) (t96 : sl' 96 = sl 96) (t25 : sl' 25 = sl 25) (t26 : sl' 26 = sl 26) : J21 w xs A B (upd L 1) sl' u' := by
  refine ⟨?_, ?_, ?_, ?_, ?_, ?_, ?_, ?_, ?_, ?_, ?_⟩
  · exact h.e.trans x
  · exact fun _ _ => hn
  · rw [show upd L 1 5 = L 5 from by simp [upd], t94]; exact h.k5
  · rw [show upd L 1 6 = L 6 from by simp [upd], t88]; intro h1; exact ⟨(h.k6 h1).1, by simp [upd, (h.k6 h1).2]⟩
  · rw [show upd L 1 7 = L 7 from by simp [upd], t95]; intro h1; exact ⟨(h.k7 h1).1, by simp [upd, (h.k7 h1).2]⟩
  · rw [show upd L 1 8 = L 8 from by simp [upd], t96]; intro h1; exact ⟨(h.k8 h1).1, by simp [upd, (h.k8 h1).2]⟩
  · rw [show upd L 1 9 = L 9 from by simp [upd], show upd L 1 11 = L 11 from by simp [upd], t25]; exact fun h1 => by obtain ⟨g, h2, h3, h4⟩ := h.a h1; exact ⟨g, h2, h3, h4.ext x⟩
  · rw [show upd L 1 10 = L 10 from by simp [upd], show upd L 1 12 = L 12 from by simp [upd], t26]; exact fun h1 => by obtain ⟨g, h2, h3, h4⟩ := h.b h1; exact ⟨g, h2, h3, h4.ext x⟩
  · rw [show upd L 1 9 = L 9 from by simp [upd], show upd L 1 10 = L 10 from by simp [upd], t25, t26]; exact h.ab
  · rw [show upd L 1 11 = L 11 from by simp [upd]]; intro h1; simp [upd, h.s11 h1]
  · rw [show upd L 1 12 = L 12 from by simp [upd]]; intro h1; simp [upd, h.s12 h1]
theorem J21.doP {w : World} {xs : List In} {A B : V4} {L : Nat → Bool} {sl sl' : Tmp → Value} {u u' : World} (h : J21 w xs A B L sl u) (hk : L 5 = false) (x : Ext u u') (hn : sl' 94 = (Value.tuple #[.agg #[.int .i64 A.c0, .int .i64 A.c1, .int .i64 A.c2, .int .i64 A.c3], .agg #[.int .i64 B.c0, .int .i64 B.c1, .int .i64 B.c2, .int .i64 B.c3]])) (t90 : sl' 90 = sl 90) (t88 : sl' 88 = sl 88) (t95 : sl' 95 = sl 95) (t96 : sl' 96 = sl 96) (t25 : sl' 25 = sl 25) (t26 : sl' 26 = sl 26) : J21 w xs A B (upd L 5) sl' u' := by
  refine ⟨?_, ?_, ?_, ?_, ?_, ?_, ?_, ?_, ?_, ?_, ?_⟩
  · exact h.e.trans x
  · intro _ h2; simp [upd] at h2
  · exact fun _ => hn
  · rw [show upd L 5 6 = L 6 from by simp [upd], t88]; intro h1; exact ⟨(h.k6 h1).1, by simp [upd, (h.k6 h1).2]⟩
  · rw [show upd L 5 7 = L 7 from by simp [upd], t95]; intro h1; exact ⟨(h.k7 h1).1, by simp [upd, (h.k7 h1).2]⟩
  · rw [show upd L 5 8 = L 8 from by simp [upd], t96]; intro h1; exact ⟨(h.k8 h1).1, by simp [upd, (h.k8 h1).2]⟩
  · rw [show upd L 5 9 = L 9 from by simp [upd], show upd L 5 11 = L 11 from by simp [upd], t25]; exact fun h1 => by obtain ⟨g, h2, h3, h4⟩ := h.a h1; exact ⟨g, h2, h3, h4.ext x⟩
  · rw [show upd L 5 10 = L 10 from by simp [upd], show upd L 5 12 = L 12 from by simp [upd], t26]; exact fun h1 => by obtain ⟨g, h2, h3, h4⟩ := h.b h1; exact ⟨g, h2, h3, h4.ext x⟩
  · rw [show upd L 5 9 = L 9 from by simp [upd], show upd L 5 10 = L 10 from by simp [upd], t25, t26]; exact h.ab
  · rw [show upd L 5 11 = L 11 from by simp [upd]]; intro h1; simp [upd, h.s11 h1]
  · rw [show upd L 5 12 = L 12 from by simp [upd]]; intro h1; simp [upd, h.s12 h1]
theorem J21.doM {w : World} {xs : List In} {A B : V4} {L : Nat → Bool} {sl sl' : Tmp → Value} {u u' : World} (h : J21 w xs A B L sl u) (hk : L 6 = false) (x : Ext u u') (h5 : L 5 = true) (hn : sl' 88 = (Value.tuple #[.agg #[.int .i64 A.c0, .int .i64 A.c1, .int .i64 A.c2, .int .i64 A.c3], .agg #[.int .i64 B.c0, .int .i64 B.c1, .int .i64 B.c2, .int .i64 B.c3]])) (t90 : sl' 90 = sl 90) (t94 : sl' 94 = sl 94) (t95 : sl' 95 = sl 95) (t96 : sl' 96 = sl 96) (t25 : sl' 25 = sl 25) (t26 : sl' 26 = sl 26) : J21 w xs A B (upd L 6) sl' u' := by
  refine ⟨?_, ?_, ?_, ?_, ?_, ?_, ?_, ?_, ?_, ?_, ?_⟩
  · exact h.e.trans x
  · rw [show upd L 6 1 = L 1 from by simp [upd], show upd L 6 5 = L 5 from by simp [upd], t90]; exact fun h1 h2 => (h.r h1 h2).ext x
  · rw [show upd L 6 5 = L 5 from by simp [upd], t94]; exact h.k5
  · exact fun _ => ⟨hn, by simp [upd, h5]⟩
  · rw [show upd L 6 7 = L 7 from by simp [upd], t95]; intro h1; exact ⟨(h.k7 h1).1, by simp [upd, (h.k7 h1).2]⟩
  · rw [show upd L 6 8 = L 8 from by simp [upd], t96]; intro h1; exact ⟨(h.k8 h1).1, by simp [upd, (h.k8 h1).2]⟩
  · rw [show upd L 6 9 = L 9 from by simp [upd], show upd L 6 11 = L 11 from by simp [upd], t25]; exact fun h1 => by obtain ⟨g, h2, h3, h4⟩ := h.a h1; exact ⟨g, h2, h3, h4.ext x⟩
  · rw [show upd L 6 10 = L 10 from by simp [upd], show upd L 6 12 = L 12 from by simp [upd], t26]; exact fun h1 => by obtain ⟨g, h2, h3, h4⟩ := h.b h1; exact ⟨g, h2, h3, h4.ext x⟩
  · rw [show upd L 6 9 = L 9 from by simp [upd], show upd L 6 10 = L 10 from by simp [upd], t25, t26]; exact h.ab
  · rw [show upd L 6 11 = L 11 from by simp [upd]]; intro h1; simp [upd, h.s11 h1]
  · rw [show upd L 6 12 = L 12 from by simp [upd]]; intro h1; simp [upd, h.s12 h1]
theorem J21.doX {w : World} {xs : List In} {A B : V4} {L : Nat → Bool} {sl sl' : Tmp → Value} {u u' : World} (h : J21 w xs A B L sl u) (hk : L 7 = false) (x : Ext u u') (h5 : L 5 = true) (hn : sl' 95 = (Value.agg #[.int .i64 A.c0, .int .i64 A.c1, .int .i64 A.c2, .int .i64 A.c3])) (t90 : sl' 90 = sl 90) (t94 : sl' 94 = sl 94) (t88 : sl' 88 = sl 88) (t96 : sl' 96 = sl 96) (t25 : sl' 25 = sl 25) (t26 : sl' 26 = sl 26) : J21 w xs A B (upd L 7) sl' u' := by
  refine ⟨?_, ?_, ?_, ?_, ?_, ?_, ?_, ?_, ?_, ?_, ?_⟩
  · exact h.e.trans x
  · rw [show upd L 7 1 = L 1 from by simp [upd], show upd L 7 5 = L 5 from by simp [upd], t90]; exact fun h1 h2 => (h.r h1 h2).ext x
  · rw [show upd L 7 5 = L 5 from by simp [upd], t94]; exact h.k5
  · rw [show upd L 7 6 = L 6 from by simp [upd], t88]; intro h1; exact ⟨(h.k6 h1).1, by simp [upd, (h.k6 h1).2]⟩
  · exact fun _ => ⟨hn, by simp [upd, h5]⟩
  · rw [show upd L 7 8 = L 8 from by simp [upd], t96]; intro h1; exact ⟨(h.k8 h1).1, by simp [upd, (h.k8 h1).2]⟩
  · rw [show upd L 7 9 = L 9 from by simp [upd], show upd L 7 11 = L 11 from by simp [upd], t25]; exact fun h1 => by obtain ⟨g, h2, h3, h4⟩ := h.a h1; exact ⟨g, h2, h3, h4.ext x⟩
  · rw [show upd L 7 10 = L 10 from by simp [upd], show upd L 7 12 = L 12 from by simp [upd], t26]; exact fun h1 => by obtain ⟨g, h2, h3, h4⟩ := h.b h1; exact ⟨g, h2, h3, h4.ext x⟩
  · rw [show upd L 7 9 = L 9 from by simp [upd], show upd L 7 10 = L 10 from by simp [upd], t25, t26]; exact h.ab
  · rw [show upd L 7 11 = L 11 from by simp [upd]]; intro h1; simp [upd, h.s11 h1]
  · rw [show upd L 7 12 = L 12 from by simp [upd]]; intro h1; simp [upd, h.s12 h1]
theorem J21.doY {w : World} {xs : List In} {A B : V4} {L : Nat → Bool} {sl sl' : Tmp → Value} {u u' : World} (h : J21 w xs A B L sl u) (hk : L 8 = false) (x : Ext u u') (h5 : L 5 = true) (hn : sl' 96 = (Value.agg #[.int .i64 B.c0, .int .i64 B.c1, .int .i64 B.c2, .int .i64 B.c3])) (t90 : sl' 90 = sl 90) (t94 : sl' 94 = sl 94) (t88 : sl' 88 = sl 88) (t95 : sl' 95 = sl 95) (t25 : sl' 25 = sl 25) (t26 : sl' 26 = sl 26) : J21 w xs A B (upd L 8) sl' u' := by
  refine ⟨?_, ?_, ?_, ?_, ?_, ?_, ?_, ?_, ?_, ?_, ?_⟩
  · exact h.e.trans x
  · rw [show upd L 8 1 = L 1 from by simp [upd], show upd L 8 5 = L 5 from by simp [upd], t90]; exact fun h1 h2 => (h.r h1 h2).ext x
  · rw [show upd L 8 5 = L 5 from by simp [upd], t94]; exact h.k5
  · rw [show upd L 8 6 = L 6 from by simp [upd], t88]; intro h1; exact ⟨(h.k6 h1).1, by simp [upd, (h.k6 h1).2]⟩
  · rw [show upd L 8 7 = L 7 from by simp [upd], t95]; intro h1; exact ⟨(h.k7 h1).1, by simp [upd, (h.k7 h1).2]⟩
  · exact fun _ => ⟨hn, by simp [upd, h5]⟩
  · rw [show upd L 8 9 = L 9 from by simp [upd], show upd L 8 11 = L 11 from by simp [upd], t25]; exact fun h1 => by obtain ⟨g, h2, h3, h4⟩ := h.a h1; exact ⟨g, h2, h3, h4.ext x⟩
  · rw [show upd L 8 10 = L 10 from by simp [upd], show upd L 8 12 = L 12 from by simp [upd], t26]; exact fun h1 => by obtain ⟨g, h2, h3, h4⟩ := h.b h1; exact ⟨g, h2, h3, h4.ext x⟩
  · rw [show upd L 8 9 = L 9 from by simp [upd], show upd L 8 10 = L 10 from by simp [upd], t25, t26]; exact h.ab
  · rw [show upd L 8 11 = L 11 from by simp [upd]]; intro h1; simp [upd, h.s11 h1]
  · rw [show upd L 8 12 = L 12 from by simp [upd]]; intro h1; simp [upd, h.s12 h1]
theorem J21.doA {w : World} {xs : List In} {A B : V4} {L : Nat → Bool} {sl sl' : Tmp → Value} {u u' : World} (h : J21 w xs A B L sl u) (hk : L 9 = false) (x : Ext u u') (hn : sl' 25 = .pointer (some ⟨u.heap.size, 0, none⟩)) (hb : Blk u' u.heap.size #[.int .i64 0, .int .i64 0, .int .i64 0, .int .i64 0] 24) (t90 : sl' 90 = sl 90) (t94 : sl' 94 = sl 94) (t88 : sl' 88 = sl 88) (t95 : sl' 95 = sl 95) (t96 : sl' 96 = sl 96) (t26 : sl' 26 = sl 26) : J21 w xs A B (upd L 9) sl' u' := by
  refine ⟨?_, ?_, ?_, ?_, ?_, ?_, ?_, ?_, ?_, ?_, ?_⟩
  · exact h.e.trans x
  · rw [show upd L 9 1 = L 1 from by simp [upd], show upd L 9 5 = L 5 from by simp [upd], t90]; exact fun h1 h2 => (h.r h1 h2).ext x
  · rw [show upd L 9 5 = L 5 from by simp [upd], t94]; exact h.k5
  · rw [show upd L 9 6 = L 6 from by simp [upd], t88]; intro h1; exact ⟨(h.k6 h1).1, by simp [upd, (h.k6 h1).2]⟩
  · rw [show upd L 9 7 = L 7 from by simp [upd], t95]; intro h1; exact ⟨(h.k7 h1).1, by simp [upd, (h.k7 h1).2]⟩
  · rw [show upd L 9 8 = L 8 from by simp [upd], t96]; intro h1; exact ⟨(h.k8 h1).1, by simp [upd, (h.k8 h1).2]⟩
  · intro _
    have h11 : L 11 = false := by
      cases hh : L 11 with
      | false => rfl
      | true => have := h.s11 hh; rw [hk] at this; cases this
    exact ⟨u.heap.size, hn, h.e.size, by rw [show upd L 9 11 = false from by simp [upd, h11]]; exact hb⟩
  · rw [show upd L 9 10 = L 10 from by simp [upd], show upd L 9 12 = L 12 from by simp [upd], t26]; exact fun h1 => by obtain ⟨g, h2, h3, h4⟩ := h.b h1; exact ⟨g, h2, h3, h4.ext x⟩
  · intro _ h1
    have h2 : L 10 = true := by simpa [upd] using h1
    obtain ⟨g, e1, _, b1⟩ := h.b h2
    have := b1.lt
    rw [t26, e1, hn]
    intro hh
    have hg : g = u.heap.size := by cases hh; rfl
    omega
  · intro _; simp [upd]
  · rw [show upd L 9 12 = L 12 from by simp [upd]]; intro h1; simp [upd, h.s12 h1]
theorem J21.doB {w : World} {xs : List In} {A B : V4} {L : Nat → Bool} {sl sl' : Tmp → Value} {u u' : World} (h : J21 w xs A B L sl u) (hk : L 10 = false) (x : Ext u u') (hn : sl' 26 = .pointer (some ⟨u.heap.size, 0, none⟩)) (hb : Blk u' u.heap.size #[.int .i64 0, .int .i64 0, .int .i64 0, .int .i64 0] 24) (t90 : sl' 90 = sl 90) (t94 : sl' 94 = sl 94) (t88 : sl' 88 = sl 88) (t95 : sl' 95 = sl 95) (t96 : sl' 96 = sl 96) (t25 : sl' 25 = sl 25) : J21 w xs A B (upd L 10) sl' u' := by
  refine ⟨?_, ?_, ?_, ?_, ?_, ?_, ?_, ?_, ?_, ?_, ?_⟩
  · exact h.e.trans x
  · rw [show upd L 10 1 = L 1 from by simp [upd], show upd L 10 5 = L 5 from by simp [upd], t90]; exact fun h1 h2 => (h.r h1 h2).ext x
  · rw [show upd L 10 5 = L 5 from by simp [upd], t94]; exact h.k5
  · rw [show upd L 10 6 = L 6 from by simp [upd], t88]; intro h1; exact ⟨(h.k6 h1).1, by simp [upd, (h.k6 h1).2]⟩
  · rw [show upd L 10 7 = L 7 from by simp [upd], t95]; intro h1; exact ⟨(h.k7 h1).1, by simp [upd, (h.k7 h1).2]⟩
  · rw [show upd L 10 8 = L 8 from by simp [upd], t96]; intro h1; exact ⟨(h.k8 h1).1, by simp [upd, (h.k8 h1).2]⟩
  · rw [show upd L 10 9 = L 9 from by simp [upd], show upd L 10 11 = L 11 from by simp [upd], t25]; exact fun h1 => by obtain ⟨g, h2, h3, h4⟩ := h.a h1; exact ⟨g, h2, h3, h4.ext x⟩
  · intro _
    have h11 : L 12 = false := by
      cases hh : L 12 with
      | false => rfl
      | true => have := h.s12 hh; rw [hk] at this; cases this
    exact ⟨u.heap.size, hn, h.e.size, by rw [show upd L 10 12 = false from by simp [upd, h11]]; exact hb⟩
  · intro h1 _
    have h2 : L 9 = true := by simpa [upd] using h1
    obtain ⟨g, e1, _, b1⟩ := h.a h2
    have := b1.lt
    rw [t25, e1, hn]
    intro hh
    have hg : g = u.heap.size := by cases hh; rfl
    omega
  · rw [show upd L 10 11 = L 11 from by simp [upd]]; intro h1; simp [upd, h.s11 h1]
  · intro _; simp [upd]
theorem J21.doS {w : World} {xs : List In} {A B : V4} {L : Nat → Bool} {sl sl' : Tmp → Value} {u u' : World} (h : J21 w xs A B L sl u) (hk : L 11 = false) (h5 : L 5 = true) (ha : L 9 = true) (g : Nat) (hg : sl 25 = Value.pointer (some ⟨g, 0, none⟩)) (hwg : w.heap.size ≤ g) (hbg : Blk u g #[.int .i64 0, .int .i64 0, .int .i64 0, .int .i64 0] 24) (eu : u' = u.setRow g #[.int .i64 A.c0, .int .i64 A.c1, .int .i64 A.c2, .int .i64 A.c3]) (t90 : sl' 90 = sl 90) (t94 : sl' 94 = sl 94) (t88 : sl' 88 = sl 88) (t95 : sl' 95 = sl 95) (t96 : sl' 96 = sl 96) (t25 : sl' 25 = sl 25) (t26 : sl' 26 = sl 26) : J21 w xs A B (upd L 11) sl' u' := by
  refine ⟨?_, ?_, ?_, ?_, ?_, ?_, ?_, ?_, ?_, ?_, ?_⟩
  · rw [eu]; exact h.e.setRow hwg _
  · rw [show upd L 11 5 = L 5 from by simp [upd]]; intro _ h2; rw [h5] at h2; cases h2
  · rw [show upd L 11 5 = L 5 from by simp [upd], t94]; exact h.k5
  · rw [show upd L 11 6 = L 6 from by simp [upd], t88]; intro h1; exact ⟨(h.k6 h1).1, by simp [upd, (h.k6 h1).2]⟩
  · rw [show upd L 11 7 = L 7 from by simp [upd], t95]; intro h1; exact ⟨(h.k7 h1).1, by simp [upd, (h.k7 h1).2]⟩
  · rw [show upd L 11 8 = L 8 from by simp [upd], t96]; intro h1; exact ⟨(h.k8 h1).1, by simp [upd, (h.k8 h1).2]⟩
  · intro _; exact ⟨g, by rw [t25]; exact hg, hwg, by rw [show upd L 11 11 = true from by simp [upd], eu]; exact hbg.setRow _⟩
  · rw [show upd L 11 10 = L 10 from by simp [upd], show upd L 11 12 = L 12 from by simp [upd], t26]
    intro h1
    obtain ⟨g', e1, h3, b1⟩ := h.b h1
    refine ⟨g', e1, h3, ?_⟩
    rw [eu]
    refine b1.farRow (fun e => ?_) _
    subst e
    exact h.ab ha h1 (by rw [hg, e1])
  · rw [show upd L 11 9 = L 9 from by simp [upd], show upd L 11 10 = L 10 from by simp [upd], t25, t26]; exact h.ab
  · intro _; simp [upd, ha]
  · rw [show upd L 11 12 = L 12 from by simp [upd]]; intro h1; simp [upd, h.s12 h1]
theorem J21.doU {w : World} {xs : List In} {A B : V4} {L : Nat → Bool} {sl sl' : Tmp → Value} {u u' : World} (h : J21 w xs A B L sl u) (hk : L 12 = false) (h5 : L 5 = true) (ha : L 10 = true) (g : Nat) (hg : sl 26 = Value.pointer (some ⟨g, 0, none⟩)) (hwg : w.heap.size ≤ g) (hbg : Blk u g #[.int .i64 0, .int .i64 0, .int .i64 0, .int .i64 0] 24) (eu : u' = u.setRow g #[.int .i64 B.c0, .int .i64 B.c1, .int .i64 B.c2, .int .i64 B.c3]) (t90 : sl' 90 = sl 90) (t94 : sl' 94 = sl 94) (t88 : sl' 88 = sl 88) (t95 : sl' 95 = sl 95) (t96 : sl' 96 = sl 96) (t25 : sl' 25 = sl 25) (t26 : sl' 26 = sl 26) : J21 w xs A B (upd L 12) sl' u' := by
  refine ⟨?_, ?_, ?_, ?_, ?_, ?_, ?_, ?_, ?_, ?_, ?_⟩
  · rw [eu]; exact h.e.setRow hwg _
  · rw [show upd L 12 5 = L 5 from by simp [upd]]; intro _ h2; rw [h5] at h2; cases h2
  · rw [show upd L 12 5 = L 5 from by simp [upd], t94]; exact h.k5
  · rw [show upd L 12 6 = L 6 from by simp [upd], t88]; intro h1; exact ⟨(h.k6 h1).1, by simp [upd, (h.k6 h1).2]⟩
  · rw [show upd L 12 7 = L 7 from by simp [upd], t95]; intro h1; exact ⟨(h.k7 h1).1, by simp [upd, (h.k7 h1).2]⟩
  · rw [show upd L 12 8 = L 8 from by simp [upd], t96]; intro h1; exact ⟨(h.k8 h1).1, by simp [upd, (h.k8 h1).2]⟩
  · rw [show upd L 12 9 = L 9 from by simp [upd], show upd L 12 11 = L 11 from by simp [upd], t25]
    intro h1
    obtain ⟨g', e1, h3, b1⟩ := h.a h1
    refine ⟨g', e1, h3, ?_⟩
    rw [eu]
    refine b1.farRow (fun e => ?_) _
    subst e
    exact h.ab h1 ha (by rw [e1, hg])
  · intro _; exact ⟨g, by rw [t26]; exact hg, hwg, by rw [show upd L 12 12 = true from by simp [upd], eu]; exact hbg.setRow _⟩
  · rw [show upd L 12 9 = L 9 from by simp [upd], show upd L 12 10 = L 10 from by simp [upd], t25, t26]; exact h.ab
  · rw [show upd L 12 11 = L 11 from by simp [upd]]; intro h1; simp [upd, h.s11 h1]
  · intro _; simp [upd, ha]
set_option maxRecDepth 100000 in
set_option maxHeartbeats 4000000 in
theorem pl_r21 (f0 f1 f2 f3 f4 f5 f6 f7 f8 f9 f10 f11 f12 f13 f14 f15 f19 f20 f22 f23 f24 f25 f26 f27 f28 f29 f30 f31 f32 f33 f34 f35 f36 f37 f38 f39 f40 f41 f42 f43 f44 f45 f46 f47 f48 f49 f50 f51 f52 f53 f54 f55 f56 f57 f58 f59 f60 f61 f62 f63 f64 f65 f66 f67 f68 f69 f70 f71 f72 f73 f74 f75 f76 f77 f78 f79 f80 f81 f82 f83 f84 f85 f86 f87 f88 f89 f90 f91 f92 f93 f94 f95 f96 f97 f98 f99 f100 f101 f102 f103 f104 f105 f106 f107 f108 f109 f110 f111 f112 f113 f114 f115 f116 f117 f118 f119 f120 f121 f122 f123 f124 f125 f126 f127 f128 f129 f130 f131 f132 f133 f134 f135 f136 f137 f138 f139 f140 f141 f142 f143 f144 f145 f146 f147 f148 f149 f150 f151 f152 f153 f154 f155 f156 f157 : Value) (b16 b17 b18 base n cc : Nat) (ao : Option Addr) (xs : List In) (s1 : St) (p c0 : V4) (m0 m1 m2 m3 : V4) (b0 : -9223372036854775808 ≤ p.c0 ∧ p.c0 ≤ 9223372036854775807) (b1 : -9223372036854775808 ≤ p.c1 ∧ p.c1 ≤ 9223372036854775807) (b2 : -9223372036854775808 ≤ p.c2 ∧ p.c2 ≤ 9223372036854775807) (b3 : -9223372036854775808 ≤ p.c3 ∧ p.c3 ≤ 9223372036854775807) (g0 : -9223372036854775808 ≤ c0.c0 ∧ c0.c0 ≤ 9223372036854775807) (g1 : -9223372036854775808 ≤ c0.c1 ∧ c0.c1 ≤ 9223372036854775807) (g2 : -9223372036854775808 ≤ c0.c2 ∧ c0.c2 ≤ 9223372036854775807) (g3 : -9223372036854775808 ≤ c0.c3 ∧ c0.c3 ≤ 9223372036854775807) (d00 : -9223372036854775808 ≤ m0.c0 ∧ m0.c0 ≤ 9223372036854775807) (d01 : -9223372036854775808 ≤ m0.c1 ∧ m0.c1 ≤ 9223372036854775807) (d02 : -9223372036854775808 ≤ m0.c2 ∧ m0.c2 ≤ 9223372036854775807) (d03 : -9223372036854775808 ≤ m0.c3 ∧ m0.c3 ≤ 9223372036854775807) (d10 : -9223372036854775808 ≤ m1.c0 ∧ m1.c0 ≤ 9223372036854775807) (d11 : -9223372036854775808 ≤ m1.c1 ∧ m1.c1 ≤ 9223372036854775807) (d12 : -9223372036854775808 ≤ m1.c2 ∧ m1.c2 ≤ 9223372036854775807) (d13 : -9223372036854775808 ≤ m1.c3 ∧ m1.c3 ≤ 9223372036854775807) (d20 : -9223372036854775808 ≤ m2.c0 ∧ m2.c0 ≤ 9223372036854775807) (d21 : -9223372036854775808 ≤ m2.c1 ∧ m2.c1 ≤ 9223372036854775807) (d22 : -9223372036854775808 ≤ m2.c2 ∧ m2.c2 ≤ 9223372036854775807) (d23 : -9223372036854775808 ≤ m2.c3 ∧ m2.c3 ≤ 9223372036854775807) (d30 : -9223372036854775808 ≤ m3.c0 ∧ m3.c0 ≤ 9223372036854775807) (d31 : -9223372036854775808 ≤ m3.c1 ∧ m3.c1 ≤ 9223372036854775807) (d32 : -9223372036854775808 ≤ m3.c2 ∧ m3.c2 ≤ 9223372036854775807) (d33 : -9223372036854775808 ≤ m3.c3 ∧ m3.c3 ≤ 9223372036854775807) (hck : chk false xs = 0) (hs1 : (run xs 0 xs.length (st0 (placeR p c0 m0 m1 m2 m3))) = s1) (w : World) (hO : OwnP w base (.slice ao n cc) xs) (hok : ∀ x ∈ xs, x.ok) (hl : xs.length ≤ 20) (hM : Blk w b16 #[.int .i64 m0.c0, .int .i64 m0.c1, .int .i64 m0.c2, .int .i64 m0.c3, .int .i64 m1.c0, .int .i64 m1.c1, .int .i64 m1.c2, .int .i64 m1.c3, .int .i64 m2.c0, .int .i64 m2.c1, .int .i64 m2.c2, .int .i64 m2.c3, .int .i64 m3.c0, .int .i64 m3.c1, .int .i64 m3.c2, .int .i64 m3.c3] 51) (hP : Blk w b17 #[.int .i64 p.c0, .int .i64 p.c1, .int .i64 p.c2, .int .i64 p.c3] 29) (hC : Blk w b18 #[.int .i64 c0.c0, .int .i64 c0.c1, .int .i64 c0.c2, .int .i64 c0.c3] 29) {Q : Exit → Act → World → Prop}
    (hQ : ∀ (c88 c89 c90 c91 c92 c93 c94 c95 c96 : Value) (wx : World) (g25 g26 : Nat), Blk wx g25 #[.int .i64 ((regAt s1.rs 0).lim (-4194304) 4194304).c0, .int .i64 ((regAt s1.rs 0).lim (-4194304) 4194304).c1, .int .i64 ((regAt s1.rs 0).lim (-4194304) 4194304).c2, .int .i64 ((regAt s1.rs 0).lim (-4194304) 4194304).c3] 24 ∧ Blk wx g26 #[.int .i64 ((regAt s1.rs 1).lim 0 65536).c0, .int .i64 ((regAt s1.rs 1).lim 0 65536).c1, .int .i64 ((regAt s1.rs 1).lim 0 65536).c2, .int .i64 ((regAt s1.rs 1).lim 0 65536).c3] 24 ∧ Ext w wx → Q .normal ⟨(f0 :: f1 :: f2 :: f3 :: f4 :: f5 :: f6 :: f7 :: f8 :: f9 :: f10 :: f11 :: f12 :: f13 :: f14 :: f15 :: Value.pointer (some ⟨b16, 0, none⟩) :: Value.pointer (some ⟨b17, 0, none⟩) :: Value.pointer (some ⟨b18, 0, none⟩) :: f19 :: f20 :: Value.slice ao n cc :: f22 :: f23 :: f24 :: Value.pointer (some ⟨g25, 0, none⟩) :: Value.pointer (some ⟨g26, 0, none⟩) :: f27 :: f28 :: f29 :: f30 :: f31 :: f32 :: f33 :: f34 :: f35 :: f36 :: f37 :: f38 :: f39 :: f40 :: f41 :: f42 :: f43 :: f44 :: f45 :: f46 :: f47 :: f48 :: f49 :: f50 :: f51 :: f52 :: f53 :: f54 :: f55 :: f56 :: f57 :: f58 :: f59 :: f60 :: f61 :: f62 :: f63 :: f64 :: f65 :: f66 :: f67 :: f68 :: f69 :: f70 :: f71 :: f72 :: f73 :: f74 :: f75 :: f76 :: f77 :: f78 :: f79 :: f80 :: f81 :: f82 :: f83 :: f84 :: f85 :: f86 :: f87 :: c88 :: c89 :: c90 :: c91 :: c92 :: c93 :: c94 :: c95 :: c96 :: f97 :: f98 :: f99 :: f100 :: f101 :: f102 :: f103 :: f104 :: f105 :: f106 :: f107 :: f108 :: f109 :: f110 :: f111 :: f112 :: f113 :: f114 :: f115 :: f116 :: f117 :: f118 :: f119 :: f120 :: f121 :: f122 :: f123 :: f124 :: f125 :: f126 :: f127 :: f128 :: f129 :: f130 :: f131 :: f132 :: f133 :: f134 :: f135 :: f136 :: f137 :: f138 :: f139 :: f140 :: f141 :: f142 :: f143 :: f144 :: f145 :: f146 :: f147 :: f148 :: f149 :: f150 :: f151 :: f152 :: f153 :: f154 :: f155 :: f156 :: f157 :: List.nil).toArray, []⟩ wx) : Code.wp Try.prog (regionOf Try.f4 21) Q ⟨(f0 :: f1 :: f2 :: f3 :: f4 :: f5 :: f6 :: f7 :: f8 :: f9 :: f10 :: f11 :: f12 :: f13 :: f14 :: f15 :: Value.pointer (some ⟨b16, 0, none⟩) :: Value.pointer (some ⟨b17, 0, none⟩) :: Value.pointer (some ⟨b18, 0, none⟩) :: f19 :: f20 :: Value.slice ao n cc :: f22 :: f23 :: f24 :: f25 :: f26 :: f27 :: f28 :: f29 :: f30 :: f31 :: f32 :: f33 :: f34 :: f35 :: f36 :: f37 :: f38 :: f39 :: f40 :: f41 :: f42 :: f43 :: f44 :: f45 :: f46 :: f47 :: f48 :: f49 :: f50 :: f51 :: f52 :: f53 :: f54 :: f55 :: f56 :: f57 :: f58 :: f59 :: f60 :: f61 :: f62 :: f63 :: f64 :: f65 :: f66 :: f67 :: f68 :: f69 :: f70 :: f71 :: f72 :: f73 :: f74 :: f75 :: f76 :: f77 :: f78 :: f79 :: f80 :: f81 :: f82 :: f83 :: f84 :: f85 :: f86 :: f87 :: f88 :: f89 :: f90 :: f91 :: f92 :: f93 :: f94 :: f95 :: f96 :: f97 :: f98 :: f99 :: f100 :: f101 :: f102 :: f103 :: f104 :: f105 :: f106 :: f107 :: f108 :: f109 :: f110 :: f111 :: f112 :: f113 :: f114 :: f115 :: f116 :: f117 :: f118 :: f119 :: f120 :: f121 :: f122 :: f123 :: f124 :: f125 :: f126 :: f127 :: f128 :: f129 :: f130 :: f131 :: f132 :: f133 :: f134 :: f135 :: f136 :: f137 :: f138 :: f139 :: f140 :: f141 :: f142 :: f143 :: f144 :: f145 :: f146 :: f147 :: f148 :: f149 :: f150 :: f151 :: f152 :: f153 :: f154 :: f155 :: f156 :: f157 :: List.nil).toArray, []⟩ w := by
  have HQ := Lib.hid hQ
  clear hQ
  change Code.wp Try.prog (Code.region _ _ true) _ _ _
  apply wp_region_calm [false, true, false, false, false, true, true, true, true, true, true, true, true] [90, 94, 88, 95, 96, 25, 26] [] _ (fun listed c u => J21 w xs ((regAt s1.rs 0).lim (-4194304) 4194304) ((regAt s1.rs 1).lim 0 65536) (fun j => listed.getD j false) (slot c) u) (by kernel_rfl) (by kernel_rfl)
  case H =>
    intro x hx
    have hne : Nonempty (Wx x) := ⟨⟨x, Ext.refl x⟩⟩
    have qhM := fun (y : Wx x) => ((hM.calm hx (by simp)).ext y.ext).cell
    have qhP := fun (y : Wx x) => ((hP.calm hx (by simp)).ext y.ext).cell
    have qhC := fun (y : Wx x) => ((hC.calm hx (by simp)).ext y.ext).cell
    simp only [eraseM]
    repeat (go_big_quiet_step (fail))
    exact wpQuiet_nil rfl
  case J0 =>
    have h0 : ∀ j, (Array.replicate 13 false).getD j false = false := fun j => rep_false 13 j
    refine ⟨(Ext.refl w).drew, ?_, ?_, ?_, ?_, ?_, ?_, ?_, ?_, ?_, ?_⟩ <;> (intro h1; exact absurd ((h0 _).symm.trans h1) (by simp))
  case JA =>
    intro listed c u u' i o v hi hmi hr x hJ
    have hun := (getD_f (mem_ready.1 hr).1).2
    have hlt : i < 13 := (List.getElem?_eq_some_iff.1 hi).1
    rw [upd_eq hun]
    have hc : i = 0 ∨ i = 1 ∨ i = 2 ∨ i = 3 ∨ i = 4 ∨ i = 5 ∨ i = 6 ∨ i = 7 ∨ i = 8 ∨ i = 9 ∨ i = 10 ∨ i = 11 ∨ i = 12 := by omega
    rcases hc with rfl | rfl | rfl | rfl | rfl | rfl | rfl | rfl | rfl | rfl | rfl | rfl | rfl
    all_goals first
      | (exfalso; revert hmi; decide)
      | (cases hi; exact hJ.move x (by simp [upd]) (by simp [upd]) (by simp [upd]) (by simp [upd]) (by simp [upd]) (by simp [upd]) (by simp [upd]) (by simp [upd]) (by simp [upd]) (slot_put_ne (by decide)) (slot_put_ne (by decide)) (slot_put_ne (by decide)) (slot_put_ne (by decide)) (slot_put_ne (by decide)) (slot_put_ne (by decide)) (slot_put_ne (by decide)))
  case JB =>
    intro listed c u i o hi hmi hr hw hJ hsz hlook
    have hs158 : c.tmps.size = 158 := hsz
    obtain ⟨hun0, o', ho', hall⟩ := mem_ready.1 hr
    obtain ⟨hunf, hun⟩ := getD_f hun0
    rw [List.getElem?_toArray] at ho'
    have eo : o' = o := Option.some.inj (ho'.symm.trans hi)
    subst eo
    have hlt : i < 13 := (List.getElem?_eq_some_iff.1 hi).1
    rw [upd_eq hun]
    have hc : i = 0 ∨ i = 1 ∨ i = 2 ∨ i = 3 ∨ i = 4 ∨ i = 5 ∨ i = 6 ∨ i = 7 ∨ i = 8 ∨ i = 9 ∨ i = 10 ∨ i = 11 ∨ i = 12 := by omega
    rcases hc with rfl | rfl | rfl | rfl | rfl | rfl | rfl | rfl | rfl | rfl | rfl | rfl | rfl
    · exfalso; revert hmi; decide
    · cases hi
      have l89 : slot c 89 = .slice ao n cc := hlook 89 (of_decide_eq_true (by kernel_rfl)) rfl
      refine wp_enter (f := 13) (args := #[slot c 89]) (by simp [go_sem, slot]) (by rw [l89]; exact ref_any u base _ xs (hO.ext hJ.e) hok (by omega)) ?_
      rintro e u' ⟨v, rfl, o1, x1⟩
      refine ⟨v, rfl, v, rfl, (hJ.e.trans x1).calm [], ?_⟩
      exact hJ.doR hunf x1 (by rw [(slot_put_eq (by rw [hs158]; decide))]; exact o1.mono hJ.e.size) (slot_put_ne (by decide)) (slot_put_ne (by decide)) (slot_put_ne (by decide)) (slot_put_ne (by decide)) (slot_put_ne (by decide)) (slot_put_ne (by decide))
    · exfalso; revert hmi; decide
    · exfalso; revert hmi; decide
    · exfalso; revert hmi; decide
    · have need := fun k hk => let ⟨e, he, hb, ho⟩ := waitsB_spec (k := k) hi hk; ho ▸ hall e he hb
      have n1 : listed.getD 1 false = true := need 1 (by kernel_rfl)
      have hOR := hJ.r n1 hunf
      cases hi
      have l91 : slot c 91 = .agg #[.int .i64 m0.c0, .int .i64 m0.c1, .int .i64 m0.c2, .int .i64 m0.c3, .int .i64 m1.c0, .int .i64 m1.c1, .int .i64 m1.c2, .int .i64 m1.c3, .int .i64 m2.c0, .int .i64 m2.c1, .int .i64 m2.c2, .int .i64 m2.c3, .int .i64 m3.c0, .int .i64 m3.c1, .int .i64 m3.c2, .int .i64 m3.c3] := hlook 91 (of_decide_eq_true (by kernel_rfl)) rfl
      have l92 : slot c 92 = .agg #[.int .i64 p.c0, .int .i64 p.c1, .int .i64 p.c2, .int .i64 p.c3] := hlook 92 (of_decide_eq_true (by kernel_rfl)) rfl
      have l93 : slot c 93 = .agg #[.int .i64 c0.c0, .int .i64 c0.c1, .int .i64 c0.c2, .int .i64 c0.c3] := hlook 93 (of_decide_eq_true (by kernel_rfl)) rfl
      refine wp_enter (f := 18) (args := #[slot c 90, slot c 91, slot c 92, slot c 93]) (by simp [go_sem, slot]) (by rw [l91, l92, l93]; exact rplace_any u w.heap.size _ xs hOR hok hck p c0 m0 m1 m2 m3 b0 b1 b2 b3 g0 g1 g2 g3 d00 d01 d02 d03 d10 d11 d12 d13 d20 d21 d22 d23 d30 d31 d32 d33) ?_
      rintro e u' ⟨rfl, x1⟩
      rw [hs1]
      refine ⟨_, rfl, _, rfl, (hJ.e.trans x1).calm [], ?_⟩
      exact hJ.doP hunf x1 (by rw [(slot_put_eq (by rw [hs158]; decide))]) (slot_put_ne (by decide)) (slot_put_ne (by decide)) (slot_put_ne (by decide)) (slot_put_ne (by decide)) (slot_put_ne (by decide)) (slot_put_ne (by decide))
    · have need := fun k hk => let ⟨e, he, hb, ho⟩ := waitsB_spec (k := k) hi hk; ho ▸ hall e he hb
      have n5 : listed.getD 5 false = true := need 5 (by kernel_rfl)
      have k5 := hJ.k5 n5
      cases hi
      refine wp_value (v := slot c 94) (u' := u) (by simp [go_sem, slot]) ⟨_, rfl, hJ.e.calm [], ?_⟩
      exact hJ.doM hunf (Ext.refl _) n5 (by rw [(slot_put_eq (by rw [hs158]; decide))]; exact k5) (slot_put_ne (by decide)) (slot_put_ne (by decide)) (slot_put_ne (by decide)) (slot_put_ne (by decide)) (slot_put_ne (by decide)) (slot_put_ne (by decide))
    · have need := fun k hk => let ⟨e, he, hb, ho⟩ := waitsB_spec (k := k) hi hk; ho ▸ hall e he hb
      have n6 : listed.getD 6 false = true := need 6 (by kernel_rfl)
      obtain ⟨k6, n5⟩ := hJ.k6 n6
      have k6' : c.tmps[88]?.getD undef = slot c 88 := by simp [slot]
      rw [k6] at k6'
      cases hi
      refine wp_value (v := .agg #[.int .i64 ((regAt s1.rs 0).lim (-4194304) 4194304).c0, .int .i64 ((regAt s1.rs 0).lim (-4194304) 4194304).c1, .int .i64 ((regAt s1.rs 0).lim (-4194304) 4194304).c2, .int .i64 ((regAt s1.rs 0).lim (-4194304) 4194304).c3]) (u' := u) (by simp [go_sem, k6']) ⟨_, rfl, hJ.e.calm [], ?_⟩
      exact hJ.doX hunf (Ext.refl _) n5 (by rw [(slot_put_eq (by rw [hs158]; decide))]) (slot_put_ne (by decide)) (slot_put_ne (by decide)) (slot_put_ne (by decide)) (slot_put_ne (by decide)) (slot_put_ne (by decide)) (slot_put_ne (by decide))
    · have need := fun k hk => let ⟨e, he, hb, ho⟩ := waitsB_spec (k := k) hi hk; ho ▸ hall e he hb
      have n6 : listed.getD 6 false = true := need 6 (by kernel_rfl)
      obtain ⟨k6, n5⟩ := hJ.k6 n6
      have k6' : c.tmps[88]?.getD undef = slot c 88 := by simp [slot]
      rw [k6] at k6'
      cases hi
      refine wp_value (v := .agg #[.int .i64 ((regAt s1.rs 1).lim 0 65536).c0, .int .i64 ((regAt s1.rs 1).lim 0 65536).c1, .int .i64 ((regAt s1.rs 1).lim 0 65536).c2, .int .i64 ((regAt s1.rs 1).lim 0 65536).c3]) (u' := u) (by simp [go_sem, k6']) ⟨_, rfl, hJ.e.calm [], ?_⟩
      exact hJ.doY hunf (Ext.refl _) n5 (by rw [(slot_put_eq (by rw [hs158]; decide))]) (slot_put_ne (by decide)) (slot_put_ne (by decide)) (slot_put_ne (by decide)) (slot_put_ne (by decide)) (slot_put_ne (by decide)) (slot_put_ne (by decide))
    · cases hi
      refine wp_value (v := .pointer (some ⟨u.heap.size, 0, none⟩)) (u' := u.alloc (.cells #[.int .i64 0, .int .i64 0, .int .i64 0, .int .i64 0] 24)) (by unfold execOp; simp only [Sem.run_bind, mkA4' u, Result.andThen_ok, Sem.run_pure]) ⟨_, rfl, (hJ.e.alloc _ _).calm [], ?_⟩
      exact hJ.doA hunf ((Ext.refl u).alloc _ _) (by rw [(slot_put_eq (by rw [hs158]; decide))]) (Blk.new _ _ _) (slot_put_ne (by decide)) (slot_put_ne (by decide)) (slot_put_ne (by decide)) (slot_put_ne (by decide)) (slot_put_ne (by decide)) (slot_put_ne (by decide))
    · cases hi
      refine wp_value (v := .pointer (some ⟨u.heap.size, 0, none⟩)) (u' := u.alloc (.cells #[.int .i64 0, .int .i64 0, .int .i64 0, .int .i64 0] 24)) (by unfold execOp; simp only [Sem.run_bind, mkA4' u, Result.andThen_ok, Sem.run_pure]) ⟨_, rfl, (hJ.e.alloc _ _).calm [], ?_⟩
      exact hJ.doB hunf ((Ext.refl u).alloc _ _) (by rw [(slot_put_eq (by rw [hs158]; decide))]) (Blk.new _ _ _) (slot_put_ne (by decide)) (slot_put_ne (by decide)) (slot_put_ne (by decide)) (slot_put_ne (by decide)) (slot_put_ne (by decide)) (slot_put_ne (by decide))
    · have need := fun k hk => let ⟨e, he, hb, ho⟩ := waitsB_spec (k := k) hi hk; ho ▸ hall e he hb
      have na : listed.getD 9 false = true := need 9 (by kernel_rfl)
      obtain ⟨kv, n5⟩ := hJ.k7 (need 7 (by kernel_rfl))
      obtain ⟨g, hg, hwg, hbg⟩ := hJ.a na
      simp only [hunf, Bool.false_eq_true, if_false] at hbg
      cases hi
      refine wp_skip (u' := u.setRow g #[.int .i64 ((regAt s1.rs 0).lim (-4194304) 4194304).c0, .int .i64 ((regAt s1.rs 0).lim (-4194304) 4194304).c1, .int .i64 ((regAt s1.rs 0).lim (-4194304) 4194304).c2, .int .i64 ((regAt s1.rs 0).lim (-4194304) 4194304).c3]) (run_store_blk (T0 := 24) (T := 24) (p := .tmp 25) (x := .tmp 95) (b := g) (cs := #[.int .i64 ((regAt s1.rs 0).lim (-4194304) 4194304).c0, .int .i64 ((regAt s1.rs 0).lim (-4194304) 4194304).c1, .int .i64 ((regAt s1.rs 0).lim (-4194304) 4194304).c2, .int .i64 ((regAt s1.rs 0).lim (-4194304) 4194304).c3]) (z := #[.int .i64 0, .int .i64 0, .int .i64 0, .int .i64 0]) rfl (by rw [eval_slot]; exact hg) (by rw [eval_slot]; exact kv) (by kernel_rfl) (by kernel_rfl) rfl hbg) ⟨undef, rfl, (hJ.e.setRow hwg _).calm [], ?_⟩
      exact hJ.doS hunf n5 na g hg hwg hbg rfl rfl rfl rfl rfl rfl rfl rfl
    · have need := fun k hk => let ⟨e, he, hb, ho⟩ := waitsB_spec (k := k) hi hk; ho ▸ hall e he hb
      have na : listed.getD 10 false = true := need 10 (by kernel_rfl)
      obtain ⟨kv, n5⟩ := hJ.k8 (need 8 (by kernel_rfl))
      obtain ⟨g, hg, hwg, hbg⟩ := hJ.b na
      simp only [hunf, Bool.false_eq_true, if_false] at hbg
      cases hi
      refine wp_skip (u' := u.setRow g #[.int .i64 ((regAt s1.rs 1).lim 0 65536).c0, .int .i64 ((regAt s1.rs 1).lim 0 65536).c1, .int .i64 ((regAt s1.rs 1).lim 0 65536).c2, .int .i64 ((regAt s1.rs 1).lim 0 65536).c3]) (run_store_blk (T0 := 24) (T := 24) (p := .tmp 26) (x := .tmp 96) (b := g) (cs := #[.int .i64 ((regAt s1.rs 1).lim 0 65536).c0, .int .i64 ((regAt s1.rs 1).lim 0 65536).c1, .int .i64 ((regAt s1.rs 1).lim 0 65536).c2, .int .i64 ((regAt s1.rs 1).lim 0 65536).c3]) (z := #[.int .i64 0, .int .i64 0, .int .i64 0, .int .i64 0]) rfl (by rw [eval_slot]; exact hg) (by rw [eval_slot]; exact kv) (by kernel_rfl) (by kernel_rfl) rfl hbg) ⟨undef, rfl, (hJ.e.setRow hwg _).calm [], ?_⟩
      exact hJ.doU hunf n5 na g hg hwg hbg rfl rfl rfl rfl rfl rfl rfl rfl
  intro c w' hw hd hs hsl hJ
  have h1 : ∀ j, j < 13 → (Array.replicate 13 true).getD j false = true := fun j hj => by simp [hj]
  obtain ⟨g25, e25, _, B25⟩ := hJ.a (h1 9 (by omega))
  obtain ⟨g26, e26, _, B26⟩ := hJ.b (h1 10 (by omega))
  have B25' : Blk w' g25 #[.int .i64 ((regAt s1.rs 0).lim (-4194304) 4194304).c0, .int .i64 ((regAt s1.rs 0).lim (-4194304) 4194304).c1, .int .i64 ((regAt s1.rs 0).lim (-4194304) 4194304).c2, .int .i64 ((regAt s1.rs 0).lim (-4194304) 4194304).c3] 24 := (congrArg (fun z => Blk w' g25 z 24) (if_pos (h1 11 (by omega)))).mp B25
  have B26' : Blk w' g26 #[.int .i64 ((regAt s1.rs 1).lim 0 65536).c0, .int .i64 ((regAt s1.rs 1).lim 0 65536).c1, .int .i64 ((regAt s1.rs 1).lim 0 65536).c2, .int .i64 ((regAt s1.rs 1).lim 0 65536).c3] 24 := (congrArg (fun z => Blk w' g26 z 24) (if_pos (h1 12 (by omega)))).mp B26
  have hc := act_puts [90, 94, 88, 95, 96, 25, 26] hd hs hsl
  rw [hc]
  simp only [List.foldl_cons, List.foldl_nil, Act.put, List.setIfInBounds_toArray, List.set_cons_succ, List.set_cons_zero, e25, e26]
  exact HQ.out _ _ _ _ _ _ _ _ _ w' g25 g26 ⟨B25', B26', hw.ext⟩
end Go.Proofs.Ytellfhnfifgpoaa

