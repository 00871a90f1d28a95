/-
  DERIVED. A region of the law WireAny, walked apart.
-/
import Derived.Test.YtgmjfmmandbekaaWireAwake
import Derived.Test.YtgmjfmmandbekaaWireRdr6
import Derived.Test.YtgmjfmmandbekaaBytesArr
import Derived.Test.YtgmjfmmandbekaaParts
import Derived.Deep.RegionWith
import Derived.Deep.RegionHeld3
namespace Go.Proofs.Ytgmjfmmandbekaa
open Go.RowKit
set_option linter.unusedVariables false

/-- a part of a slice that came in -/
theorem Arr.sub {w : World} {b off n c : Nat} {xs : List Int} (h : Arr w .u8 (.slice (some ⟨b, off, none⟩) n c) xs) (K j : Nat) (hj : K + j ≤ xs.length) : Arr w .u8 (.slice (some ⟨b, off + K, none⟩) j (c - K)) ((xs.drop K).take j) := by
  obtain ⟨⟨ao, cap, e, h1, h2, h3⟩, h4, h5⟩ := h
  cases e
  have hlen : ((xs.drop K).take j).length = j := by simp; omega
  refine ⟨⟨_, c - K, by rw [hlen], by rw [hlen]; omega, fun hne => ?_, fun h => by cases h⟩, by rw [hlen]; omega, fun n hn => h5 n (List.mem_of_mem_drop (List.mem_of_mem_take hn))⟩
  have hx : xs ≠ [] := fun h => by subst h; simp at hne
  obtain ⟨b', off', e', hc⟩ := h2 hx
  cases e'
  refine ⟨b, off + K, rfl, fun i hi => ?_⟩
  rw [hlen] at hi
  rw [Nat.add_assoc, hc (K + i) (by omega)]
  congr 2
  simp [List.getD, hi, List.getElem?_drop]
set_option maxRecDepth 100000 in
set_option maxHeartbeats 4000000 in
theorem any_r29 (f1 f2 f3 f4 f5 f6 f8 f9 f11 f13 f14 f15 f16 f17 f18 f19 f20 f21 f22 f23 f24 f25 f26 f27 f28 f29 f30 f31 f32 f33 f34 f35 f36 f37 f38 f39 f40 f41 f42 f43 f44 f45 f46 f47 f48 f49 f50 f51 f52 f53 f54 f55 f56 f57 f58 f59 f60 f61 f62 f63 f64 f65 f66 f67 f68 f69 f70 f71 f72 f73 f74 f75 f76 f77 f78 f79 f80 f81 f82 f83 f84 f85 f86 f87 f88 f89 f90 f91 f92 f93 f94 f95 f96 f97 f98 f99 f100 f101 f102 f103 f104 f105 f106 f107 f108 f109 f110 f111 f112 f113 f114 f115 f116 f117 f118 f119 f120 f121 f122 f123 f124 f125 f126 f127 f128 f129 f130 f131 f132 f133 f134 f135 f136 f137 f138 : Value) (b off c pr pw K j : Nat) (xs : List Int) (hxl : xs.length ≤ 100) (hj : 0 < j) (hK : K + j ≤ xs.length) (B Bp : Nat) (Fr F : List Nat) (w : World) (A : Arr w .u8 (.slice (some ⟨b, off, none⟩) xs.length c) xs) (R : Rdr w B pr xs (K + j) 0 Fr) (Pn : Pen w Bp pw ((xs.drop K).take j) F) {Q : Exit → Act → World → Prop}
    (hQ : ∀ (c95 c96 c97 c98 c99 c100 c101 c102 c103 : Value) (wx : World), Ext w wx → Q .normal ⟨(Value.slice (some ⟨b, off, none⟩) xs.length c :: f1 :: f2 :: f3 :: f4 :: f5 :: f6 :: Value.pointer (some ⟨pr, 0, none⟩) :: f8 :: f9 :: Value.int .i64 K :: f11 :: Value.pointer (some ⟨pw, 0, none⟩) :: f13 :: f14 :: f15 :: f16 :: f17 :: f18 :: f19 :: f20 :: f21 :: f22 :: f23 :: f24 :: f25 :: f26 :: f27 :: f28 :: f29 :: f30 :: f31 :: f32 :: f33 :: f34 :: f35 :: f36 :: f37 :: f38 :: f39 :: f40 :: f41 :: f42 :: f43 :: f44 :: f45 :: f46 :: f47 :: f48 :: f49 :: f50 :: f51 :: f52 :: f53 :: f54 :: f55 :: f56 :: f57 :: f58 :: f59 :: f60 :: f61 :: f62 :: f63 :: f64 :: f65 :: f66 :: f67 :: f68 :: f69 :: f70 :: f71 :: f72 :: f73 :: f74 :: f75 :: f76 :: f77 :: f78 :: f79 :: f80 :: f81 :: f82 :: f83 :: f84 :: f85 :: f86 :: f87 :: f88 :: f89 :: f90 :: f91 :: f92 :: f93 :: f94 :: c95 :: c96 :: c97 :: c98 :: c99 :: c100 :: c101 :: c102 :: c103 :: Value.bool false :: f105 :: f106 :: f107 :: f108 :: f109 :: f110 :: f111 :: f112 :: f113 :: f114 :: f115 :: f116 :: f117 :: f118 :: f119 :: f120 :: f121 :: f122 :: f123 :: f124 :: f125 :: f126 :: f127 :: f128 :: f129 :: f130 :: f131 :: f132 :: f133 :: f134 :: f135 :: f136 :: f137 :: f138 :: List.nil).toArray, []⟩ wx) : Code.wp Try.prog (regionOf Try.f4 29) Q ⟨(Value.slice (some ⟨b, off, none⟩) xs.length c :: f1 :: f2 :: f3 :: f4 :: f5 :: f6 :: Value.pointer (some ⟨pr, 0, none⟩) :: f8 :: f9 :: Value.int .i64 K :: f11 :: Value.pointer (some ⟨pw, 0, none⟩) :: f13 :: f14 :: f15 :: f16 :: f17 :: f18 :: f19 :: f20 :: f21 :: f22 :: f23 :: f24 :: f25 :: f26 :: f27 :: f28 :: f29 :: f30 :: f31 :: f32 :: f33 :: f34 :: f35 :: f36 :: f37 :: f38 :: f39 :: f40 :: f41 :: f42 :: f43 :: f44 :: f45 :: f46 :: f47 :: f48 :: f49 :: f50 :: f51 :: f52 :: f53 :: f54 :: f55 :: f56 :: f57 :: f58 :: f59 :: f60 :: f61 :: f62 :: f63 :: f64 :: f65 :: f66 :: f67 :: f68 :: f69 :: f70 :: f71 :: f72 :: f73 :: f74 :: f75 :: f76 :: f77 :: f78 :: f79 :: f80 :: f81 :: f82 :: f83 :: f84 :: f85 :: f86 :: f87 :: f88 :: f89 :: f90 :: f91 :: f92 :: f93 :: f94 :: f95 :: f96 :: f97 :: f98 :: f99 :: f100 :: f101 :: f102 :: f103 :: f104 :: f105 :: f106 :: f107 :: f108 :: f109 :: f110 :: f111 :: f112 :: f113 :: f114 :: f115 :: f116 :: f117 :: f118 :: f119 :: f120 :: f121 :: f122 :: f123 :: f124 :: f125 :: f126 :: f127 :: f128 :: f129 :: f130 :: f131 :: f132 :: f133 :: f134 :: f135 :: f136 :: f137 :: f138 :: List.nil).toArray, []⟩ w := by
  change Code.wp Try.prog (Code.region _ _ true) _ _ _
  refine wp_region_noPanic ?_
  have hcap : xs.length ≤ c := by
    obtain ⟨⟨ao, cap, e, h1, _⟩, _, _⟩ := A
    cases e
    exact h1
  have hby : ∀ y ∈ (xs.drop K).take j, 0 ≤ y ∧ y ≤ 255 := fun y hy => A.bd y (List.mem_of_mem_drop (List.mem_of_mem_take hy))
  have hlen : ((xs.drop K).take j).length < 100000 := by simp; omega
  have A2 := A.sub K j hK
  have PE : ∀ w', Ext w w' → Pen w' Bp pw ((xs.drop K).take j) F := fun w' h => Pn.kept (h.calm []) (by simp)
  have RE : ∀ w', Ext w w' → Rdr w' B pr xs (K + j) 0 Fr := fun w' h => R.ext h
  have AE : ∀ w', Ext w w' → (convert 24 9 (.slice (some ⟨b, off + K, none⟩) j (c - K))).run Try.prog w' = .ok (.string (strOfNums ((xs.drop K).take j))) w' := fun w' h => (A2.ext h).str
  have hKi : (K : Int) ≤ (K : Int) + j := by omega
  have hKc : K < c := by omega
  clear A A2 R Pn
  generalize hpl : (xs.drop K).take j = pl at *
  clear hpl
  go_region_with (first | (go_at_call 14; refine (pen_bytes _ _ _ _ _ (PE _ (Ext.refl w).drew) hby hlen).mono ?_; rintro e w7 ⟨v7, rfl, o7, hx7⟩; have e7 := (Ext.refl w).drew.trans hx7; have k7 := AE w7 e7; have k7' := o7.str) | (go_at_call 21; refine (rd_at _ _ _ _ _ _ _ (RE _ e7)).mono ?_; rintro e w8 ⟨rfl, rfl⟩))
  all_goals exact NoPanic.normal (hQ _ _ _ _ _ _ _ _ _ _ e7)
end Go.Proofs.Ytgmjfmmandbekaa
