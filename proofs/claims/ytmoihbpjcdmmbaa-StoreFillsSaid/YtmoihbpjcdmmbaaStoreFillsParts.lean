/-
  DERIVED. A region of the law StoreFills, walked apart.
-/
import Derived.Test.YtmoihbpjcdmmbaaStoreBlock
import Derived.Test.YtmoihbpjcdmmbaaParts
import Derived.Deep.RegionWith
import Derived.Deep.RegionHeld3
import Derived.Deep.RegionHeldLaw
namespace Go.Proofs.Ytmoihbpjcdmmbaa
open Go.RowKit
set_option linter.unusedVariables false

theorem wrap_u8 (x : Int) : IntKind.u8.wrap x = x % 256 := rfl
set_option maxRecDepth 100000 in
set_option maxHeartbeats 4000000 in
theorem fills_r35 (f0 f1 f3 f4 f5 f6 f7 f8 f9 f10 f11 f12 f13 f14 f15 f16 f17 f18 f19 f23 f25 f26 f27 f28 f29 f30 f31 f32 f33 f34 f35 f36 f37 f38 f39 f40 f41 f42 f43 f44 f45 f46 f47 f48 f49 f50 f51 f52 f53 f54 f55 f56 f57 f58 f59 f60 f61 f62 f63 f64 f65 f66 f67 f68 f69 f70 f71 f72 f73 f74 f75 f76 f77 f78 f79 f80 f81 f82 f83 f84 f85 f86 f87 f88 f89 f90 f91 f92 f93 f94 f95 f96 f97 f98 f99 f100 f101 f102 f103 f104 f105 f106 f107 f108 f109 f110 f111 f112 f113 f114 f115 f116 f117 f118 f119 f120 f121 f122 f123 f124 f125 f126 f127 f128 f129 f130 f131 f132 f133 f134 f135 f136 f137 f138 f139 f140 f141 f142 f143 f144 f145 f146 f147 f148 f149 f150 f151 f152 f153 f154 f155 f156 f157 f158 f159 f160 f161 f162 f163 f164 f165 f166 f167 f168 : Value) (seed : Int) (a : Nat) (v : Value) (hm1 : (seed + (a : Int)) % 256 < 256) (hm0 : 0 ≤ (seed + (a : Int)) % 256) (w : World) (base : Nat) (o12 : Own w base v (blkL ((seed + (a : Int)) % 256) 64)) {Q : Exit → Act → World → Prop}
    (hQ : ∀ (c142 c143 c144 c145 c146 c147 c148 c149 c150 c151 c152 c153 c154 c155 c156 c157 : Value) (wx : World), Ext w wx → Q .normal ⟨(f0 :: f1 :: Value.int .u8 seed :: f3 :: f4 :: f5 :: f6 :: f7 :: f8 :: f9 :: f10 :: f11 :: f12 :: f13 :: f14 :: f15 :: f16 :: f17 :: f18 :: f19 :: Value.int .i64 (a : Int) :: v :: Value.int .i64 0 :: f23 :: Value.int .i64 9 :: f25 :: f26 :: f27 :: f28 :: f29 :: f30 :: f31 :: f32 :: f33 :: f34 :: f35 :: f36 :: f37 :: f38 :: f39 :: f40 :: f41 :: f42 :: f43 :: f44 :: f45 :: f46 :: f47 :: f48 :: f49 :: f50 :: f51 :: f52 :: f53 :: f54 :: f55 :: f56 :: f57 :: f58 :: f59 :: f60 :: f61 :: f62 :: f63 :: f64 :: f65 :: f66 :: f67 :: f68 :: f69 :: f70 :: f71 :: f72 :: f73 :: f74 :: f75 :: f76 :: f77 :: f78 :: f79 :: f80 :: f81 :: f82 :: f83 :: f84 :: f85 :: f86 :: f87 :: f88 :: f89 :: f90 :: f91 :: f92 :: f93 :: f94 :: f95 :: f96 :: f97 :: f98 :: f99 :: f100 :: f101 :: f102 :: f103 :: f104 :: f105 :: f106 :: f107 :: f108 :: f109 :: f110 :: f111 :: f112 :: f113 :: f114 :: f115 :: f116 :: f117 :: f118 :: f119 :: f120 :: f121 :: f122 :: f123 :: f124 :: f125 :: f126 :: f127 :: f128 :: f129 :: f130 :: f131 :: f132 :: f133 :: f134 :: f135 :: f136 :: f137 :: f138 :: f139 :: f140 :: f141 :: c142 :: c143 :: c144 :: c145 :: c146 :: c147 :: c148 :: c149 :: c150 :: c151 :: c152 :: c153 :: c154 :: c155 :: c156 :: c157 :: Value.bool false :: f159 :: f160 :: f161 :: f162 :: f163 :: f164 :: f165 :: f166 :: f167 :: f168 :: List.nil).toArray, []⟩ wx) : Code.wp Try.prog (regionOf Try.f6 35) Q ⟨(f0 :: f1 :: Value.int .u8 seed :: f3 :: f4 :: f5 :: f6 :: f7 :: f8 :: f9 :: f10 :: f11 :: f12 :: f13 :: f14 :: f15 :: f16 :: f17 :: f18 :: f19 :: Value.int .i64 (a : Int) :: v :: Value.int .i64 0 :: f23 :: Value.int .i64 9 :: f25 :: f26 :: f27 :: f28 :: f29 :: f30 :: f31 :: f32 :: f33 :: f34 :: f35 :: f36 :: f37 :: f38 :: f39 :: f40 :: f41 :: f42 :: f43 :: f44 :: f45 :: f46 :: f47 :: f48 :: f49 :: f50 :: f51 :: f52 :: f53 :: f54 :: f55 :: f56 :: f57 :: f58 :: f59 :: f60 :: f61 :: f62 :: f63 :: f64 :: f65 :: f66 :: f67 :: f68 :: f69 :: f70 :: f71 :: f72 :: f73 :: f74 :: f75 :: f76 :: f77 :: f78 :: f79 :: f80 :: f81 :: f82 :: f83 :: f84 :: f85 :: f86 :: f87 :: f88 :: f89 :: f90 :: f91 :: f92 :: f93 :: f94 :: f95 :: f96 :: f97 :: f98 :: f99 :: f100 :: f101 :: f102 :: f103 :: f104 :: f105 :: f106 :: f107 :: f108 :: f109 :: f110 :: f111 :: f112 :: f113 :: f114 :: f115 :: f116 :: f117 :: f118 :: f119 :: f120 :: f121 :: f122 :: f123 :: f124 :: f125 :: f126 :: f127 :: f128 :: f129 :: f130 :: f131 :: f132 :: f133 :: f134 :: f135 :: f136 :: f137 :: f138 :: f139 :: f140 :: f141 :: f142 :: f143 :: f144 :: f145 :: f146 :: f147 :: f148 :: f149 :: f150 :: f151 :: f152 :: f153 :: f154 :: f155 :: f156 :: f157 :: f158 :: f159 :: f160 :: f161 :: f162 :: f163 :: f164 :: f165 :: f166 :: f167 :: f168 :: List.nil).toArray, []⟩ w := by
  change Code.wp Try.prog (Code.region _ _ true) _ _ _
  refine wp_region_noPanic ?_
  have s12 := (o12.ext (Ext.refl w).drew).str
  have hwr : IntKind.u8.wrap (seed + IntKind.u8.wrap (a : Int)) = (seed + (a : Int)) % 256 := by rw [wrap_u8, wrap_u8]; omega
  have hwb : 0 ≤ IntKind.u8.wrap (seed + IntKind.u8.wrap (a : Int)) ∧ IntKind.u8.wrap (seed + IntKind.u8.wrap (a : Int)) ≤ 255 := by rw [hwr]; omega
  have HWR := Lib.hid hwr
  clear hwr
  go_region_held (fun w' => (convert 22 9 v).run Try.prog w' = .ok (.string (strOfNums (blkL ((seed + (a : Int)) % 256) 64))) w') (first | assumption)
    (first | (go_at_call 9; refine (block_any _ _ hwb false).mono ?_; rintro e w14 ⟨v14, rfl, o14, x14⟩; rw [HWR.out] at o14; have o14' : Own w14 _ v14 (blkL ((seed + (a : Int)) % 256) 64) := o14; have s14 := o14'.str; have s15 := (o12.ext ((Ext.refl w).drew.trans x14)).str))
  all_goals exact NoPanic.normal (hQ _ _ _ _ _ _ _ _ _ _ _ _ _ _ _ _ _ ((Ext.refl w).drew.trans x14))
end Go.Proofs.Ytmoihbpjcdmmbaa
