/-
  DERIVED. THE WALKS of the law's Bytes: the regions that draw their order (made by mkscrbytes.py).
-/
import Derived.Test.YtbbfmlehddfneaaGreatPkBuf
import Derived.Test.YtbbfmlehddfneaaGreatPkFix
import Derived.Test.YtbbfmlehddfneaaGreatPkIsa
import Derived.Lib.Hide
namespace Go.Proofs.YtbbfmlehddfneaaGreat
open Go.RowKit
set_option linter.unusedVariables false
set_option maxRecDepth 100000 in
set_option maxHeartbeats 4000000 in
theorem byt_r2 (f0 f2 f4 f5 f6 f7 f8 f9 f10 f11 f12 f13 f14 f15 f16 f17 f18 f19 f20 f21 f22 f23 f24 f25 f26 f27 f28 f29 f30 f31 f32 f33 f34 f35 f36 f37 f38 f39 f40 f41 f42 f43 f44 f45 f46 f47 f48 f49 f50 f51 f52 f53 f54 f55 f56 f57 f58 f59 f60 f61 f62 f63 f64 f65 f66 f67 f68 f69 f70 f71 f72 f73 f74 f75 f76 f77 f78 f79 f80 f81 f82 f83 f84 f85 f86 f87 f88 f89 f90 f91 f92 f93 f94 f95 f96 f97 f98 f99 f100 f101 f102 f103 f104 f105 f106 f107 f108 f109 f110 f111 f112 f113 f114 f115 f116 f117 f118 f119 f120 f121 f122 f123 f124 f125 f126 f127 f128 f129 f130 f131 f132 f133 f134 f135 f136 f137 f138 f139 f140 f141 f142 f143 f144 f145 f146 f147 f148 f149 f150 f151 f152 f153 f154 f155 f156 f157 f158 f159 f160 f161 f162 f163 f164 f165 f166 f167 f168 f169 f170 f171 f172 f173 f174 f175 f176 f177 f178 f179 f180 f181 f182 f183 f184 f185 f186 f187 f188 f189 : Value) (b0 : Nat) (z0 z2 z3 z4 z5 z6 z7 z8 z9 z10 z11 z12 z13 z14 z15 z16 z17 z18 z19 z20 z21 : Value) (n : Nat) (w : World) (base p : Nat) (l : List Int) (F : List Nat) (hP : Buf w base p l F) (hl : l.length ≤ 800000) (hn : n ≤ 9223372036854775807) (B0 : Blk w b0 #[z0, .int .i64 n, z2, z3, z4, z5, z6, z7, z8, z9, z10, z11, z12, z13, z14, z15, z16, z17, z18, z19, z20, z21] 38) (hn0 : b0 ∉ F) {Q : Exit → Act → World → Prop}
    (hQ : ∀ (c28 c29 c30 c31 c32 c33 : Value) (F' : List Nat) (wx : World), Buf wx base p (l ++ leb n) F' → Step F F' w wx → Q .normal ⟨(f0 :: Value.pointer (some ⟨b0, 0, none⟩) :: f2 :: Value.pointer (some ⟨p, 0, none⟩) :: f4 :: f5 :: f6 :: f7 :: f8 :: f9 :: f10 :: f11 :: f12 :: f13 :: f14 :: f15 :: f16 :: f17 :: f18 :: f19 :: f20 :: f21 :: f22 :: f23 :: f24 :: f25 :: f26 :: f27 :: c28 :: c29 :: c30 :: c31 :: c32 :: c33 :: f34 :: f35 :: f36 :: f37 :: f38 :: f39 :: f40 :: f41 :: f42 :: f43 :: f44 :: f45 :: f46 :: f47 :: f48 :: f49 :: f50 :: f51 :: f52 :: f53 :: f54 :: f55 :: f56 :: f57 :: f58 :: f59 :: f60 :: f61 :: f62 :: f63 :: f64 :: f65 :: f66 :: f67 :: f68 :: f69 :: f70 :: f71 :: f72 :: f73 :: f74 :: f75 :: f76 :: f77 :: f78 :: f79 :: f80 :: f81 :: f82 :: f83 :: f84 :: f85 :: f86 :: f87 :: f88 :: f89 :: f90 :: f91 :: f92 :: f93 :: f94 :: f95 :: f96 :: f97 :: f98 :: f99 :: f100 :: f101 :: f102 :: f103 :: f104 :: f105 :: f106 :: f107 :: f108 :: f109 :: f110 :: f111 :: f112 :: f113 :: f114 :: f115 :: f116 :: f117 :: f118 :: f119 :: f120 :: f121 :: f122 :: f123 :: f124 :: f125 :: f126 :: f127 :: f128 :: f129 :: f130 :: f131 :: f132 :: f133 :: f134 :: f135 :: f136 :: f137 :: f138 :: f139 :: f140 :: f141 :: f142 :: f143 :: f144 :: f145 :: f146 :: f147 :: f148 :: f149 :: f150 :: f151 :: f152 :: f153 :: f154 :: f155 :: f156 :: f157 :: f158 :: f159 :: f160 :: f161 :: f162 :: f163 :: f164 :: f165 :: f166 :: f167 :: f168 :: f169 :: f170 :: f171 :: f172 :: f173 :: f174 :: f175 :: f176 :: f177 :: f178 :: f179 :: f180 :: f181 :: f182 :: f183 :: f184 :: f185 :: f186 :: f187 :: f188 :: f189 :: List.nil).toArray, []⟩ wx) :
    Code.wp Tryz.prog (regionOf Tryz.f11 2) Q ⟨(f0 :: Value.pointer (some ⟨b0, 0, none⟩) :: f2 :: Value.pointer (some ⟨p, 0, none⟩) :: f4 :: f5 :: f6 :: f7 :: f8 :: f9 :: f10 :: f11 :: f12 :: f13 :: f14 :: f15 :: f16 :: f17 :: f18 :: f19 :: f20 :: f21 :: f22 :: f23 :: f24 :: f25 :: f26 :: f27 :: f28 :: f29 :: f30 :: f31 :: f32 :: f33 :: f34 :: f35 :: f36 :: f37 :: f38 :: f39 :: f40 :: f41 :: f42 :: f43 :: f44 :: f45 :: f46 :: f47 :: f48 :: f49 :: f50 :: f51 :: f52 :: f53 :: f54 :: f55 :: f56 :: f57 :: f58 :: f59 :: f60 :: f61 :: f62 :: f63 :: f64 :: f65 :: f66 :: f67 :: f68 :: f69 :: f70 :: f71 :: f72 :: f73 :: f74 :: f75 :: f76 :: f77 :: f78 :: f79 :: f80 :: f81 :: f82 :: f83 :: f84 :: f85 :: f86 :: f87 :: f88 :: f89 :: f90 :: f91 :: f92 :: f93 :: f94 :: f95 :: f96 :: f97 :: f98 :: f99 :: f100 :: f101 :: f102 :: f103 :: f104 :: f105 :: f106 :: f107 :: f108 :: f109 :: f110 :: f111 :: f112 :: f113 :: f114 :: f115 :: f116 :: f117 :: f118 :: f119 :: f120 :: f121 :: f122 :: f123 :: f124 :: f125 :: f126 :: f127 :: f128 :: f129 :: f130 :: f131 :: f132 :: f133 :: f134 :: f135 :: f136 :: f137 :: f138 :: f139 :: f140 :: f141 :: f142 :: f143 :: f144 :: f145 :: f146 :: f147 :: f148 :: f149 :: f150 :: f151 :: f152 :: f153 :: f154 :: f155 :: f156 :: f157 :: f158 :: f159 :: f160 :: f161 :: f162 :: f163 :: f164 :: f165 :: f166 :: f167 :: f168 :: f169 :: f170 :: f171 :: f172 :: f173 :: f174 :: f175 :: f176 :: f177 :: f178 :: f179 :: f180 :: f181 :: f182 :: f183 :: f184 :: f185 :: f186 :: f187 :: f188 :: f189 :: List.nil).toArray, []⟩ w := by
  obtain ⟨v, hB, hO, hbp, rfl, hne⟩ := hP
  obtain ⟨ao, cc, rfl, -, -⟩ := hO.slice
  have nb : p ∉ (Value.slice ao l.length cc).ownBlock.toList := fun h => hne p (Option.mem_toList.1 h) rfl
  have hbw : base ≤ w.heap.size := by have := hB.lt; omega
  have HQ := Lib.hid hQ
  clear hQ
  change Code.wp Tryz.prog (Code.region _ _ true) _ _ _
  apply wp_region_last 8 [false, false, false, false, true, true, true] [32, 33] (Value.slice ao l.length cc).ownBlock.toList (p :: (Value.slice ao l.length cc).ownBlock.toList) _ (by kernel_rfl) (by kernel_rfl) (by kernel_rfl) (by kernel_rfl)
  case H =>
    intro y0 hy0
    have hne : Nonempty (Wx y0) := ⟨⟨y0, Ext.refl y0⟩⟩
    have q0 := fun (y : Wx y0) => ((hB.calm hy0 nb).ext y.ext).cell
    have q1 := fun (y : Wx y0) => ((B0.calm hy0 (fun h => hn0 (List.mem_cons_of_mem _ h))).ext y.ext).cell
    have hnw : IntKind.u64.wrap (n : Int) = (n : Int) := by rw [IntKind.wrap_u64]; omega
    simp only [eraseM]
    repeat (go_big_quiet_step (fail))
    exact wpQuiet_nil rfl
  case hF => rfl
  case T =>
    have hlp : 0 < (leb n).length := leb_pos _
    have hl10 := leb_len10 (n := n) (by omega)
    change tailL _ _ _ _ _ [_, _, _] _ _
    refine fun u x0 hc => gives_enter (f := 29) (args := #[.int .u64 (n : Int)]) (by simp [go_sem]) (rcount_any n u (by omega)) ?_
    rintro e v6 ⟨vb, rfl, ob, x6⟩
    obtain ⟨g, bc, rfl, hcell⟩ := Own.some' ob hlp
    have hc6 := hc.trans (x6.calm _)
    refine ⟨_, rfl, hc6.sub (fun b hb => List.mem_cons_of_mem _ hb), fun _ => hc6, ?_⟩
    refine tailL_app (m := leb n) (g := g) (off := 0) (mc := bc) (t := 33) (Cur.start hO (x0.trans x6)) hbw rfl rfl rfl rfl hcell (by omega) fun v' w' hC => ?_
    refine tailL_st hB hbp hne hC rfl rfl rfl rfl fun u' hB' hS' => ?_
    exact HQ.out _ _ _ _ _ _ _ _ hB' hS'
set_option maxRecDepth 100000 in
set_option maxHeartbeats 4000000 in
theorem byt_r38 (f0 f1 f2 f4 f5 f6 f7 f8 f9 f10 f11 f12 f13 f14 f15 f16 f17 f19 f20 f21 f22 f23 f24 f25 f26 f27 f28 f29 f30 f31 f32 f33 f34 f35 f36 f37 f38 f39 f40 f41 f42 f43 f44 f45 f46 f47 f48 f49 f50 f51 f52 f53 f54 f55 f56 f57 f58 f59 f60 f61 f62 f63 f64 f65 f66 f67 f68 f69 f70 f71 f72 f73 f74 f75 f76 f77 f78 f79 f80 f81 f82 f83 f84 f85 f86 f87 f88 f89 f90 f91 f92 f93 f94 f95 f96 f97 f98 f99 f100 f101 f102 f103 f104 f105 f106 f107 f108 f109 f110 f111 f112 f113 f114 f115 f116 f117 f118 f119 f120 f121 f122 f123 f124 f125 f126 f127 f128 f129 f130 f131 f132 f133 f134 f135 f136 f137 f138 f139 f140 f141 f142 f143 f144 f145 f146 f147 f148 f149 f150 f151 f152 f153 f154 f155 f156 f157 f158 f159 f160 f161 f162 f163 f164 f165 f166 f167 f168 f169 f170 f171 f172 f173 f174 f175 f176 f177 f178 f179 f180 f181 f182 f183 f184 f185 f186 f187 f188 f189 : Value) (pw bw : Nat) (m : List Int) (Fw : List Nat) (w : World) (base p : Nat) (l : List Int) (F : List Nat) (hP : Buf w base p l F) (hl : l.length ≤ 800000) (hW : Pen w bw pw m Fw) (hWb : ∀ y ∈ m, 0 ≤ y ∧ y ≤ 255) (hlp : 0 < m.length) (hWl : m.length < 1000) {Q : Exit → Act → World → Prop}
    (hQ : ∀ (c133 c134 c135 c136 : Value) (F' : List Nat) (wx : World), Buf wx base p (l ++ m) F' → Step F F' w wx → Q .normal ⟨(f0 :: f1 :: f2 :: Value.pointer (some ⟨p, 0, none⟩) :: f4 :: f5 :: f6 :: f7 :: f8 :: f9 :: f10 :: f11 :: f12 :: f13 :: f14 :: f15 :: f16 :: f17 :: Value.pointer (some ⟨pw, 0, none⟩) :: f19 :: f20 :: f21 :: f22 :: f23 :: f24 :: f25 :: f26 :: f27 :: f28 :: f29 :: f30 :: f31 :: f32 :: f33 :: f34 :: f35 :: f36 :: f37 :: f38 :: f39 :: f40 :: f41 :: f42 :: f43 :: f44 :: f45 :: f46 :: f47 :: f48 :: f49 :: f50 :: f51 :: f52 :: f53 :: f54 :: f55 :: f56 :: f57 :: f58 :: f59 :: f60 :: f61 :: f62 :: f63 :: f64 :: f65 :: f66 :: f67 :: f68 :: f69 :: f70 :: f71 :: f72 :: f73 :: f74 :: f75 :: f76 :: f77 :: f78 :: f79 :: f80 :: f81 :: f82 :: f83 :: f84 :: f85 :: f86 :: f87 :: f88 :: f89 :: f90 :: f91 :: f92 :: f93 :: f94 :: f95 :: f96 :: f97 :: f98 :: f99 :: f100 :: f101 :: f102 :: f103 :: f104 :: f105 :: f106 :: f107 :: f108 :: f109 :: f110 :: f111 :: f112 :: f113 :: f114 :: f115 :: f116 :: f117 :: f118 :: f119 :: f120 :: f121 :: f122 :: f123 :: f124 :: f125 :: f126 :: f127 :: f128 :: f129 :: f130 :: f131 :: f132 :: c133 :: c134 :: c135 :: c136 :: f137 :: f138 :: f139 :: f140 :: f141 :: f142 :: f143 :: f144 :: f145 :: f146 :: f147 :: f148 :: f149 :: f150 :: f151 :: f152 :: f153 :: f154 :: f155 :: f156 :: f157 :: f158 :: f159 :: f160 :: f161 :: f162 :: f163 :: f164 :: f165 :: f166 :: f167 :: f168 :: f169 :: f170 :: f171 :: f172 :: f173 :: f174 :: f175 :: f176 :: f177 :: f178 :: f179 :: f180 :: f181 :: f182 :: f183 :: f184 :: f185 :: f186 :: f187 :: f188 :: f189 :: List.nil).toArray, []⟩ wx) :
    Code.wp Tryz.prog (regionOf Tryz.f11 38) Q ⟨(f0 :: f1 :: f2 :: Value.pointer (some ⟨p, 0, none⟩) :: f4 :: f5 :: f6 :: f7 :: f8 :: f9 :: f10 :: f11 :: f12 :: f13 :: f14 :: f15 :: f16 :: f17 :: Value.pointer (some ⟨pw, 0, none⟩) :: f19 :: f20 :: f21 :: f22 :: f23 :: f24 :: f25 :: f26 :: f27 :: f28 :: f29 :: f30 :: f31 :: f32 :: f33 :: f34 :: f35 :: f36 :: f37 :: f38 :: f39 :: f40 :: f41 :: f42 :: f43 :: f44 :: f45 :: f46 :: f47 :: f48 :: f49 :: f50 :: f51 :: f52 :: f53 :: f54 :: f55 :: f56 :: f57 :: f58 :: f59 :: f60 :: f61 :: f62 :: f63 :: f64 :: f65 :: f66 :: f67 :: f68 :: f69 :: f70 :: f71 :: f72 :: f73 :: f74 :: f75 :: f76 :: f77 :: f78 :: f79 :: f80 :: f81 :: f82 :: f83 :: f84 :: f85 :: f86 :: f87 :: f88 :: f89 :: f90 :: f91 :: f92 :: f93 :: f94 :: f95 :: f96 :: f97 :: f98 :: f99 :: f100 :: f101 :: f102 :: f103 :: f104 :: f105 :: f106 :: f107 :: f108 :: f109 :: f110 :: f111 :: f112 :: f113 :: f114 :: f115 :: f116 :: f117 :: f118 :: f119 :: f120 :: f121 :: f122 :: f123 :: f124 :: f125 :: f126 :: f127 :: f128 :: f129 :: f130 :: f131 :: f132 :: f133 :: f134 :: f135 :: f136 :: f137 :: f138 :: f139 :: f140 :: f141 :: f142 :: f143 :: f144 :: f145 :: f146 :: f147 :: f148 :: f149 :: f150 :: f151 :: f152 :: f153 :: f154 :: f155 :: f156 :: f157 :: f158 :: f159 :: f160 :: f161 :: f162 :: f163 :: f164 :: f165 :: f166 :: f167 :: f168 :: f169 :: f170 :: f171 :: f172 :: f173 :: f174 :: f175 :: f176 :: f177 :: f178 :: f179 :: f180 :: f181 :: f182 :: f183 :: f184 :: f185 :: f186 :: f187 :: f188 :: f189 :: List.nil).toArray, []⟩ w := by
  obtain ⟨v, hB, hO, hbp, rfl, hne⟩ := hP
  obtain ⟨ao, cc, rfl, -, -⟩ := hO.slice
  have nb : p ∉ (Value.slice ao l.length cc).ownBlock.toList := fun h => hne p (Option.mem_toList.1 h) rfl
  have hbw : base ≤ w.heap.size := by have := hB.lt; omega
  have HQ := Lib.hid hQ
  clear hQ
  change Code.wp Tryz.prog (Code.region _ _ true) _ _ _
  apply wp_region_last 8 [false, false, true, true, true] [135, 136] (Value.slice ao l.length cc).ownBlock.toList (p :: (Value.slice ao l.length cc).ownBlock.toList) _ (by kernel_rfl) (by kernel_rfl) (by kernel_rfl) (by kernel_rfl)
  case H =>
    intro y0 hy0
    have hne : Nonempty (Wx y0) := ⟨⟨y0, Ext.refl y0⟩⟩
    have q0 := fun (y : Wx y0) => ((hB.calm hy0 nb).ext y.ext).cell
    simp only [eraseM]
    repeat (go_big_quiet_step (fail))
    exact wpQuiet_nil rfl
  case hF => rfl
  case T =>
    change tailL _ _ _ _ _ [_, _, _] _ _
    refine fun u x0 hc => gives_enter (f := 18) (args := #[.pointer (some ⟨pw, 0, none⟩)]) (by simp [go_sem]) (pen_bytes u _ _ _ _ (hW.ext x0) hWb (by omega)) ?_
    rintro e v6 ⟨vb, rfl, ob, x6⟩
    obtain ⟨g, bc, rfl, hcell⟩ := Own.some' ob hlp
    have hc6 := hc.trans (x6.calm _)
    refine ⟨_, rfl, hc6.sub (fun b hb => List.mem_cons_of_mem _ hb), fun _ => hc6, ?_⟩
    refine tailL_app (m := m) (g := g) (off := 0) (mc := bc) (t := 136) (Cur.start hO (x0.trans x6)) hbw rfl rfl rfl rfl hcell (by omega) fun v' w' hC => ?_
    refine tailL_st hB hbp hne hC rfl rfl rfl rfl fun u' hB' hS' => ?_
    exact HQ.out _ _ _ _ _ _ hB' hS'
set_option maxRecDepth 100000 in
set_option maxHeartbeats 4000000 in
theorem byt_r28 (f0 f1 f2 f4 f5 f6 f7 f8 f9 f10 f11 f12 f13 f14 f16 f17 f18 f19 f20 f21 f22 f23 f24 f25 f26 f27 f28 f29 f30 f31 f32 f33 f34 f35 f36 f37 f38 f39 f40 f41 f42 f43 f44 f45 f46 f47 f48 f49 f50 f51 f52 f53 f54 f55 f56 f57 f58 f59 f60 f61 f62 f63 f64 f65 f66 f67 f68 f69 f70 f71 f72 f73 f74 f75 f76 f77 f78 f79 f80 f81 f82 f83 f84 f85 f86 f87 f88 f89 f90 f91 f92 f93 f94 f95 f96 f97 f98 f99 f100 f101 f102 f103 f104 f105 f106 f107 f108 f109 f110 f111 f112 f113 f114 f115 f116 f117 f118 f119 f120 f121 f122 f123 f124 f125 f126 f127 f128 f129 f130 f131 f132 f133 f134 f135 f136 f137 f138 f139 f140 f141 f142 f143 f144 f145 f146 f147 f148 f149 f150 f151 f152 f153 f154 f155 f156 f157 f158 f159 f160 f161 f162 f163 f164 f165 f166 f167 f168 f169 f170 f171 f172 f173 f174 f175 f176 f177 f178 f179 f180 f181 f182 f183 f184 f185 f186 f187 f188 f189 : Value) (b15 : Nat) (x : In) (w : World) (base p : Nat) (l : List Int) (F : List Nat) (hP : Buf w base p l F) (hl : l.length ≤ 800000) (B15 : Blk w b15 x.cells.toArray 54) (hx : x.ok) (hn0 : b15 ∉ F) {Q : Exit → Act → World → Prop}
    (hQ : ∀ (c96 c97 c98 c99 c100 c101 c102 c103 c104 c105 c106 c107 c108 c109 c110 c111 : Value) (F' : List Nat) (wx : World), Buf wx base p (l ++ encI x) F' → Step F F' w wx → Q .normal ⟨(f0 :: f1 :: f2 :: Value.pointer (some ⟨p, 0, none⟩) :: f4 :: f5 :: f6 :: f7 :: f8 :: f9 :: f10 :: f11 :: f12 :: f13 :: f14 :: Value.pointer (some ⟨b15, 0, none⟩) :: f16 :: f17 :: f18 :: f19 :: f20 :: f21 :: f22 :: f23 :: f24 :: f25 :: f26 :: f27 :: f28 :: f29 :: f30 :: f31 :: f32 :: f33 :: f34 :: f35 :: f36 :: f37 :: f38 :: f39 :: f40 :: f41 :: f42 :: f43 :: f44 :: f45 :: f46 :: f47 :: f48 :: f49 :: f50 :: f51 :: f52 :: f53 :: f54 :: f55 :: f56 :: f57 :: f58 :: f59 :: f60 :: f61 :: f62 :: f63 :: f64 :: f65 :: f66 :: f67 :: f68 :: f69 :: f70 :: f71 :: f72 :: f73 :: f74 :: f75 :: f76 :: f77 :: f78 :: f79 :: f80 :: f81 :: f82 :: f83 :: f84 :: f85 :: f86 :: f87 :: f88 :: f89 :: f90 :: f91 :: f92 :: f93 :: f94 :: f95 :: c96 :: c97 :: c98 :: c99 :: c100 :: c101 :: c102 :: c103 :: c104 :: c105 :: c106 :: c107 :: c108 :: c109 :: c110 :: c111 :: f112 :: f113 :: f114 :: f115 :: f116 :: f117 :: f118 :: f119 :: f120 :: f121 :: f122 :: f123 :: f124 :: f125 :: f126 :: f127 :: f128 :: f129 :: f130 :: f131 :: f132 :: f133 :: f134 :: f135 :: f136 :: f137 :: f138 :: f139 :: f140 :: f141 :: f142 :: f143 :: f144 :: f145 :: f146 :: f147 :: f148 :: f149 :: f150 :: f151 :: f152 :: f153 :: f154 :: f155 :: f156 :: f157 :: f158 :: f159 :: f160 :: f161 :: f162 :: f163 :: f164 :: f165 :: f166 :: f167 :: f168 :: f169 :: f170 :: f171 :: f172 :: f173 :: f174 :: f175 :: f176 :: f177 :: f178 :: f179 :: f180 :: f181 :: f182 :: f183 :: f184 :: f185 :: f186 :: f187 :: f188 :: f189 :: List.nil).toArray, []⟩ wx) :
    Code.wp Tryz.prog (regionOf Tryz.f11 28) Q ⟨(f0 :: f1 :: f2 :: Value.pointer (some ⟨p, 0, none⟩) :: f4 :: f5 :: f6 :: f7 :: f8 :: f9 :: f10 :: f11 :: f12 :: f13 :: f14 :: Value.pointer (some ⟨b15, 0, none⟩) :: f16 :: f17 :: f18 :: f19 :: f20 :: f21 :: f22 :: f23 :: f24 :: f25 :: f26 :: f27 :: f28 :: f29 :: f30 :: f31 :: f32 :: f33 :: f34 :: f35 :: f36 :: f37 :: f38 :: f39 :: f40 :: f41 :: f42 :: f43 :: f44 :: f45 :: f46 :: f47 :: f48 :: f49 :: f50 :: f51 :: f52 :: f53 :: f54 :: f55 :: f56 :: f57 :: f58 :: f59 :: f60 :: f61 :: f62 :: f63 :: f64 :: f65 :: f66 :: f67 :: f68 :: f69 :: f70 :: f71 :: f72 :: f73 :: f74 :: f75 :: f76 :: f77 :: f78 :: f79 :: f80 :: f81 :: f82 :: f83 :: f84 :: f85 :: f86 :: f87 :: f88 :: f89 :: f90 :: f91 :: f92 :: f93 :: f94 :: f95 :: f96 :: f97 :: f98 :: f99 :: f100 :: f101 :: f102 :: f103 :: f104 :: f105 :: f106 :: f107 :: f108 :: f109 :: f110 :: f111 :: f112 :: f113 :: f114 :: f115 :: f116 :: f117 :: f118 :: f119 :: f120 :: f121 :: f122 :: f123 :: f124 :: f125 :: f126 :: f127 :: f128 :: f129 :: f130 :: f131 :: f132 :: f133 :: f134 :: f135 :: f136 :: f137 :: f138 :: f139 :: f140 :: f141 :: f142 :: f143 :: f144 :: f145 :: f146 :: f147 :: f148 :: f149 :: f150 :: f151 :: f152 :: f153 :: f154 :: f155 :: f156 :: f157 :: f158 :: f159 :: f160 :: f161 :: f162 :: f163 :: f164 :: f165 :: f166 :: f167 :: f168 :: f169 :: f170 :: f171 :: f172 :: f173 :: f174 :: f175 :: f176 :: f177 :: f178 :: f179 :: f180 :: f181 :: f182 :: f183 :: f184 :: f185 :: f186 :: f187 :: f188 :: f189 :: List.nil).toArray, []⟩ w := by
  obtain ⟨op, dst, xa, xb, imm⟩ := x
  obtain ⟨h1, h2, h3, h4, h5⟩ := hx
  simp only at h1 h2 h3 h4 h5
  obtain ⟨v, hB, hO, hbp, rfl, hne⟩ := hP
  obtain ⟨ao, cc, rfl, -, -⟩ := hO.slice
  have nb : p ∉ (Value.slice ao l.length cc).ownBlock.toList := fun h => hne p (Option.mem_toList.1 h) rfl
  have hbw : base ≤ w.heap.size := by have := hB.lt; omega
  have HQ := Lib.hid hQ
  clear hQ
  change Code.wp Tryz.prog (Code.region _ _ true) _ _ _
  apply wp_region_last 8 [false, false, false, false, false, false, false, false, false, true, true, false, false, false, true, true, true] [105, 106, 110, 111] (Value.slice ao l.length cc).ownBlock.toList (p :: (Value.slice ao l.length cc).ownBlock.toList) _ (by kernel_rfl) (by kernel_rfl) (by kernel_rfl) (by kernel_rfl)
  case H =>
    intro y0 hy0
    have hne : Nonempty (Wx y0) := ⟨⟨y0, Ext.refl y0⟩⟩
    have q0 := fun (y : Wx y0) => ((hB.calm hy0 nb).ext y.ext).cell
    have q1 := fun (y : Wx y0) => ((B15.calm hy0 (fun h => hn0 (List.mem_cons_of_mem _ h))).ext y.ext).cell
    simp only [In.cells, List.getElem?_toArray] at q1
    simp only [eraseM]
    repeat (go_big_quiet_step (fail))
    exact wpQuiet_nil rfl
  case hF => rfl
  case T =>
    have hlp : 0 < (encZ imm).length := leb_pos _
    have hl10 : (encZ imm).length ≤ 10 := leb_len10 (zig_lt (by omega))
    change tailL _ _ _ _ _ [_, _, _, _, _] _ _
    intro u x0 hc
    have K2 := hc.trans (((Ext.refl u).alloc #[.int .u8 op, .int .u8 dst, .int .u8 xa, .int .u8 xb] 5).calm _)
    refine gives_value (u' := u.alloc (.cells #[.int .u8 op, .int .u8 dst, .int .u8 xa, .int .u8 xb] 5)) (v := .slice (some ⟨u.heap.size, 0, none⟩) 4 4) ?_ ⟨K2.sub (fun b hb => List.mem_cons_of_mem _ hb), fun _ => K2, ?_⟩
    · simp [go_sem]
    refine tailL_app (m := [op, dst, xa, xb]) (g := u.heap.size) (off := 0) (mc := 4) (t := 106) (Cur.start hO (x0.trans ((Ext.refl u).alloc _ _))) hbw rfl rfl rfl rfl (fun j y h => ?_) (by simp; omega) fun v1 w1 hC1 => ?_
    · rw [(Blk.new u _ _).cell, Nat.zero_add]
      match j, h with
      | 0, h => simpa using h
      | 1, h => simpa using h
      | 2, h => simpa using h
      | 3, h => simpa using h
      | j + 4, h => simp at h
    refine fun u3 x3 hc3 => gives_enter (f := 31) (args := #[.int .i64 imm]) (by simp [go_sem]) (rint_any imm u3 (by omega)) ?_
    rintro e v6 ⟨vb, rfl, ob, x6⟩
    obtain ⟨g, bc, rfl, hcell⟩ := Own.some' ob hlp
    have hc6 := hc3.trans (x6.calm _)
    refine ⟨_, rfl, hc6.sub (fun b hb => List.mem_cons_of_mem _ hb), fun _ => hc6, ?_⟩
    refine tailL_app (m := encZ imm) (g := g) (off := 0) (mc := bc) (t := 111) (hC1.ext (x3.trans x6)) hbw rfl rfl rfl rfl hcell (by simp; omega) fun v' w' hC => ?_
    refine tailL_st hB hbp hne hC rfl rfl rfl rfl fun u' hB' hS' => ?_
    rw [List.append_assoc] at hB'
    exact HQ.out _ _ _ _ _ _ _ _ _ _ _ _ _ _ _ _ _ _ hB' hS'
end Go.Proofs.YtbbfmlehddfneaaGreat

