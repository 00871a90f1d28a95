/-
  DERIVED. One round of the law EdgeSides.
-/
import Derived.Test.YtbhgebflknafbaaEdgeSidesParts
import Derived.Test.YtbhgebflknafbaaEdgeSidesParts2
import Derived.Test.YtbhgebflknafbaaEdgeSidesParts3
namespace Go.Proofs.Ytbhgebflknafbaa
open Go.RowKit
set_option linter.unusedVariables false

set_option maxRecDepth 100000 in
set_option maxHeartbeats 16000000 in
theorem sides_round (f0 f1 f2 f3 f4 f5 f6 f7 f8 f9 f10 f11 f12 f13 f14 f15 f16 f17 f18 f19 f20 f21 f22 f23 f24 f25 f26 f27 f28 f29 f30 f31 f32 f33 f34 f35 f37 f39 f40 f41 f42 f43 f44 f45 f46 f47 f48 f49 f50 f51 f52 f53 f54 f55 f56 f57 f58 f59 f60 f61 f62 f63 f64 f65 f66 f67 f68 f69 f70 f71 f72 f73 f74 f75 f76 f77 f78 f79 f80 f81 f82 f83 f84 f85 f86 f87 f88 f89 f90 f91 f92 f93 f94 f95 f96 f97 f98 f99 f100 f101 f102 f103 f104 f105 f106 f107 f108 f109 f110 f111 f112 f113 f114 f115 f116 f117 f118 f119 f120 f121 f122 f123 f124 f125 f126 f127 f128 f129 f130 f131 f132 f133 f134 f135 f136 f137 f138 f139 f140 f141 f142 f143 f144 f145 f146 f147 f148 f149 f150 f151 f152 f153 f154 f155 f156 f157 f158 f159 f160 f161 f162 f163 f164 f165 f166 f167 f168 f169 f170 f171 f172 f173 f174 f175 f176 f177 f178 f179 f180 f181 f182 f183 f184 f185 f186 f187 f188 f189 f190 f191 f192 f193 f194 f195 f196 f197 f198 f199 f200 f201 f202 f203 f204 f205 f206 f207 f208 f209 f210 f211 f212 f213 f214 f215 f216 f217 f218 f219 f220 f221 f222 f223 f224 f225 f226 f227 f228 f229 f230 f231 f232 f233 f234 f235 f236 f237 f238 f239 f240 f241 f242 f243 f244 f245 f246 f247 f248 f249 f250 f251 f252 f253 f254 f255 f256 f257 f258 f259 f260 f261 f262 f263 f264 f265 f266 f267 f268 f269 f270 f271 f272 f273 f274 f275 f276 f277 f278 f279 : Value) (g : Nat) (i : Int) (a0 a1 a2 a3 a4 a5 a6 a7 a8 a9 a10 a11 a12 a13 a14 a15 v0 v1 v2 v3 v4 v5 q0 q1 : Int) (hv0 : -9223372036854775808 ≤ v0 ∧ v0 ≤ 9223372036854775807) (hv1 : -9223372036854775808 ≤ v1 ∧ v1 ≤ 9223372036854775807) (hv2 : -9223372036854775808 ≤ v2 ∧ v2 ≤ 9223372036854775807) (hv3 : -9223372036854775808 ≤ v3 ∧ v3 ≤ 9223372036854775807) (hv4 : -9223372036854775808 ≤ v4 ∧ v4 ≤ 9223372036854775807) (hv5 : -9223372036854775808 ≤ v5 ∧ v5 ≤ 9223372036854775807) (hq0 : -9223372036854775808 ≤ q0 ∧ q0 ≤ 9223372036854775807) (hq1 : -9223372036854775808 ≤ q1 ∧ q1 ≤ 9223372036854775807) (w : World) (L0 : Blk w g #[.int .i64 a0, .int .i64 a1, .int .i64 a2, .int .i64 a3, .int .i64 a4, .int .i64 a5, .int .i64 a6, .int .i64 a7, .int .i64 a8, .int .i64 a9, .int .i64 a10, .int .i64 a11, .int .i64 a12, .int .i64 a13, .int .i64 a14, .int .i64 a15] 31) (hi : (i = 0 ∧ v0 = a0 ∧ v1 = a1 ∧ v2 = a2 ∧ v3 = a3 ∧ v4 = a4 ∧ v5 = a5 ∧ q0 = a6 ∧ q1 = a7) ∨ (i = 1 ∧ v0 = a8 ∧ v1 = a9 ∧ v2 = a10 ∧ v3 = a11 ∧ v4 = a12 ∧ v5 = a13 ∧ q0 = a14 ∧ q1 = a15)) {Q : Exit → Act → World → Prop}
    (hQ : ∀ (c10 c12 c13 c14 c15 c16 c17 c18 c19 c20 c21 c22 c40 c41 c42 c43 c44 c45 c46 c47 c48 c49 c50 c51 c52 c53 c54 c55 c56 c57 c58 c59 c60 c61 c62 c63 c64 c65 c66 c67 c68 c69 c70 c71 c72 c73 c74 c75 c76 c77 c78 c79 c80 c81 c82 c83 c84 c85 c86 c87 c88 c89 c90 c91 c92 c93 c94 c95 c96 c97 c98 c99 c100 c101 c102 c103 c104 c105 c106 c107 c108 c109 c110 c111 c112 c113 c114 c115 c116 c117 c118 c119 c120 c121 c122 c123 c124 c125 c126 c127 c128 c129 c130 c131 c132 c133 c134 c135 c136 c137 c138 c139 c140 c141 c142 c143 c144 c145 c146 c147 c148 c149 c150 c151 c152 c153 c154 c155 c156 c157 c158 c159 c160 c161 c162 c163 c164 c165 c166 c167 c168 c169 c170 c171 c172 c173 c174 c175 c176 c177 c178 c179 c180 c181 c182 c183 c184 c185 c186 c187 c188 c189 c190 c191 c192 c193 c194 c195 c196 c197 c198 c199 c200 c201 c202 c203 c204 c205 c206 c207 c208 c209 c210 c211 c212 c213 c214 c215 c216 c217 c218 c219 c220 c221 c222 c223 c224 c225 c226 c227 c228 c229 c230 c231 c232 c233 c234 c235 c236 c237 c238 c239 c240 c241 c242 c243 c244 c245 c246 c247 c248 c249 c250 c251 c252 c253 c254 c255 c256 c257 c258 c259 c260 c261 c262 c263 c264 c265 c266 c267 c268 c269 c270 c271 c272 c273 c274 c275 c276 c277 c278 c279 : Value) (wx : World), Ext w wx → Q .normal ⟨(f0 :: f1 :: f2 :: f3 :: f4 :: f5 :: f6 :: f7 :: f8 :: f9 :: c10 :: f11 :: c12 :: c13 :: c14 :: c15 :: c16 :: c17 :: c18 :: c19 :: c20 :: c21 :: c22 :: f23 :: f24 :: f25 :: f26 :: f27 :: f28 :: f29 :: f30 :: f31 :: f32 :: f33 :: f34 :: f35 :: Value.slice (some ⟨g, 0, none⟩) 2 2 :: f37 :: Value.int .i64 i :: f39 :: c40 :: c41 :: c42 :: c43 :: c44 :: c45 :: c46 :: c47 :: c48 :: c49 :: c50 :: c51 :: c52 :: c53 :: c54 :: c55 :: c56 :: c57 :: c58 :: c59 :: c60 :: c61 :: c62 :: c63 :: c64 :: c65 :: c66 :: c67 :: c68 :: c69 :: c70 :: c71 :: c72 :: c73 :: c74 :: c75 :: c76 :: c77 :: c78 :: c79 :: c80 :: c81 :: c82 :: c83 :: c84 :: c85 :: c86 :: c87 :: c88 :: c89 :: c90 :: c91 :: c92 :: c93 :: c94 :: c95 :: c96 :: c97 :: c98 :: c99 :: c100 :: c101 :: c102 :: c103 :: c104 :: c105 :: c106 :: c107 :: c108 :: c109 :: c110 :: c111 :: c112 :: c113 :: c114 :: c115 :: c116 :: c117 :: c118 :: c119 :: c120 :: c121 :: c122 :: c123 :: c124 :: c125 :: c126 :: c127 :: c128 :: c129 :: c130 :: c131 :: c132 :: c133 :: c134 :: c135 :: c136 :: c137 :: c138 :: c139 :: c140 :: c141 :: c142 :: c143 :: c144 :: c145 :: c146 :: c147 :: c148 :: c149 :: c150 :: c151 :: c152 :: c153 :: c154 :: c155 :: c156 :: c157 :: c158 :: c159 :: c160 :: c161 :: c162 :: c163 :: c164 :: c165 :: c166 :: c167 :: c168 :: c169 :: c170 :: c171 :: c172 :: c173 :: c174 :: c175 :: c176 :: c177 :: c178 :: c179 :: c180 :: c181 :: c182 :: c183 :: c184 :: c185 :: c186 :: c187 :: c188 :: c189 :: c190 :: c191 :: c192 :: c193 :: c194 :: c195 :: c196 :: c197 :: c198 :: c199 :: c200 :: c201 :: c202 :: c203 :: c204 :: c205 :: c206 :: c207 :: c208 :: c209 :: c210 :: c211 :: c212 :: c213 :: c214 :: c215 :: c216 :: c217 :: c218 :: c219 :: c220 :: c221 :: c222 :: c223 :: c224 :: c225 :: c226 :: c227 :: c228 :: c229 :: c230 :: c231 :: c232 :: c233 :: c234 :: c235 :: c236 :: c237 :: c238 :: c239 :: c240 :: c241 :: c242 :: c243 :: c244 :: c245 :: c246 :: c247 :: c248 :: c249 :: c250 :: c251 :: c252 :: c253 :: c254 :: c255 :: c256 :: c257 :: c258 :: c259 :: c260 :: c261 :: c262 :: c263 :: c264 :: c265 :: c266 :: c267 :: c268 :: c269 :: c270 :: c271 :: c272 :: c273 :: c274 :: c275 :: c276 :: c277 :: c278 :: c279 :: List.nil).toArray, []⟩ wx) : Code.wp Try.prog (.block 1 (blockOf Try.f3 1)) Q ⟨(f0 :: f1 :: f2 :: f3 :: f4 :: f5 :: f6 :: f7 :: f8 :: f9 :: f10 :: f11 :: f12 :: f13 :: f14 :: f15 :: f16 :: f17 :: f18 :: f19 :: f20 :: f21 :: f22 :: f23 :: f24 :: f25 :: f26 :: f27 :: f28 :: f29 :: f30 :: f31 :: f32 :: f33 :: f34 :: f35 :: Value.slice (some ⟨g, 0, none⟩) 2 2 :: f37 :: Value.int .i64 i :: f39 :: f40 :: f41 :: f42 :: f43 :: f44 :: f45 :: f46 :: f47 :: f48 :: f49 :: f50 :: f51 :: f52 :: f53 :: f54 :: f55 :: f56 :: f57 :: f58 :: f59 :: f60 :: f61 :: f62 :: f63 :: f64 :: f65 :: f66 :: f67 :: f68 :: f69 :: f70 :: f71 :: f72 :: f73 :: f74 :: f75 :: f76 :: f77 :: f78 :: f79 :: f80 :: f81 :: f82 :: f83 :: f84 :: f85 :: f86 :: f87 :: f88 :: f89 :: f90 :: f91 :: f92 :: f93 :: f94 :: f95 :: f96 :: f97 :: f98 :: f99 :: f100 :: f101 :: f102 :: f103 :: f104 :: f105 :: f106 :: f107 :: f108 :: f109 :: f110 :: f111 :: f112 :: f113 :: f114 :: f115 :: f116 :: f117 :: f118 :: f119 :: f120 :: f121 :: f122 :: f123 :: f124 :: f125 :: f126 :: f127 :: f128 :: f129 :: f130 :: f131 :: f132 :: f133 :: f134 :: f135 :: f136 :: f137 :: f138 :: f139 :: f140 :: f141 :: f142 :: f143 :: f144 :: f145 :: f146 :: f147 :: f148 :: f149 :: f150 :: f151 :: f152 :: f153 :: f154 :: f155 :: f156 :: f157 :: f158 :: f159 :: f160 :: f161 :: f162 :: f163 :: f164 :: f165 :: f166 :: f167 :: f168 :: f169 :: f170 :: f171 :: f172 :: f173 :: f174 :: f175 :: f176 :: f177 :: f178 :: f179 :: f180 :: f181 :: f182 :: f183 :: f184 :: f185 :: f186 :: f187 :: f188 :: f189 :: f190 :: f191 :: f192 :: f193 :: f194 :: f195 :: f196 :: f197 :: f198 :: f199 :: f200 :: f201 :: f202 :: f203 :: f204 :: f205 :: f206 :: f207 :: f208 :: f209 :: f210 :: f211 :: f212 :: f213 :: f214 :: f215 :: f216 :: f217 :: f218 :: f219 :: f220 :: f221 :: f222 :: f223 :: f224 :: f225 :: f226 :: f227 :: f228 :: f229 :: f230 :: f231 :: f232 :: f233 :: f234 :: f235 :: f236 :: f237 :: f238 :: f239 :: f240 :: f241 :: f242 :: f243 :: f244 :: f245 :: f246 :: f247 :: f248 :: f249 :: f250 :: f251 :: f252 :: f253 :: f254 :: f255 :: f256 :: f257 :: f258 :: f259 :: f260 :: f261 :: f262 :: f263 :: f264 :: f265 :: f266 :: f267 :: f268 :: f269 :: f270 :: f271 :: f272 :: f273 :: f274 :: f275 :: f276 :: f277 :: f278 :: f279 :: List.nil).toArray, []⟩ w := by
  have e1 := Ext.refl w
  have cL0 := L0.cell
  change Code.wp Try.prog (.block 1 (Code.seq _ _)) _ _ _
  go_upto_region 5 with fail
  go_cut [12] from 40 to 279 (fun v wx => ∃ gc, v = .pointer (some ⟨gc, 0, none⟩) ∧ Blk wx gc #[.int .i64 v0, .int .i64 v1, .int .i64 v2, .int .i64 v3, .int .i64 v4, .int .i64 v5, .int .i64 q0, .int .i64 q1] 31 ∧ Ext w wx)
  case first =>
    rcases hi with ⟨rfl, rfl, rfl, rfl, rfl, rfl, rfl, rfl, rfl⟩ | ⟨rfl, rfl, rfl, rfl, rfl, rfl, rfl, rfl, rfl⟩ <;> (go_wp2; go_meet; exact ⟨_, rfl, Blk.new w _ _, e1.alloc _ _⟩)
  obtain ⟨gc, rfl, C2, e2⟩ := hcut
  have L2 := L0.ext e2
  clear cL0 L0 e1 hi
  generalize wc = w2 at *
  have cL2 := L2.cell
  have cC2 := C2.cell
  go_wp2_with fail
  refine (lawref_any _ _ _ _ _ _ _).mono ?_
  rintro e w3 ⟨rfl, hx3⟩
  have L3 := L2.ext hx3
  have cL3 := L3.cell
  have C3 := C2.ext hx3
  have cC3 := C3.cell
  clear L2 cL2 C2 cC2
  have e3 := e2.trans hx3
  clear e2 hx3
  have zL := L3.lt
  have zC := C3.lt
  go_wp2_with fail
  refine (weights_any _ _ _ _ _ _ _ _ (by omega) (by omega) (by omega) (by omega) (by omega) (by omega) (by omega) (by omega) _).mono ?_
  rintro e w4 ⟨rfl, hx4⟩
  have L4 := ((L3.alloc _).alloc _).ext hx4
  have C4 := ((C3.alloc _).alloc _).ext hx4
  have M4 : Blk w4 w3.heap.size #[.int .i64 v0, .int .i64 v1, .int .i64 v2, .int .i64 v3, .int .i64 v4, .int .i64 v5] 35 := ((Blk.new w3 _ _).alloc _).ext hx4
  have N4 : Blk w4 (w3.heap.size + 1) #[.int .i64 q0, .int .i64 q1] 34 := (Blk.new' (by simp) _ _).ext hx4
  have e4 := ((e3.alloc _ _).alloc _ _).trans hx4
  clear hx4 L3 cL3 C3 cC3 e3 zL zC
  generalize w3.heap.size = gm at *
  clear w3
  have cL4 := L4.cell
  have cC4 := C4.cell
  have cM4 := M4.cell
  have cN4 := N4.cell
  have zM := M4.lt
  go_wp2
  have L5 := L4.alloc (.cells #[.int .i64 (sd v2 v3 v4 v5 q0 q1), .int .i64 (sd v4 v5 v0 v1 q0 q1), .int .i64 (sd v0 v1 v2 v3 q0 q1)] 37)
  have C5 := C4.alloc (.cells #[.int .i64 (sd v2 v3 v4 v5 q0 q1), .int .i64 (sd v4 v5 v0 v1 q0 q1), .int .i64 (sd v0 v1 v2 v3 q0 q1)] 37)
  have M5 := M4.alloc (.cells #[.int .i64 (sd v2 v3 v4 v5 q0 q1), .int .i64 (sd v4 v5 v0 v1 q0 q1), .int .i64 (sd v0 v1 v2 v3 q0 q1)] 37)
  have N5 := N4.alloc (.cells #[.int .i64 (sd v2 v3 v4 v5 q0 q1), .int .i64 (sd v4 v5 v0 v1 q0 q1), .int .i64 (sd v0 v1 v2 v3 q0 q1)] 37)
  have O5 : Blk (w4.alloc (.cells #[.int .i64 (sd v2 v3 v4 v5 q0 q1), .int .i64 (sd v4 v5 v0 v1 q0 q1), .int .i64 (sd v0 v1 v2 v3 q0 q1)] 37)) w4.heap.size #[.int .i64 (sd v2 v3 v4 v5 q0 q1), .int .i64 (sd v4 v5 v0 v1 q0 q1), .int .i64 (sd v0 v1 v2 v3 q0 q1)] 37 := Blk.new w4 _ _
  have e5 := e4.alloc #[.int .i64 (sd v2 v3 v4 v5 q0 q1), .int .i64 (sd v4 v5 v0 v1 q0 q1), .int .i64 (sd v0 v1 v2 v3 q0 q1)] 37
  clear e4 zM L4 cL4 C4 cC4 M4 cM4 N4 cN4
  generalize w4.alloc (.cells #[.int .i64 (sd v2 v3 v4 v5 q0 q1), .int .i64 (sd v4 v5 v0 v1 q0 q1), .int .i64 (sd v0 v1 v2 v3 q0 q1)] 37) = w5 at *
  generalize w4.heap.size = go at *
  clear w4
  have cL5 := L5.cell
  have cC5 := C5.cell
  have cM5 := M5.cell
  have cN5 := N5.cell
  have cO5 := O5.cell
  refine sides_r9 _ _ _ _ _ _ _ _ _ _ _ _ _ _ _ _ _ _ _ _ _ _ _ _ _ _ _ _ _ _ _ _ _ _ _ _ _ _ _ _ _ _ _ _ _ _ _ _ _ _ _ _ _ _ _ _ _ _ _ _ _ _ _ _ _ _ _ _ _ _ _ _ _ _ _ _ _ _ _ _ _ _ _ _ _ _ _ _ _ _ _ _ _ _ _ _ _ _ _ _ _ _ _ _ _ _ _ _ _ _ _ _ _ _ _ _ _ _ _ _ _ _ _ _ _ _ _ _ _ _ _ _ _ _ _ _ _ _ _ _ _ _ _ _ _ _ _ _ _ _ _ _ _ _ _ _ _ _ _ _ _ _ _ _ _ _ _ _ _ _ _ _ _ _ _ _ _ _ _ _ _ _ _ _ _ _ _ _ _ _ _ _ _ _ _ _ _ _ _ _ _ _ _ _ _ _ _ _ _ _ _ _ _ _ _ _ _ _ _ _ _ _ _ _ _ _ _ _ _ _ _ _ _ _ _ _ _ _ _ _ _ _ _ _ _ _ _ _ _ _ _ _ _ _ _ _ _ _ _ _ _ _ _ _ _ _ _ _ _ _ _ _ _ _ _ _ _ gc gm (gm + 1) v0 v1 v2 v3 v4 v5 q0 q1 hv0 hv1 hv2 hv3 hv4 hv5 hq0 hq1 _ C5 M5 N5 (fun _ _ _ _ _ _ _ _ _ _ _ _ _ _ _ _ _ _ _ _ _ _ _ _ _ _ _ _ _ _ _ _ _ _ _ _ _ _ _ _ _ _ _ _ _ _ _ _ _ _ _ _ _ _ _ w6 hx6 => ?_)
  have L6 := L5.ext hx6
  have cL6 := L6.cell
  have C6 := C5.ext hx6
  have cC6 := C6.cell
  have M6 := M5.ext hx6
  have cM6 := M6.cell
  have N6 := N5.ext hx6
  have cN6 := N6.cell
  have O6 := O5.ext hx6
  have cO6 := O6.cell
  clear L5 cL5 C5 cC5 M5 cM5 N5 cN5 O5 cO5
  have e6 := e5.trans hx6
  clear e5 hx6
  go_wp2_with fail
  refine (box_any _ _ _ _ _ _ (by omega) (by omega) (by omega) (by omega) (by omega) (by omega) _).mono ?_
  rintro e w7 ⟨rfl, hx7⟩
  have L7 := L6.ext hx7
  have cL7 := L7.cell
  have C7 := C6.ext hx7
  have cC7 := C7.cell
  have M7 := M6.ext hx7
  have cM7 := M7.cell
  have N7 := N6.ext hx7
  have cN7 := N7.cell
  have O7 := O6.ext hx7
  have cO7 := O7.cell
  clear L6 cL6 C6 cC6 M6 cM6 N6 cN6 O6 cO6
  have e7 := e6.trans hx7
  clear e6 hx7
  go_upto_block 2 with fail
  have L8 := (L7.alloc (.cells #[.int .i64 (lo3 v0 v2 v4), .int .i64 (lo3 v1 v3 v5)] 23)).alloc (.cells #[.int .i64 (hi3 v0 v2 v4), .int .i64 (hi3 v1 v3 v5)] 23)
  have C8 := (C7.alloc (.cells #[.int .i64 (lo3 v0 v2 v4), .int .i64 (lo3 v1 v3 v5)] 23)).alloc (.cells #[.int .i64 (hi3 v0 v2 v4), .int .i64 (hi3 v1 v3 v5)] 23)
  have M8 := (M7.alloc (.cells #[.int .i64 (lo3 v0 v2 v4), .int .i64 (lo3 v1 v3 v5)] 23)).alloc (.cells #[.int .i64 (hi3 v0 v2 v4), .int .i64 (hi3 v1 v3 v5)] 23)
  have N8 := (N7.alloc (.cells #[.int .i64 (lo3 v0 v2 v4), .int .i64 (lo3 v1 v3 v5)] 23)).alloc (.cells #[.int .i64 (hi3 v0 v2 v4), .int .i64 (hi3 v1 v3 v5)] 23)
  have O8 := (O7.alloc (.cells #[.int .i64 (lo3 v0 v2 v4), .int .i64 (lo3 v1 v3 v5)] 23)).alloc (.cells #[.int .i64 (hi3 v0 v2 v4), .int .i64 (hi3 v1 v3 v5)] 23)
  have K8 : Blk ((w7.alloc (.cells #[.int .i64 (lo3 v0 v2 v4), .int .i64 (lo3 v1 v3 v5)] 23)).alloc (.cells #[.int .i64 (hi3 v0 v2 v4), .int .i64 (hi3 v1 v3 v5)] 23)) w7.heap.size #[.int .i64 (lo3 v0 v2 v4), .int .i64 (lo3 v1 v3 v5)] 23 := (Blk.new w7 _ _).alloc _
  have H8 : Blk ((w7.alloc (.cells #[.int .i64 (lo3 v0 v2 v4), .int .i64 (lo3 v1 v3 v5)] 23)).alloc (.cells #[.int .i64 (hi3 v0 v2 v4), .int .i64 (hi3 v1 v3 v5)] 23)) (w7.heap.size + 1) #[.int .i64 (hi3 v0 v2 v4), .int .i64 (hi3 v1 v3 v5)] 23 := Blk.new' (by simp) _ _
  have e8 := (e7.alloc #[.int .i64 (lo3 v0 v2 v4), .int .i64 (lo3 v1 v3 v5)] 23).alloc #[.int .i64 (hi3 v0 v2 v4), .int .i64 (hi3 v1 v3 v5)] 23
  clear e7 L7 cL7 C7 cC7 M7 cM7 N7 cN7 O7 cO7
  generalize ((w7.alloc (.cells #[.int .i64 (lo3 v0 v2 v4), .int .i64 (lo3 v1 v3 v5)] 23)).alloc (.cells #[.int .i64 (hi3 v0 v2 v4), .int .i64 (hi3 v1 v3 v5)] 23)) = w8 at *
  generalize w7.heap.size = gk at *
  clear w7
  have cL8 := L8.cell
  have cC8 := C8.cell
  have cM8 := M8.cell
  have cN8 := N8.cell
  have cO8 := O8.cell
  have cK8 := K8.cell
  have cH8 := H8.cell
  go_cut [19] from 40 to 279 (fun _ wx => Ext w8 wx)
  case first =>
    go_wp2
    refine wp_loop_rounds 4 ?_
    have e0 := Ext.refl w8
    clear e8
    have e8 := e0
    clear e0
    rw [rounds_succ]
    go_wp2
    refine sides_r16_0 _ _ _ _ _ _ _ _ _ _ _ _ _ _ _ _ _ _ _ _ _ _ _ _ _ _ _ _ _ _ _ _ _ _ _ _ _ _ _ _ _ _ _ _ _ _ _ _ _ _ _ _ _ _ _ _ _ _ _ _ _ _ _ _ _ _ _ _ _ _ _ _ _ _ _ _ _ _ _ _ _ _ _ _ _ _ _ _ _ _ _ _ _ _ _ _ _ _ _ _ _ _ _ _ _ _ _ _ _ _ _ _ _ _ _ _ _ _ _ _ _ _ _ _ _ _ _ _ _ _ _ _ _ _ _ _ _ _ _ _ _ _ _ _ _ _ _ _ _ _ _ _ _ _ _ _ _ _ _ _ _ _ _ _ _ _ _ _ _ _ _ _ _ _ _ _ _ _ _ _ _ _ _ _ _ _ _ _ _ _ _ _ _ _ _ _ _ _ _ _ _ _ _ _ _ _ _ _ _ _ _ _ _ _ _ _ _ _ _ _ _ _ _ _ _ _ _ _ _ _ _ _ _ _ _ _ _ _ _ _ _ _ _ _ _ _ _ _ _ _ _ _ _ _ _ _ _ _ _ _ _ _ _ _ _ _ _ _ _ _ _ _ _ gm (gm + 1) go gk (gk + 1) v0 v1 v2 v3 v4 v5 q0 q1 hv0 hv1 hv2 hv3 hv4 hv5 hq0 hq1 _ M8 N8 O8 K8 H8 (fun _ _ _ _ _ _ _ _ _ _ _ _ _ _ _ _ _ _ _ _ _ _ _ _ _ _ _ _ _ _ _ _ _ _ _ _ _ _ _ _ _ _ _ _ _ _ _ _ _ _ _ _ _ _ _ _ _ _ _ w9 hx9 => ?_)
    have L9 := L8.ext hx9
    have cL9 := L9.cell
    have C9 := C8.ext hx9
    have cC9 := C9.cell
    have M9 := M8.ext hx9
    have cM9 := M9.cell
    have N9 := N8.ext hx9
    have cN9 := N9.cell
    have O9 := O8.ext hx9
    have cO9 := O9.cell
    have K9 := K8.ext hx9
    have cK9 := K9.cell
    have H9 := H8.ext hx9
    have cH9 := H9.cell
    clear L8 cL8 C8 cC8 M8 cM8 N8 cN8 O8 cO8 K8 cK8 H8 cH8
    have e9 := e8.trans hx9
    clear e8 hx9
    go_wp2
    rw [rounds_succ]
    go_wp2
    refine sides_r16_1 _ _ _ _ _ _ _ _ _ _ _ _ _ _ _ _ _ _ _ _ _ _ _ _ _ _ _ _ _ _ _ _ _ _ _ _ _ _ _ _ _ _ _ _ _ _ _ _ _ _ _ _ _ _ _ _ _ _ _ _ _ _ _ _ _ _ _ _ _ _ _ _ _ _ _ _ _ _ _ _ _ _ _ _ _ _ _ _ _ _ _ _ _ _ _ _ _ _ _ _ _ _ _ _ _ _ _ _ _ _ _ _ _ _ _ _ _ _ _ _ _ _ _ _ _ _ _ _ _ _ _ _ _ _ _ _ _ _ _ _ _ _ _ _ _ _ _ _ _ _ _ _ _ _ _ _ _ _ _ _ _ _ _ _ _ _ _ _ _ _ _ _ _ _ _ _ _ _ _ _ _ _ _ _ _ _ _ _ _ _ _ _ _ _ _ _ _ _ _ _ _ _ _ _ _ _ _ _ _ _ _ _ _ _ _ _ _ _ _ _ _ _ _ _ _ _ _ _ _ _ _ _ _ _ _ _ _ _ _ _ _ _ _ _ _ _ _ _ _ _ _ _ _ _ _ _ _ _ _ _ _ _ _ _ _ _ _ _ _ _ _ _ _ gm (gm + 1) go gk (gk + 1) v0 v1 v2 v3 v4 v5 q0 q1 hv0 hv1 hv2 hv3 hv4 hv5 hq0 hq1 _ M9 N9 O9 K9 H9 (fun _ _ _ _ _ _ _ _ _ _ _ _ _ _ _ _ _ _ _ _ _ _ _ _ _ _ _ _ _ _ _ _ _ _ _ _ _ _ _ _ _ _ _ _ _ _ _ _ _ _ _ _ _ _ _ _ _ _ _ w10 hx10 => ?_)
    have L10 := L9.ext hx10
    have cL10 := L10.cell
    have C10 := C9.ext hx10
    have cC10 := C10.cell
    have M10 := M9.ext hx10
    have cM10 := M10.cell
    have N10 := N9.ext hx10
    have cN10 := N10.cell
    have O10 := O9.ext hx10
    have cO10 := O10.cell
    have K10 := K9.ext hx10
    have cK10 := K10.cell
    have H10 := H9.ext hx10
    have cH10 := H10.cell
    clear L9 cL9 C9 cC9 M9 cM9 N9 cN9 O9 cO9 K9 cK9 H9 cH9
    have e10 := e9.trans hx10
    clear e9 hx10
    go_wp2
    rw [rounds_succ]
    go_wp2
    refine sides_r16_2 _ _ _ _ _ _ _ _ _ _ _ _ _ _ _ _ _ _ _ _ _ _ _ _ _ _ _ _ _ _ _ _ _ _ _ _ _ _ _ _ _ _ _ _ _ _ _ _ _ _ _ _ _ _ _ _ _ _ _ _ _ _ _ _ _ _ _ _ _ _ _ _ _ _ _ _ _ _ _ _ _ _ _ _ _ _ _ _ _ _ _ _ _ _ _ _ _ _ _ _ _ _ _ _ _ _ _ _ _ _ _ _ _ _ _ _ _ _ _ _ _ _ _ _ _ _ _ _ _ _ _ _ _ _ _ _ _ _ _ _ _ _ _ _ _ _ _ _ _ _ _ _ _ _ _ _ _ _ _ _ _ _ _ _ _ _ _ _ _ _ _ _ _ _ _ _ _ _ _ _ _ _ _ _ _ _ _ _ _ _ _ _ _ _ _ _ _ _ _ _ _ _ _ _ _ _ _ _ _ _ _ _ _ _ _ _ _ _ _ _ _ _ _ _ _ _ _ _ _ _ _ _ _ _ _ _ _ _ _ _ _ _ _ _ _ _ _ _ _ _ _ _ _ _ _ _ _ _ _ _ _ _ _ _ _ _ _ _ _ _ _ _ _ gm (gm + 1) go gk (gk + 1) v0 v1 v2 v3 v4 v5 q0 q1 hv0 hv1 hv2 hv3 hv4 hv5 hq0 hq1 _ M10 N10 O10 K10 H10 (fun _ _ _ _ _ _ _ _ _ _ _ _ _ _ _ _ _ _ _ _ _ _ _ _ _ _ _ _ _ _ _ _ _ _ _ _ _ _ _ _ _ _ _ _ _ _ _ _ _ _ _ _ _ _ _ _ _ _ _ w11 hx11 => ?_)
    have L11 := L10.ext hx11
    have cL11 := L11.cell
    have C11 := C10.ext hx11
    have cC11 := C11.cell
    have M11 := M10.ext hx11
    have cM11 := M11.cell
    have N11 := N10.ext hx11
    have cN11 := N11.cell
    have O11 := O10.ext hx11
    have cO11 := O11.cell
    have K11 := K10.ext hx11
    have cK11 := K11.cell
    have H11 := H10.ext hx11
    have cH11 := H11.cell
    clear L10 cL10 C10 cC10 M10 cM10 N10 cN10 O10 cO10 K10 cK10 H10 cH10
    have e11 := e10.trans hx11
    clear e10 hx11
    go_wp2
    rw [rounds_succ]
    go_wp2
    go_meet
    exact e11
  generalize wc = w9 at *
  have hx9 := hcut
  clear hcut
  have L9 := L8.ext hx9
  have cL9 := L9.cell
  have C9 := C8.ext hx9
  have cC9 := C9.cell
  have M9 := M8.ext hx9
  have cM9 := M9.cell
  have N9 := N8.ext hx9
  have cN9 := N9.cell
  have O9 := O8.ext hx9
  have cO9 := O9.cell
  have K9 := K8.ext hx9
  have cK9 := K9.cell
  have H9 := H8.ext hx9
  have cH9 := H9.cell
  clear L8 cL8 C8 cC8 M8 cM8 N8 cN8 O8 cO8 K8 cK8 H8 cH8
  have e9 := e8.trans hx9
  clear e8 hx9
  go_wp2
  refine sides_r19 _ _ _ _ _ _ _ _ _ _ _ _ _ _ _ _ _ _ _ _ _ _ _ _ _ _ _ _ _ _ _ _ _ _ _ _ _ _ _ _ _ _ _ _ _ _ _ _ _ _ _ _ _ _ _ _ _ _ _ _ _ _ _ _ _ _ _ _ _ _ _ _ _ _ _ _ _ _ _ _ _ _ _ _ _ _ _ _ _ _ _ _ _ _ _ _ _ _ _ _ _ _ _ _ _ _ _ _ _ _ _ _ _ _ _ _ _ _ _ _ _ _ _ _ _ _ _ _ _ _ _ _ _ _ _ _ _ _ _ _ _ _ _ _ _ _ _ _ _ _ _ _ _ _ _ _ _ _ _ _ _ _ _ _ _ _ _ _ _ _ _ _ _ _ _ _ _ _ _ _ _ _ _ _ _ _ _ _ _ _ _ _ _ _ _ _ _ _ _ _ _ _ _ _ _ _ _ _ _ _ _ _ _ _ _ _ _ _ _ _ _ _ _ _ _ _ _ _ _ _ _ _ _ _ _ _ _ _ _ _ _ _ _ _ _ _ _ _ _ _ _ _ _ _ _ _ _ _ _ _ _ _ _ _ _ _ _ _ _ _ _ _ _ _ _ _ _ _ gc go v0 v1 v2 v3 v4 v5 q0 q1 hv0 hv1 hv2 hv3 hv4 hv5 hq0 hq1 _ C9 O9 (fun _ _ _ _ _ _ _ _ _ _ _ w10 hx10 => ?_)
  have L10 := L9.ext hx10
  have cL10 := L10.cell
  have C10 := C9.ext hx10
  have cC10 := C10.cell
  have M10 := M9.ext hx10
  have cM10 := M10.cell
  have N10 := N9.ext hx10
  have cN10 := N10.cell
  have O10 := O9.ext hx10
  have cO10 := O10.cell
  have K10 := K9.ext hx10
  have cK10 := K10.cell
  have H10 := H9.ext hx10
  have cH10 := H10.cell
  clear L9 cL9 C9 cC9 M9 cM9 N9 cN9 O9 cO9 K9 cK9 H9 cH9
  have e10 := e9.trans hx10
  clear e9 hx10
  go_wp2
  apply wp_region_vars [false, false, false, false, false, false, true, true, true, true] [] [⟨some 6, 20, 0, some 8, 23, #[.int .i64 0, .int .i64 0], #[.int .i64 v0, .int .i64 v1]⟩, ⟨some 7, 21, 0, some 9, 23, #[.int .i64 0, .int .i64 0], #[.int .i64 v2, .int .i64 v3]⟩] _ (by kernel_rfl) (by kernel_rfl) (by kernel_rfl)
  case H =>
    intro x' hx
    have hne : Nonempty (Wx x') := ⟨⟨x', Ext.refl x'⟩⟩
    have q0 := fun (y : Wx x') => ((C10.calm hx (by simp)).ext y.ext).cell
    simp only [eraseM]
    repeat (go_big_quiet_step (fail))
    exact wpQuiet_nil rfl
  case hok =>
    simp only [List.forall_mem_cons, List.not_mem_nil, false_implies, implies_true, and_true]
    refine ⟨tgt_fresh (by simp) rfl rfl mkP rfl rfl rfl rfl (by kernel_rfl) (by kernel_rfl) rfl, tgt_fresh (by simp) rfl rfl mkP rfl rfl rfl rfl (by kernel_rfl) (by kernel_rfl) rfl⟩
  case hdis =>
    intro k k' t t' hk hk' _ ha
    exfalso
    have := List.mem_of_getElem? hk
    simp only [List.mem_cons, List.not_mem_nil, or_false] at this
    rcases this with rfl | rfl <;> cases ha
  rintro w11 f hw ⟨k0, l0, d0, -, k1, l1, d1, -, -⟩
  have hx11 := hw.ext
  clear hw
  have L11 := L10.ext hx11
  have cL11 := L11.cell
  have C11 := C10.ext hx11
  have cC11 := C11.cell
  have M11 := M10.ext hx11
  have cM11 := M11.cell
  have N11 := N10.ext hx11
  have cN11 := N11.cell
  have O11 := O10.ext hx11
  have cO11 := O11.cell
  have K11 := K10.ext hx11
  have cK11 := K11.cell
  have H11 := H10.ext hx11
  have cH11 := H11.cell
  clear L10 cL10 C10 cC10 M10 cM10 N10 cN10 O10 cO10 K10 cK10 H10 cH10
  have e11 := e10.trans hx11
  clear e10 hx11
  have A11 : Blk w11 (f 0) #[.int .i64 v0, .int .i64 v1] 23 := d0
  have B11 : Blk w11 (f 1) #[.int .i64 v2, .int .i64 v3] 23 := d1
  clear k0 l0 d0 k1 l1 d1
  simp only [pairs, putAll, Option.isSome_some, if_true, Act.put, List.setIfInBounds_toArray, List.set_cons_succ, List.set_cons_zero]
  generalize f 0 = ga at *
  generalize f 1 = gb at *
  clear f
  have cA11 := A11.cell
  have cB11 := B11.cell
  go_upto_region 22 with fail
  refine sides_r22 _ _ _ _ _ _ _ _ _ _ _ _ _ _ _ _ _ _ _ _ _ _ _ _ _ _ _ _ _ _ _ _ _ _ _ _ _ _ _ _ _ _ _ _ _ _ _ _ _ _ _ _ _ _ _ _ _ _ _ _ _ _ _ _ _ _ _ _ _ _ _ _ _ _ _ _ _ _ _ _ _ _ _ _ _ _ _ _ _ _ _ _ _ _ _ _ _ _ _ _ _ _ _ _ _ _ _ _ _ _ _ _ _ _ _ _ _ _ _ _ _ _ _ _ _ _ _ _ _ _ _ _ _ _ _ _ _ _ _ _ _ _ _ _ _ _ _ _ _ _ _ _ _ _ _ _ _ _ _ _ _ _ _ _ _ _ _ _ _ _ _ _ _ _ _ _ _ _ _ _ _ _ _ _ _ _ _ _ _ _ _ _ _ _ _ _ _ _ _ _ _ _ _ _ _ _ _ _ _ _ _ _ _ _ _ _ _ _ _ _ _ _ _ _ _ _ _ _ _ _ _ _ _ _ _ _ _ _ _ _ _ _ _ _ _ _ _ _ _ _ _ _ _ _ _ _ _ _ _ _ _ _ _ _ _ _ _ _ _ _ _ _ _ _ _ _ _ ga gb v0 v1 v2 v3 v4 v5 q0 q1 hv0 hv1 hv2 hv3 hv4 hv5 hq0 hq1 _ A11 B11 (fun _ _ _ _ _ _ _ _ _ _ _ _ _ _ _ _ _ _ _ _ _ _ _ _ _ _ _ _ _ _ _ w12 hx12 => ?_)
  have L12 := L11.ext hx12
  have cL12 := L12.cell
  have C12 := C11.ext hx12
  have cC12 := C12.cell
  have M12 := M11.ext hx12
  have cM12 := M12.cell
  have N12 := N11.ext hx12
  have cN12 := N12.cell
  have O12 := O11.ext hx12
  have cO12 := O12.cell
  have K12 := K11.ext hx12
  have cK12 := K12.cell
  have H12 := H11.ext hx12
  have cH12 := H12.cell
  have A12 := A11.ext hx12
  have cA12 := A12.cell
  have B12 := B11.ext hx12
  have cB12 := B12.cell
  clear L11 cL11 C11 cC11 M11 cM11 N11 cN11 O11 cO11 K11 cK11 H11 cH11 A11 cA11 B11 cB11
  have e12 := e11.trans hx12
  clear e11 hx12
  go_wp2
  refine sides_r23 _ _ _ _ _ _ _ _ _ _ _ _ _ _ _ _ _ _ _ _ _ _ _ _ _ _ _ _ _ _ _ _ _ _ _ _ _ _ _ _ _ _ _ _ _ _ _ _ _ _ _ _ _ _ _ _ _ _ _ _ _ _ _ _ _ _ _ _ _ _ _ _ _ _ _ _ _ _ _ _ _ _ _ _ _ _ _ _ _ _ _ _ _ _ _ _ _ _ _ _ _ _ _ _ _ _ _ _ _ _ _ _ _ _ _ _ _ _ _ _ _ _ _ _ _ _ _ _ _ _ _ _ _ _ _ _ _ _ _ _ _ _ _ _ _ _ _ _ _ _ _ _ _ _ _ _ _ _ _ _ _ _ _ _ _ _ _ _ _ _ _ _ _ _ _ _ _ _ _ _ _ _ _ _ _ _ _ _ _ _ _ _ _ _ _ _ _ _ _ _ _ _ _ _ _ _ _ _ _ _ _ _ _ _ _ _ _ _ _ _ _ _ _ _ _ _ _ _ _ _ _ _ _ _ _ _ _ _ _ _ _ _ _ _ _ _ _ _ _ _ _ _ _ _ _ _ _ _ _ _ _ _ _ _ _ _ _ _ _ _ _ _ _ gm gk (gk + 1) ga gb v0 v1 v2 v3 v4 v5 q0 q1 hv0 hv1 hv2 hv3 hv4 hv5 hq0 hq1 _ M12 K12 H12 A12 B12 (fun _ _ _ _ _ _ _ _ _ _ _ _ _ _ _ _ _ _ _ _ _ _ _ _ _ _ _ _ _ _ _ _ _ _ _ _ _ _ _ _ _ _ _ _ _ _ w13 hx13 => ?_)
  have L13 := L12.ext hx13
  have cL13 := L13.cell
  have C13 := C12.ext hx13
  have cC13 := C13.cell
  have M13 := M12.ext hx13
  have cM13 := M13.cell
  have N13 := N12.ext hx13
  have cN13 := N13.cell
  have O13 := O12.ext hx13
  have cO13 := O13.cell
  have K13 := K12.ext hx13
  have cK13 := K13.cell
  have H13 := H12.ext hx13
  have cH13 := H13.cell
  have A13 := A12.ext hx13
  have cA13 := A13.cell
  have B13 := B12.ext hx13
  have cB13 := B13.cell
  clear L12 cL12 C12 cC12 M12 cM12 N12 cN12 O12 cO12 K12 cK12 H12 cH12 A12 cA12 B12 cB12
  have e13 := e12.trans hx13
  clear e12 hx13
  go_wp2
  first | exact e13 | exact hQ _ _ _ _ _ _ _ _ _ _ _ _ _ _ _ _ _ _ _ _ _ _ _ _ _ _ _ _ _ _ _ _ _ _ _ _ _ _ _ _ _ _ _ _ _ _ _ _ _ _ _ _ _ _ _ _ _ _ _ _ _ _ _ _ _ _ _ _ _ _ _ _ _ _ _ _ _ _ _ _ _ _ _ _ _ _ _ _ _ _ _ _ _ _ _ _ _ _ _ _ _ _ _ _ _ _ _ _ _ _ _ _ _ _ _ _ _ _ _ _ _ _ _ _ _ _ _ _ _ _ _ _ _ _ _ _ _ _ _ _ _ _ _ _ _ _ _ _ _ _ _ _ _ _ _ _ _ _ _ _ _ _ _ _ _ _ _ _ _ _ _ _ _ _ _ _ _ _ _ _ _ _ _ _ _ _ _ _ _ _ _ _ _ _ _ _ _ _ _ _ _ _ _ _ _ _ _ _ _ _ _ _ _ _ _ _ _ _ _ _ _ _ _ _ _ _ _ _ _ _ _ _ _ _ _ _ _ _ _ _ _ _ _ _ _ _ _ _ _ _ _ _ _ e13
end Go.Proofs.Ytbhgebflknafbaa
