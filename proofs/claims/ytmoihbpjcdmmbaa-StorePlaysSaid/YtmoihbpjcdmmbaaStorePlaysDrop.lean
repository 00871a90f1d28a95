/-
  DERIVED. An arm of the switch of the law StorePlays, walked apart.
-/
import Derived.Test.YtmoihbpjcdmmbaaStorePlaysAid2
import Derived.Test.YtmoihbpjcdmmbaaParts
namespace Go.Proofs.Ytmoihbpjcdmmbaa
open Go.RowKit Go.Maps
set_option linter.unusedVariables false

theorem PlayAt.gone' {w wr : World} {F R : List Nat} {bd bp bm bb : Nat} {sf sl : Value} {full fail : List Int} {bf : Int → Option Value} {rm : Nat} {fL : Int → Option Value} {st : DSt} {i : Nat} (h : PlayAt w wr F R bd bp bm bb sf sl full fail bf rm fL st i) {w1 w2 : World} {n : Int} (hc : Calm [bm] wr w1) (hM : Mp anyV w1 bm (fun y => if y = n then none else fL y) (if (fL n).isSome then st.s - 1 else st.s)) {v : Value} (hv : fL n = some v) (hd : Dev w2 F R bd (st.without n)) (hc2 : Calm F w1 w2) :
    PlayAt w w2 F R bd bp bm bb sf sl full fail bf rm (fun y => if y = n then none else fL y) (st.without n) (i + 1) := by
  have m1 : MapAt w1 F bm _ (st.without n) := h.map.lose hc hM hv st.takes
  refine ⟨hd, m1.calm hc2 h.bmF.1 (fun k hk => .inl hk) (fun k hk => .inl hk) rfl rfl, (h.plan.calm hc h.offm).calm hc2 h.off, h.off, h.offm, h.bmF, h.low, Ext.calm_trans (Ext.calm_trans h.ext hc (by simpa using h.low.1)) hc2 h.low.2, h.same, fun x hx => ?_, Nat.le_trans (Nat.sub_le _ _) h.le, ⟨Nat.le_succ_of_le h.cnt.1, Nat.le_succ_of_le h.cnt.2.1, Nat.le_succ_of_le h.cnt.2.2⟩⟩
  apply h.top x
  by_cases e : x = n
  · simp [DSt.without, e] at hx
  · simp only [DSt.without, if_neg e] at hx
    exact hx

set_option maxRecDepth 100000 in
set_option maxHeartbeats 4000000 in
theorem plays_drop (f1 f2 f3 f4 f5 f6 f7 f8 f9 f10 f12 f13 f14 f15 f16 f17 f23 f24 f27 f28 f29 f30 f31 f32 f33 f34 f35 f36 f37 f38 f39 f40 f41 f42 f43 f44 f45 f46 f47 f48 f49 f50 f51 f52 f53 f54 f55 f56 f57 f58 f59 f60 f61 f62 f63 f64 f65 f66 f67 f68 f69 f70 f71 f72 f73 f74 f75 f76 f77 f78 f79 f80 f81 f82 f83 f84 f85 f86 f87 f88 f89 f90 f91 f92 f93 f94 f95 f96 f97 f98 f99 f100 f101 f102 f103 f104 f105 f106 f107 f108 f109 f110 f111 f112 f113 f114 f115 f116 f117 f118 f119 f120 f121 f122 f123 f124 f126 f127 f128 f129 f130 f131 f132 f133 f134 f135 f136 f137 f138 f139 f140 f141 f142 f143 f144 f145 f146 f147 f148 f149 f150 f151 f152 f153 f154 f155 f156 f157 f158 f159 f160 f161 f162 f163 f164 f165 f166 f167 f168 f169 f170 f171 f172 f173 f174 f175 f176 f177 f178 f179 f180 f181 f182 f183 f184 f185 f186 f187 f188 f189 f190 f191 f192 f193 f194 f195 f196 f197 f198 f199 f200 f201 f202 f203 f204 f205 f206 f207 f208 f209 f210 f211 f212 f213 f214 f215 f216 f217 f218 f219 f220 f221 f222 f223 f224 f225 f226 f227 f228 f229 f230 f231 f232 f233 f234 f235 f236 f237 f238 f239 f240 f241 f242 f243 f244 f245 f246 f247 f248 f249 f250 f251 f252 f253 f254 f255 f256 f257 f258 f259 f260 f261 f262 f263 f264 f265 f266 f267 f268 f269 f270 f271 f272 f273 f274 f275 f276 f277 f278 f279 f280 : Value) (r n : Nat) (hn6 : n < 6) (hnr : (r : Int) % 6 = (n : Int)) (bx q : Nat) (ak an sd : Int) (al : Bool) (hsd : 0 ≤ sd ∧ sd ≤ 255) (hq : q ≤ 1000) {w wr : World} {F R : List Nat} {bd bp bm bb : Nat} {sf sl : Value} {full fail : List Int} {bf : Int → Option Value} {fL : Int → Option Value} {st : DSt} {i : Nat} (hi : i ≤ 60)
    (bfis : ∀ y v, bf y = some v → BendIs v) (hfl : full.length ≤ 1000 ∧ ∀ y ∈ full, (Lit.int .i64 y).wf = true) (hll : fail.length ≤ 1000 ∧ ∀ y ∈ fail, (Lit.int .i64 y).wf = true)
    (P : PlayAt w wr F R bd bp bm bb sf sl full fail bf n fL st i) (BX : Blk wr bx #[.int .u8 ak, .int .u8 an, .int .u8 sd, .bool al] 37) {Q : Exit → Act → World → Prop}
    (hQ : ∀ (c27 c28 c29 c30 c31 c32 c33 c34 c35 c36 c37 c38 c39 c126 c127 c128 c129 c130 c131 c132 c133 c134 c135 c136 c137 c138 c139 c140 c141 c142 c143 c144 c145 c146 c147 c148 c149 c150 c151 c152 c153 c154 c155 c156 c157 c158 c159 c160 c161 c162 c163 c164 c165 c166 c167 c168 c169 c170 c171 c172 c173 c174 c175 c176 c177 c178 c179 c180 c181 c182 c183 c184 c185 c186 c187 c188 c189 c190 c191 c192 c193 c194 c195 c196 c197 c198 c199 c200 c201 c202 c203 c204 c205 c206 c207 c208 c209 c210 c211 c212 c213 c214 c215 c216 c217 c218 c219 c220 c221 c222 c223 c224 c225 c226 c227 c228 c229 c230 c231 c232 c233 c234 c235 c236 c237 c238 c239 c240 c241 c242 c243 c244 c245 c246 c247 c248 c249 c250 c251 c252 c253 c254 c255 c256 : Value) (s20 s21 s22 : Int) (st' : DSt) (F' : List Nat) (fL' : Int → Option Value) (wx : World), s20 = st'.puts → s21 = st'.takes → s22 = st'.last → max st.most st'.s = st'.most → PlayAt w wx F' R bd bp bm bb sf sl full fail bf n fL' st' (i + 1) → Q .normal ⟨(Value.int .u8 (r : Int) :: f1 :: f2 :: f3 :: f4 :: f5 :: f6 :: f7 :: f8 :: f9 :: f10 :: Value.pointer (some ⟨bp, 0, none⟩) :: f12 :: f13 :: f14 :: f15 :: f16 :: f17 :: Value.pointer (some ⟨bd, 0, none⟩) :: Value.map (some bm) :: Value.int .i64 s20 :: Value.int .i64 s21 :: Value.int .i64 s22 :: f23 :: f24 :: Value.pointer (some ⟨bx, 0, none⟩) :: Value.int .i64 (q : Int) :: c27 :: c28 :: c29 :: c30 :: c31 :: c32 :: c33 :: c34 :: c35 :: c36 :: c37 :: c38 :: c39 :: f40 :: f41 :: f42 :: f43 :: f44 :: f45 :: f46 :: f47 :: f48 :: f49 :: f50 :: f51 :: f52 :: f53 :: f54 :: f55 :: f56 :: f57 :: f58 :: f59 :: f60 :: f61 :: f62 :: f63 :: f64 :: f65 :: f66 :: f67 :: f68 :: f69 :: f70 :: f71 :: f72 :: f73 :: f74 :: f75 :: f76 :: f77 :: f78 :: f79 :: f80 :: f81 :: f82 :: f83 :: f84 :: f85 :: f86 :: f87 :: f88 :: f89 :: f90 :: f91 :: f92 :: f93 :: f94 :: f95 :: f96 :: f97 :: f98 :: f99 :: f100 :: f101 :: f102 :: f103 :: f104 :: f105 :: f106 :: f107 :: f108 :: f109 :: f110 :: f111 :: f112 :: f113 :: f114 :: f115 :: f116 :: f117 :: f118 :: f119 :: f120 :: f121 :: f122 :: f123 :: f124 :: Value.int .u8 2 :: c126 :: c127 :: c128 :: c129 :: c130 :: c131 :: c132 :: c133 :: c134 :: c135 :: c136 :: c137 :: c138 :: c139 :: c140 :: c141 :: c142 :: c143 :: c144 :: c145 :: c146 :: c147 :: c148 :: c149 :: c150 :: c151 :: c152 :: c153 :: c154 :: c155 :: c156 :: c157 :: c158 :: c159 :: c160 :: c161 :: c162 :: c163 :: c164 :: c165 :: c166 :: c167 :: c168 :: c169 :: c170 :: c171 :: c172 :: c173 :: c174 :: c175 :: c176 :: c177 :: c178 :: c179 :: c180 :: c181 :: c182 :: c183 :: c184 :: c185 :: c186 :: c187 :: c188 :: c189 :: c190 :: c191 :: c192 :: c193 :: c194 :: c195 :: c196 :: c197 :: c198 :: c199 :: c200 :: c201 :: c202 :: c203 :: c204 :: c205 :: c206 :: c207 :: c208 :: c209 :: c210 :: c211 :: c212 :: c213 :: c214 :: c215 :: c216 :: c217 :: c218 :: c219 :: c220 :: c221 :: c222 :: c223 :: c224 :: c225 :: c226 :: c227 :: c228 :: c229 :: c230 :: c231 :: c232 :: c233 :: c234 :: c235 :: c236 :: c237 :: c238 :: c239 :: c240 :: c241 :: c242 :: c243 :: c244 :: c245 :: c246 :: c247 :: c248 :: c249 :: c250 :: c251 :: c252 :: c253 :: c254 :: c255 :: c256 :: f257 :: f258 :: f259 :: f260 :: f261 :: f262 :: f263 :: f264 :: f265 :: f266 :: f267 :: f268 :: f269 :: f270 :: f271 :: f272 :: f273 :: f274 :: f275 :: f276 :: f277 :: f278 :: f279 :: f280 :: List.nil).toArray, []⟩ wx) :
    Code.wp Try.prog (.block 8 (blockOf Try.f3 8)) Q ⟨(Value.int .u8 (r : Int) :: f1 :: f2 :: f3 :: f4 :: f5 :: f6 :: f7 :: f8 :: f9 :: f10 :: Value.pointer (some ⟨bp, 0, none⟩) :: f12 :: f13 :: f14 :: f15 :: f16 :: f17 :: Value.pointer (some ⟨bd, 0, none⟩) :: Value.map (some bm) :: Value.int .i64 (st.puts : Int) :: Value.int .i64 (st.takes : Int) :: Value.int .i64 (st.last : Int) :: f23 :: f24 :: Value.pointer (some ⟨bx, 0, none⟩) :: Value.int .i64 (q : Int) :: f27 :: f28 :: f29 :: f30 :: f31 :: f32 :: f33 :: f34 :: f35 :: f36 :: f37 :: f38 :: f39 :: f40 :: f41 :: f42 :: f43 :: f44 :: f45 :: f46 :: f47 :: f48 :: f49 :: f50 :: f51 :: f52 :: f53 :: f54 :: f55 :: f56 :: f57 :: f58 :: f59 :: f60 :: f61 :: f62 :: f63 :: f64 :: f65 :: f66 :: f67 :: f68 :: f69 :: f70 :: f71 :: f72 :: f73 :: f74 :: f75 :: f76 :: f77 :: f78 :: f79 :: f80 :: f81 :: f82 :: f83 :: f84 :: f85 :: f86 :: f87 :: f88 :: f89 :: f90 :: f91 :: f92 :: f93 :: f94 :: f95 :: f96 :: f97 :: f98 :: f99 :: f100 :: f101 :: f102 :: f103 :: f104 :: f105 :: f106 :: f107 :: f108 :: f109 :: f110 :: f111 :: f112 :: f113 :: f114 :: f115 :: f116 :: f117 :: f118 :: f119 :: f120 :: f121 :: f122 :: f123 :: f124 :: Value.int .u8 2 :: f126 :: f127 :: f128 :: f129 :: f130 :: f131 :: f132 :: f133 :: f134 :: f135 :: f136 :: f137 :: f138 :: f139 :: f140 :: f141 :: f142 :: f143 :: f144 :: f145 :: f146 :: f147 :: f148 :: f149 :: f150 :: f151 :: f152 :: f153 :: f154 :: f155 :: f156 :: f157 :: f158 :: f159 :: f160 :: f161 :: f162 :: f163 :: f164 :: f165 :: f166 :: f167 :: f168 :: f169 :: f170 :: f171 :: f172 :: f173 :: f174 :: f175 :: f176 :: f177 :: f178 :: f179 :: f180 :: f181 :: f182 :: f183 :: f184 :: f185 :: f186 :: f187 :: f188 :: f189 :: f190 :: f191 :: f192 :: f193 :: f194 :: f195 :: f196 :: f197 :: f198 :: f199 :: f200 :: f201 :: f202 :: f203 :: f204 :: f205 :: f206 :: f207 :: f208 :: f209 :: f210 :: f211 :: f212 :: f213 :: f214 :: f215 :: f216 :: f217 :: f218 :: f219 :: f220 :: f221 :: f222 :: f223 :: f224 :: f225 :: f226 :: f227 :: f228 :: f229 :: f230 :: f231 :: f232 :: f233 :: f234 :: f235 :: f236 :: f237 :: f238 :: f239 :: f240 :: f241 :: f242 :: f243 :: f244 :: f245 :: f246 :: f247 :: f248 :: f249 :: f250 :: f251 :: f252 :: f253 :: f254 :: f255 :: f256 :: f257 :: f258 :: f259 :: f260 :: f261 :: f262 :: f263 :: f264 :: f265 :: f266 :: f267 :: f268 :: f269 :: f270 :: f271 :: f272 :: f273 :: f274 :: f275 :: f276 :: f277 :: f278 :: f279 :: f280 :: List.nil).toArray, []⟩ wr := by
  have HQ := Lib.hid hQ
  clear hQ
  change Code.wp Try.prog (.block 8 (Code.seq _ _)) _ _ _
  have hqw : (Lit.int .i64 (q : Int)).wf = true := wfi (by omega)
  have hk := P.map.map.look 35 22 Try.underlying35 (.slice none 0 0) (zero_row wr) true hqw
  have hPm := P.map.map
  have hbm := P.bmF
  cases hb : st.bl (q : Int) with
  | none =>
    have hf := P.map.free hqw hb
    rw [hf] at hk
    simp only [if_true, Option.getD_none, Option.isSome_none] at hk
    go_wp2_with (first
      | (at_delete; refine wpList_drop_mp rfl _ _ 35 rfl 22 Try.underlying35 anyV bm _ fL rfl hPm (q : Int) hqw rfl ?_; intro w1 M1 K1; have D1 := P.dev.calm K1 (by intro k hk _; obtain rfl : k = bm := (by simpa using hk); exact hbm))
      | fail)
    refine (dev_Drop_none _ F R bd _ D1 (q : Int) hqw hb).mono ?_
    rintro e w2 ⟨rfl, rfl⟩
    have P2 := P.noop hf K1 M1
    clear hk hPm P D1 M1 K1
    go_wp2
    exact HQ.out _ _ _ _ _ _ _ _ _ _ _ _ _ _ _ _ _ _ _ _ _ _ _ _ _ _ _ _ _ _ _ _ _ _ _ _ _ _ _ _ _ _ _ _ _ _ _ _ _ _ _ _ _ _ _ _ _ _ _ _ _ _ _ _ _ _ _ _ _ _ _ _ _ _ _ _ _ _ _ _ _ _ _ _ _ _ _ _ _ _ _ _ _ _ _ _ _ _ _ _ _ _ _ _ _ _ _ _ _ _ _ _ _ _ _ _ _ _ _ _ _ _ _ _ _ _ _ _ _ _ _ _ _ _ _ _ _ _ _ _ _ _ _ _ _ _ _ st F _ _ rfl rfl rfl (by have := P2.le; omega) P2
  | some l =>
    obtain ⟨v, hf, ho, hl64, hlb, hoff⟩ := P.map.held hqw hb
    rw [hf] at hk
    simp only [if_true, Option.getD_some, Option.isSome_some] at hk
    go_wp2_with (first
      | (at_delete; refine wpList_drop_mp rfl _ _ 35 rfl 22 Try.underlying35 anyV bm _ fL rfl hPm (q : Int) hqw rfl ?_; intro w1 M1 K1; have D1 := P.dev.calm K1 (by intro k hk _; obtain rfl : k = bm := (by simpa using hk); exact hbm))
      | fail)
    refine (dev_Drop _ F R bd _ D1 (q : Int) hqw l hb).mono ?_
    rintro e w2 ⟨rfl, D2, K2⟩
    have P2 := P.gone' K1 M1 hf D2 K2
    have hle := P.le
    clear hk hPm P D1 M1 K1 D2 K2 ho
    go_wp2
    exact HQ.out _ _ _ _ _ _ _ _ _ _ _ _ _ _ _ _ _ _ _ _ _ _ _ _ _ _ _ _ _ _ _ _ _ _ _ _ _ _ _ _ _ _ _ _ _ _ _ _ _ _ _ _ _ _ _ _ _ _ _ _ _ _ _ _ _ _ _ _ _ _ _ _ _ _ _ _ _ _ _ _ _ _ _ _ _ _ _ _ _ _ _ _ _ _ _ _ _ _ _ _ _ _ _ _ _ _ _ _ _ _ _ _ _ _ _ _ _ _ _ _ _ _ _ _ _ _ _ _ _ _ _ _ _ _ _ _ _ _ _ _ _ _ _ _ _ _ _ (st.without (q : Int)) F _ _ rfl rfl rfl (by show max st.most (st.s - 1) = st.most; omega) P2
end Go.Proofs.Ytmoihbpjcdmmbaa
