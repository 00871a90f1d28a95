/-
  DERIVED. An arm of the switch of the law StorePlays, walked apart.
-/
import Derived.Test.YtmoihbpjcdmmbaaStorePlaysAid2
import Derived.Test.YtmoihbpjcdmmbaaParts
namespace Go.Proofs.Ytmoihbpjcdmmbaa
open Go.RowKit Go.Maps
set_option linter.unusedVariables false

set_option maxRecDepth 100000 in
set_option maxHeartbeats 4000000 in
theorem plays_put (f1 f2 f3 f4 f5 f6 f7 f8 f9 f10 f12 f13 f14 f15 f16 f17 f23 f24 f27 f28 f29 f30 f31 f32 f33 f34 f35 f36 f37 f38 f39 f40 f41 f42 f43 f44 f45 f46 f47 f48 f49 f50 f51 f52 f53 f54 f55 f56 f57 f58 f59 f60 f61 f62 f63 f64 f65 f66 f67 f68 f69 f70 f71 f72 f73 f74 f75 f76 f77 f78 f79 f80 f81 f82 f83 f84 f85 f86 f87 f88 f89 f90 f91 f92 f93 f94 f95 f96 f97 f98 f99 f100 f101 f102 f103 f104 f105 f106 f107 f108 f109 f110 f111 f112 f113 f114 f115 f116 f117 f118 f119 f120 f121 f122 f123 f124 f126 f127 f128 f129 f130 f131 f132 f133 f134 f135 f136 f137 f138 f139 f140 f141 f142 f143 f144 f145 f146 f147 f148 f149 f150 f151 f152 f153 f154 f155 f156 f157 f158 f159 f160 f161 f162 f163 f164 f165 f166 f167 f168 f169 f170 f171 f172 f173 f174 f175 f176 f177 f178 f179 f180 f181 f182 f183 f184 f185 f186 f187 f188 f189 f190 f191 f192 f193 f194 f195 f196 f197 f198 f199 f200 f201 f202 f203 f204 f205 f206 f207 f208 f209 f210 f211 f212 f213 f214 f215 f216 f217 f218 f219 f220 f221 f222 f223 f224 f225 f226 f227 f228 f229 f230 f231 f232 f233 f234 f235 f236 f237 f238 f239 f240 f241 f242 f243 f244 f245 f246 f247 f248 f249 f250 f251 f252 f253 f254 f255 f256 f257 f258 f259 f260 f261 f262 f263 f264 f265 f266 f267 f268 f269 f270 f271 f272 f273 f274 f275 f276 f277 f278 f279 f280 : Value) (r n : Nat) (hn6 : n < 6) (hnr : (r : Int) % 6 = (n : Int)) (bx q : Nat) (ak an sd : Int) (al : Bool) (hsd : 0 ≤ sd ∧ sd ≤ 255) (hq : q ≤ 1000) {w wr : World} {F R : List Nat} {bd bp bm bb : Nat} {sf sl : Value} {full fail : List Int} {bf : Int → Option Value} {fL : Int → Option Value} {st : DSt} {i : Nat} (hi : i ≤ 60)
    (bfis : ∀ y v, bf y = some v → BendIs v) (hfl : full.length ≤ 1000 ∧ ∀ y ∈ full, (Lit.int .i64 y).wf = true) (hll : fail.length ≤ 1000 ∧ ∀ y ∈ fail, (Lit.int .i64 y).wf = true)
    (P : PlayAt w wr F R bd bp bm bb sf sl full fail bf n fL st i) (BX : Blk wr bx #[.int .u8 ak, .int .u8 an, .int .u8 sd, .bool al] 37) {Q : Exit → Act → World → Prop}
    (hQ : ∀ (c27 c28 c29 c30 c31 c32 c33 c34 c35 c36 c37 c38 c39 c126 c127 c128 c129 c130 c131 c132 c133 c134 c135 c136 c137 c138 c139 c140 c141 c142 c143 c144 c145 c146 c147 c148 c149 c150 c151 c152 c153 c154 c155 c156 c157 c158 c159 c160 c161 c162 c163 c164 c165 c166 c167 c168 c169 c170 c171 c172 c173 c174 c175 c176 c177 c178 c179 c180 c181 c182 c183 c184 c185 c186 c187 c188 c189 c190 c191 c192 c193 c194 c195 c196 c197 c198 c199 c200 c201 c202 c203 c204 c205 c206 c207 c208 c209 c210 c211 c212 c213 c214 c215 c216 c217 c218 c219 c220 c221 c222 c223 c224 c225 c226 c227 c228 c229 c230 c231 c232 c233 c234 c235 c236 c237 c238 c239 c240 c241 c242 c243 c244 c245 c246 c247 c248 c249 c250 c251 c252 c253 c254 c255 c256 : Value) (s20 s21 s22 : Int) (st' : DSt) (F' : List Nat) (fL' : Int → Option Value) (wx : World), s20 = st'.puts → s21 = st'.takes → s22 = st'.last → max st.most st'.s = st'.most → PlayAt w wx F' R bd bp bm bb sf sl full fail bf n fL' st' (i + 1) → Q .normal ⟨(Value.int .u8 (r : Int) :: f1 :: f2 :: f3 :: f4 :: f5 :: f6 :: f7 :: f8 :: f9 :: f10 :: Value.pointer (some ⟨bp, 0, none⟩) :: f12 :: f13 :: f14 :: f15 :: f16 :: f17 :: Value.pointer (some ⟨bd, 0, none⟩) :: Value.map (some bm) :: Value.int .i64 s20 :: Value.int .i64 s21 :: Value.int .i64 s22 :: f23 :: f24 :: Value.pointer (some ⟨bx, 0, none⟩) :: Value.int .i64 (q : Int) :: c27 :: c28 :: c29 :: c30 :: c31 :: c32 :: c33 :: c34 :: c35 :: c36 :: c37 :: c38 :: c39 :: f40 :: f41 :: f42 :: f43 :: f44 :: f45 :: f46 :: f47 :: f48 :: f49 :: f50 :: f51 :: f52 :: f53 :: f54 :: f55 :: f56 :: f57 :: f58 :: f59 :: f60 :: f61 :: f62 :: f63 :: f64 :: f65 :: f66 :: f67 :: f68 :: f69 :: f70 :: f71 :: f72 :: f73 :: f74 :: f75 :: f76 :: f77 :: f78 :: f79 :: f80 :: f81 :: f82 :: f83 :: f84 :: f85 :: f86 :: f87 :: f88 :: f89 :: f90 :: f91 :: f92 :: f93 :: f94 :: f95 :: f96 :: f97 :: f98 :: f99 :: f100 :: f101 :: f102 :: f103 :: f104 :: f105 :: f106 :: f107 :: f108 :: f109 :: f110 :: f111 :: f112 :: f113 :: f114 :: f115 :: f116 :: f117 :: f118 :: f119 :: f120 :: f121 :: f122 :: f123 :: f124 :: Value.int .u8 0 :: c126 :: c127 :: c128 :: c129 :: c130 :: c131 :: c132 :: c133 :: c134 :: c135 :: c136 :: c137 :: c138 :: c139 :: c140 :: c141 :: c142 :: c143 :: c144 :: c145 :: c146 :: c147 :: c148 :: c149 :: c150 :: c151 :: c152 :: c153 :: c154 :: c155 :: c156 :: c157 :: c158 :: c159 :: c160 :: c161 :: c162 :: c163 :: c164 :: c165 :: c166 :: c167 :: c168 :: c169 :: c170 :: c171 :: c172 :: c173 :: c174 :: c175 :: c176 :: c177 :: c178 :: c179 :: c180 :: c181 :: c182 :: c183 :: c184 :: c185 :: c186 :: c187 :: c188 :: c189 :: c190 :: c191 :: c192 :: c193 :: c194 :: c195 :: c196 :: c197 :: c198 :: c199 :: c200 :: c201 :: c202 :: c203 :: c204 :: c205 :: c206 :: c207 :: c208 :: c209 :: c210 :: c211 :: c212 :: c213 :: c214 :: c215 :: c216 :: c217 :: c218 :: c219 :: c220 :: c221 :: c222 :: c223 :: c224 :: c225 :: c226 :: c227 :: c228 :: c229 :: c230 :: c231 :: c232 :: c233 :: c234 :: c235 :: c236 :: c237 :: c238 :: c239 :: c240 :: c241 :: c242 :: c243 :: c244 :: c245 :: c246 :: c247 :: c248 :: c249 :: c250 :: c251 :: c252 :: c253 :: c254 :: c255 :: c256 :: f257 :: f258 :: f259 :: f260 :: f261 :: f262 :: f263 :: f264 :: f265 :: f266 :: f267 :: f268 :: f269 :: f270 :: f271 :: f272 :: f273 :: f274 :: f275 :: f276 :: f277 :: f278 :: f279 :: f280 :: List.nil).toArray, []⟩ wx) :
    Code.wp Try.prog (.block 8 (blockOf Try.f3 8)) Q ⟨(Value.int .u8 (r : Int) :: f1 :: f2 :: f3 :: f4 :: f5 :: f6 :: f7 :: f8 :: f9 :: f10 :: Value.pointer (some ⟨bp, 0, none⟩) :: f12 :: f13 :: f14 :: f15 :: f16 :: f17 :: Value.pointer (some ⟨bd, 0, none⟩) :: Value.map (some bm) :: Value.int .i64 (st.puts : Int) :: Value.int .i64 (st.takes : Int) :: Value.int .i64 (st.last : Int) :: f23 :: f24 :: Value.pointer (some ⟨bx, 0, none⟩) :: Value.int .i64 (q : Int) :: f27 :: f28 :: f29 :: f30 :: f31 :: f32 :: f33 :: f34 :: f35 :: f36 :: f37 :: f38 :: f39 :: f40 :: f41 :: f42 :: f43 :: f44 :: f45 :: f46 :: f47 :: f48 :: f49 :: f50 :: f51 :: f52 :: f53 :: f54 :: f55 :: f56 :: f57 :: f58 :: f59 :: f60 :: f61 :: f62 :: f63 :: f64 :: f65 :: f66 :: f67 :: f68 :: f69 :: f70 :: f71 :: f72 :: f73 :: f74 :: f75 :: f76 :: f77 :: f78 :: f79 :: f80 :: f81 :: f82 :: f83 :: f84 :: f85 :: f86 :: f87 :: f88 :: f89 :: f90 :: f91 :: f92 :: f93 :: f94 :: f95 :: f96 :: f97 :: f98 :: f99 :: f100 :: f101 :: f102 :: f103 :: f104 :: f105 :: f106 :: f107 :: f108 :: f109 :: f110 :: f111 :: f112 :: f113 :: f114 :: f115 :: f116 :: f117 :: f118 :: f119 :: f120 :: f121 :: f122 :: f123 :: f124 :: Value.int .u8 0 :: f126 :: f127 :: f128 :: f129 :: f130 :: f131 :: f132 :: f133 :: f134 :: f135 :: f136 :: f137 :: f138 :: f139 :: f140 :: f141 :: f142 :: f143 :: f144 :: f145 :: f146 :: f147 :: f148 :: f149 :: f150 :: f151 :: f152 :: f153 :: f154 :: f155 :: f156 :: f157 :: f158 :: f159 :: f160 :: f161 :: f162 :: f163 :: f164 :: f165 :: f166 :: f167 :: f168 :: f169 :: f170 :: f171 :: f172 :: f173 :: f174 :: f175 :: f176 :: f177 :: f178 :: f179 :: f180 :: f181 :: f182 :: f183 :: f184 :: f185 :: f186 :: f187 :: f188 :: f189 :: f190 :: f191 :: f192 :: f193 :: f194 :: f195 :: f196 :: f197 :: f198 :: f199 :: f200 :: f201 :: f202 :: f203 :: f204 :: f205 :: f206 :: f207 :: f208 :: f209 :: f210 :: f211 :: f212 :: f213 :: f214 :: f215 :: f216 :: f217 :: f218 :: f219 :: f220 :: f221 :: f222 :: f223 :: f224 :: f225 :: f226 :: f227 :: f228 :: f229 :: f230 :: f231 :: f232 :: f233 :: f234 :: f235 :: f236 :: f237 :: f238 :: f239 :: f240 :: f241 :: f242 :: f243 :: f244 :: f245 :: f246 :: f247 :: f248 :: f249 :: f250 :: f251 :: f252 :: f253 :: f254 :: f255 :: f256 :: f257 :: f258 :: f259 :: f260 :: f261 :: f262 :: f263 :: f264 :: f265 :: f266 :: f267 :: f268 :: f269 :: f270 :: f271 :: f272 :: f273 :: f274 :: f275 :: f276 :: f277 :: f278 :: f279 :: f280 :: List.nil).toArray, []⟩ wr := by
  have HQ := Lib.hid hQ
  clear hQ
  change Code.wp Try.prog (.block 8 (Code.seq _ _)) _ _ _
  have bxc := BX.cell
  go_wp2_with fail
  refine (block_any _ sd hsd al).mono ?_
  rintro e w1 ⟨v1, rfl, o1, x1⟩
  have P1 := P.grow x1
  have hFl := P.dev.lt.1
  have hbml := P.map.map.lt
  have hx1 := x1.size
  have hL255 : (blkL sd (if al then sd.toNat else 64)).length ≤ 255 := by rw [blkL_length]; split <;> omega
  have hLb := blkL_bd sd (if al then sd.toNat else 64)
  generalize blkL sd (if al then sd.toNat else 64) = L at *
  obtain ⟨a1, c1, hv1, -, -⟩ := o1.slice
  have A1 := o1.arr hLb
  have hv1F : ∀ k, v1.ownBlock = some k → wr.heap.size ≤ k ∧ k < w1.heap.size := o1.lt
  obtain ⟨e1, e2, e3, e4⟩ := P1.same
  have hcn := P1.cnt
  clear bxc BX x1 P
  by_cases h64 : L.length = 64
  · rw [h64] at hv1
    subst hv1
    have hAF : ∀ w', Calm F w1 w' → Arr w' .u8 (.slice a1 64 c1) L := fun w' hc => (o1.calm hc (fun k hk hin => by have h1 := hFl k hin; have h2 := hv1F k hk; omega)).arr hLb
    have HL := Lib.hid h64
    clear h64
    by_cases hroom : st.s < st.room
    · have hsn : st.s < n := by omega
      have hsnI : (st.s : Int) < (n : Int) := by omega
      by_cases hin : (st.puts : Int) ∈ st.full
      · have hdin : decide ((st.puts : Int) ∈ full) = true := by rw [← e1]; simpa using hin
        go_wp2_with fail
        refine (dev_Put_told _ F R bd _ P1.dev _ L A1 HL.out (by omega) hroom hin).mono ?_
        rintro e w2 ⟨rfl, D2, K2⟩
        have P2 := P1.full' D2 K2
        have hlen2 : ∀ ty, (Builtin.len_ #[35] ty #[.map (some bm)]).run Try.prog w2 = .ok (.int .i64 (st.s : Int)) w2 := P2.map.map.len 35 22 Try.underlying35
        have c2 := P2.plan.box.cell
        have A2 := P2.plan.full.arr hfl.2
        clear D2 K2 P1 A1 hAF o1
        go_wp2_with fail
        refine (among_any _ _ full _ A2 (by omega) (wfi (by omega))).mono ?_
        rintro e w3 ⟨rfl, rfl⟩
        rw [hdin]
        go_wp2
        exact HQ.out _ _ _ _ _ _ _ _ _ _ _ _ _ _ _ _ _ _ _ _ _ _ _ _ _ _ _ _ _ _ _ _ _ _ _ _ _ _ _ _ _ _ _ _ _ _ _ _ _ _ _ _ _ _ _ _ _ _ _ _ _ _ _ _ _ _ _ _ _ _ _ _ _ _ _ _ _ _ _ _ _ _ _ _ _ _ _ _ _ _ _ _ _ _ _ _ _ _ _ _ _ _ _ _ _ _ _ _ _ _ _ _ _ _ _ _ _ _ _ _ _ _ _ _ _ _ _ _ _ _ _ _ _ _ _ _ _ _ _ _ _ _ _ _ _ _ _ { st with puts := st.puts + 1 } F _ _ (by show (st.puts : Int) + 1 = ((st.puts + 1 : Nat) : Int); omega) rfl rfl (by have := P2.le; show max st.most st.s = st.most; have h2 : st.s ≤ st.most := this; omega) P2
      · have hdin : decide ((st.puts : Int) ∈ full) = false := by rw [← e1]; simpa using hin
        go_wp2_with fail
        refine (dev_Put _ F R bd _ P1.dev _ L A1 hAF HL.out (by omega) (by omega) hroom hin P1.nextFree).mono ?_
        rintro e w2 ⟨he, g, D2, K2⟩
        have he' : e = .returned (.tuple #[.int .i64 ((st.last : Int) + 1), .int .i64 0]) := by simpa using he
        subst he'
        have M2 := P1.map.map.calm K2.1 P1.bmF.1
        have hlen2 := M2.len 35 22 Try.underlying35
        have PL2 := P1.plan.calm K2.1 P1.off
        have c2 := PL2.box.cell
        have A2 := PL2.full.arr hfl.2
        have o2 : Own w2 0 (.slice a1 64 c1) L := (o1.calm K2.1 (fun k hk hin => by have h1 := hFl k hin; have h2 := hv1F k hk; omega)).mono (Nat.zero_le _)
        have hvF : ∀ k, (Value.slice a1 64 c1).ownBlock = some k → k ∉ (g :: F) ∧ k ≠ bm := fun k hk => by
          have h2 := hv1F k hk
          refine ⟨fun hin => ?_, by omega⟩
          rcases K2.2 k hin with h1 | h1
          · have := hFl k h1; omega
          · omega
        have hroomle := P1.dev
        clear A1 hAF o1 he
        go_wp2_with fail
        refine (among_any _ _ full _ A2 (by omega) (wfi (by omega))).mono ?_
        rintro e w3 ⟨rfl, rfl⟩
        rw [hdin]
        go_wp2_with (first
          | (at_mapUpdate; refine wpList_store_mp rfl _ _ _ 35 rfl 22 Try.underlying35 anyV bm _ fL rfl M2 (by unfold maxLen; omega) ((st.last : Int) + 1) (wfi (by omega)) (.slice a1 64 c1) rfl rfl rfl ?_; intro w4 M4 K4)
          | fail)
        have P4 := P1.put (by omega) HL.out hLb D2 K2 o2 hvF K4 M4
        clear M2 hlen2 PL2 c2 A2 o2 M4 K4 D2 K2 P1
        exact HQ.out _ _ _ _ _ _ _ _ _ _ _ _ _ _ _ _ _ _ _ _ _ _ _ _ _ _ _ _ _ _ _ _ _ _ _ _ _ _ _ _ _ _ _ _ _ _ _ _ _ _ _ _ _ _ _ _ _ _ _ _ _ _ _ _ _ _ _ _ _ _ _ _ _ _ _ _ _ _ _ _ _ _ _ _ _ _ _ _ _ _ _ _ _ _ _ _ _ _ _ _ _ _ _ _ _ _ _ _ _ _ _ _ _ _ _ _ _ _ _ _ _ _ _ _ _ _ _ _ _ _ _ _ _ _ _ _ _ _ _ _ _ _ _ _ _ _ _ (st.with_ L) (g :: F) _ _ (by show (st.puts : Int) + 1 = ((st.puts + 1 : Nat) : Int); omega) rfl (by show (st.last : Int) + 1 = ((st.last + 1 : Nat) : Int); omega) (by show max st.most (st.s + 1) = max st.most (st.s + 1); rfl) P4
    · have hsn : ¬ st.s < n := by omega
      have hsnI : (n : Int) ≤ (st.s : Int) := by omega
      have hsnN : n ≤ st.s := by omega
      go_wp2_with fail
      refine (dev_Put_full _ F R bd _ P1.dev _ L A1 HL.out (by omega) (by omega)).mono ?_
      rintro e w2 ⟨rfl, D2, K2⟩
      have P2 := P1.full' D2 K2
      have hlen2 : ∀ ty, (Builtin.len_ #[35] ty #[.map (some bm)]).run Try.prog w2 = .ok (.int .i64 (st.s : Int)) w2 := P2.map.map.len 35 22 Try.underlying35
      clear D2 K2 P1 A1 hAF o1
      go_wp2
      exact HQ.out _ _ _ _ _ _ _ _ _ _ _ _ _ _ _ _ _ _ _ _ _ _ _ _ _ _ _ _ _ _ _ _ _ _ _ _ _ _ _ _ _ _ _ _ _ _ _ _ _ _ _ _ _ _ _ _ _ _ _ _ _ _ _ _ _ _ _ _ _ _ _ _ _ _ _ _ _ _ _ _ _ _ _ _ _ _ _ _ _ _ _ _ _ _ _ _ _ _ _ _ _ _ _ _ _ _ _ _ _ _ _ _ _ _ _ _ _ _ _ _ _ _ _ _ _ _ _ _ _ _ _ _ _ _ _ _ _ _ _ _ _ _ _ _ _ _ _ { st with puts := st.puts + 1 } F _ _ (by show (st.puts : Int) + 1 = ((st.puts + 1 : Nat) : Int); omega) rfl rfl (by have := P2.le; show max st.most st.s = st.most; have h2 : st.s ≤ st.most := this; omega) P2
  · subst hv1
    have h64I : (L.length : Int) ≠ 64 := by omega
    go_wp2_with fail
    refine (dev_Put_size _ bd _ L A1 h64).mono ?_
    rintro e w2 ⟨rfl, rfl⟩
    have P2 := P1.idle
    clear P1 A1 o1
    go_wp2
    exact HQ.out _ _ _ _ _ _ _ _ _ _ _ _ _ _ _ _ _ _ _ _ _ _ _ _ _ _ _ _ _ _ _ _ _ _ _ _ _ _ _ _ _ _ _ _ _ _ _ _ _ _ _ _ _ _ _ _ _ _ _ _ _ _ _ _ _ _ _ _ _ _ _ _ _ _ _ _ _ _ _ _ _ _ _ _ _ _ _ _ _ _ _ _ _ _ _ _ _ _ _ _ _ _ _ _ _ _ _ _ _ _ _ _ _ _ _ _ _ _ _ _ _ _ _ _ _ _ _ _ _ _ _ _ _ _ _ _ _ _ _ _ _ _ _ _ _ _ _ st F _ _ rfl rfl rfl (by have := P2.le; omega) P2
end Go.Proofs.Ytmoihbpjcdmmbaa
