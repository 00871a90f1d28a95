/-
  DERIVED. An arm of the switch of the law StorePlays, walked apart.
-/
import Derived.Test.YtmoihbpjcdmmbaaStorePlaysTells
import Derived.Test.YtmoihbpjcdmmbaaParts
namespace Go.Proofs.Ytmoihbpjcdmmbaa
open Go.RowKit Go.Maps
set_option linter.unusedVariables false

set_option maxRecDepth 100000 in
set_option maxHeartbeats 4000000 in
theorem plays_take (f1 f2 f3 f4 f5 f6 f7 f8 f9 f10 f12 f13 f14 f15 f16 f17 f23 f24 f27 f28 f29 f30 f31 f32 f33 f34 f35 f36 f37 f38 f39 f40 f41 f42 f43 f44 f45 f46 f47 f48 f49 f50 f51 f52 f53 f54 f55 f56 f57 f58 f59 f60 f61 f62 f63 f64 f65 f66 f67 f68 f69 f70 f71 f72 f73 f74 f75 f76 f77 f78 f79 f80 f81 f82 f83 f84 f85 f86 f87 f88 f89 f90 f91 f92 f93 f94 f95 f96 f97 f98 f99 f100 f101 f102 f103 f104 f105 f106 f107 f108 f109 f110 f111 f112 f113 f114 f115 f116 f117 f118 f119 f120 f121 f122 f123 f124 f126 f127 f128 f129 f130 f131 f132 f133 f134 f135 f136 f137 f138 f139 f140 f141 f142 f143 f144 f145 f146 f147 f148 f149 f150 f151 f152 f153 f154 f155 f156 f157 f158 f159 f160 f161 f162 f163 f164 f165 f166 f167 f168 f169 f170 f171 f172 f173 f174 f175 f176 f177 f178 f179 f180 f181 f182 f183 f184 f185 f186 f187 f188 f189 f190 f191 f192 f193 f194 f195 f196 f197 f198 f199 f200 f201 f202 f203 f204 f205 f206 f207 f208 f209 f210 f211 f212 f213 f214 f215 f216 f217 f218 f219 f220 f221 f222 f223 f224 f225 f226 f227 f228 f229 f230 f231 f232 f233 f234 f235 f236 f237 f238 f239 f240 f241 f242 f243 f244 f245 f246 f247 f248 f249 f250 f251 f252 f253 f254 f255 f256 f257 f258 f259 f260 f261 f262 f263 f264 f265 f266 f267 f268 f269 f270 f271 f272 f273 f274 f275 f276 f277 f278 f279 f280 : Value) (r n : Nat) (hn6 : n < 6) (hnr : (r : Int) % 6 = (n : Int)) (bx q : Nat) (ak an sd : Int) (al : Bool) (hsd : 0 ≤ sd ∧ sd ≤ 255) (hq : q ≤ 1000) {w wr : World} {F R : List Nat} {bd bp bm bb : Nat} {sf sl : Value} {full fail : List Int} {bf : Int → Option Value} {fL : Int → Option Value} {st : DSt} {i : Nat} (hi : i ≤ 60)
    (bfis : ∀ y v, bf y = some v → BendIs v) (hfl : full.length ≤ 1000 ∧ ∀ y ∈ full, (Lit.int .i64 y).wf = true) (hll : fail.length ≤ 1000 ∧ ∀ y ∈ fail, (Lit.int .i64 y).wf = true)
    (P : PlayAt w wr F R bd bp bm bb sf sl full fail bf n fL st i) (BX : Blk wr bx #[.int .u8 ak, .int .u8 an, .int .u8 sd, .bool al] 37) {Q : Exit → Act → World → Prop}
    (hQ : ∀ (c27 c28 c29 c30 c31 c32 c33 c34 c35 c36 c37 c38 c39 c126 c127 c128 c129 c130 c131 c132 c133 c134 c135 c136 c137 c138 c139 c140 c141 c142 c143 c144 c145 c146 c147 c148 c149 c150 c151 c152 c153 c154 c155 c156 c157 c158 c159 c160 c161 c162 c163 c164 c165 c166 c167 c168 c169 c170 c171 c172 c173 c174 c175 c176 c177 c178 c179 c180 c181 c182 c183 c184 c185 c186 c187 c188 c189 c190 c191 c192 c193 c194 c195 c196 c197 c198 c199 c200 c201 c202 c203 c204 c205 c206 c207 c208 c209 c210 c211 c212 c213 c214 c215 c216 c217 c218 c219 c220 c221 c222 c223 c224 c225 c226 c227 c228 c229 c230 c231 c232 c233 c234 c235 c236 c237 c238 c239 c240 c241 c242 c243 c244 c245 c246 c247 c248 c249 c250 c251 c252 c253 c254 c255 c256 : Value) (s20 s21 s22 : Int) (st' : DSt) (F' : List Nat) (fL' : Int → Option Value) (wx : World), s20 = st'.puts → s21 = st'.takes → s22 = st'.last → max st.most st'.s = st'.most → PlayAt w wx F' R bd bp bm bb sf sl full fail bf n fL' st' (i + 1) → Q .normal ⟨(Value.int .u8 (r : Int) :: f1 :: f2 :: f3 :: f4 :: f5 :: f6 :: f7 :: f8 :: f9 :: f10 :: Value.pointer (some ⟨bp, 0, none⟩) :: f12 :: f13 :: f14 :: f15 :: f16 :: f17 :: Value.pointer (some ⟨bd, 0, none⟩) :: Value.map (some bm) :: Value.int .i64 s20 :: Value.int .i64 s21 :: Value.int .i64 s22 :: f23 :: f24 :: Value.pointer (some ⟨bx, 0, none⟩) :: Value.int .i64 (q : Int) :: c27 :: c28 :: c29 :: c30 :: c31 :: c32 :: c33 :: c34 :: c35 :: c36 :: c37 :: c38 :: c39 :: f40 :: f41 :: f42 :: f43 :: f44 :: f45 :: f46 :: f47 :: f48 :: f49 :: f50 :: f51 :: f52 :: f53 :: f54 :: f55 :: f56 :: f57 :: f58 :: f59 :: f60 :: f61 :: f62 :: f63 :: f64 :: f65 :: f66 :: f67 :: f68 :: f69 :: f70 :: f71 :: f72 :: f73 :: f74 :: f75 :: f76 :: f77 :: f78 :: f79 :: f80 :: f81 :: f82 :: f83 :: f84 :: f85 :: f86 :: f87 :: f88 :: f89 :: f90 :: f91 :: f92 :: f93 :: f94 :: f95 :: f96 :: f97 :: f98 :: f99 :: f100 :: f101 :: f102 :: f103 :: f104 :: f105 :: f106 :: f107 :: f108 :: f109 :: f110 :: f111 :: f112 :: f113 :: f114 :: f115 :: f116 :: f117 :: f118 :: f119 :: f120 :: f121 :: f122 :: f123 :: f124 :: Value.int .u8 1 :: c126 :: c127 :: c128 :: c129 :: c130 :: c131 :: c132 :: c133 :: c134 :: c135 :: c136 :: c137 :: c138 :: c139 :: c140 :: c141 :: c142 :: c143 :: c144 :: c145 :: c146 :: c147 :: c148 :: c149 :: c150 :: c151 :: c152 :: c153 :: c154 :: c155 :: c156 :: c157 :: c158 :: c159 :: c160 :: c161 :: c162 :: c163 :: c164 :: c165 :: c166 :: c167 :: c168 :: c169 :: c170 :: c171 :: c172 :: c173 :: c174 :: c175 :: c176 :: c177 :: c178 :: c179 :: c180 :: c181 :: c182 :: c183 :: c184 :: c185 :: c186 :: c187 :: c188 :: c189 :: c190 :: c191 :: c192 :: c193 :: c194 :: c195 :: c196 :: c197 :: c198 :: c199 :: c200 :: c201 :: c202 :: c203 :: c204 :: c205 :: c206 :: c207 :: c208 :: c209 :: c210 :: c211 :: c212 :: c213 :: c214 :: c215 :: c216 :: c217 :: c218 :: c219 :: c220 :: c221 :: c222 :: c223 :: c224 :: c225 :: c226 :: c227 :: c228 :: c229 :: c230 :: c231 :: c232 :: c233 :: c234 :: c235 :: c236 :: c237 :: c238 :: c239 :: c240 :: c241 :: c242 :: c243 :: c244 :: c245 :: c246 :: c247 :: c248 :: c249 :: c250 :: c251 :: c252 :: c253 :: c254 :: c255 :: c256 :: f257 :: f258 :: f259 :: f260 :: f261 :: f262 :: f263 :: f264 :: f265 :: f266 :: f267 :: f268 :: f269 :: f270 :: f271 :: f272 :: f273 :: f274 :: f275 :: f276 :: f277 :: f278 :: f279 :: f280 :: List.nil).toArray, []⟩ wx) :
    Code.wp Try.prog (.block 8 (blockOf Try.f3 8)) Q ⟨(Value.int .u8 (r : Int) :: f1 :: f2 :: f3 :: f4 :: f5 :: f6 :: f7 :: f8 :: f9 :: f10 :: Value.pointer (some ⟨bp, 0, none⟩) :: f12 :: f13 :: f14 :: f15 :: f16 :: f17 :: Value.pointer (some ⟨bd, 0, none⟩) :: Value.map (some bm) :: Value.int .i64 (st.puts : Int) :: Value.int .i64 (st.takes : Int) :: Value.int .i64 (st.last : Int) :: f23 :: f24 :: Value.pointer (some ⟨bx, 0, none⟩) :: Value.int .i64 (q : Int) :: f27 :: f28 :: f29 :: f30 :: f31 :: f32 :: f33 :: f34 :: f35 :: f36 :: f37 :: f38 :: f39 :: f40 :: f41 :: f42 :: f43 :: f44 :: f45 :: f46 :: f47 :: f48 :: f49 :: f50 :: f51 :: f52 :: f53 :: f54 :: f55 :: f56 :: f57 :: f58 :: f59 :: f60 :: f61 :: f62 :: f63 :: f64 :: f65 :: f66 :: f67 :: f68 :: f69 :: f70 :: f71 :: f72 :: f73 :: f74 :: f75 :: f76 :: f77 :: f78 :: f79 :: f80 :: f81 :: f82 :: f83 :: f84 :: f85 :: f86 :: f87 :: f88 :: f89 :: f90 :: f91 :: f92 :: f93 :: f94 :: f95 :: f96 :: f97 :: f98 :: f99 :: f100 :: f101 :: f102 :: f103 :: f104 :: f105 :: f106 :: f107 :: f108 :: f109 :: f110 :: f111 :: f112 :: f113 :: f114 :: f115 :: f116 :: f117 :: f118 :: f119 :: f120 :: f121 :: f122 :: f123 :: f124 :: Value.int .u8 1 :: f126 :: f127 :: f128 :: f129 :: f130 :: f131 :: f132 :: f133 :: f134 :: f135 :: f136 :: f137 :: f138 :: f139 :: f140 :: f141 :: f142 :: f143 :: f144 :: f145 :: f146 :: f147 :: f148 :: f149 :: f150 :: f151 :: f152 :: f153 :: f154 :: f155 :: f156 :: f157 :: f158 :: f159 :: f160 :: f161 :: f162 :: f163 :: f164 :: f165 :: f166 :: f167 :: f168 :: f169 :: f170 :: f171 :: f172 :: f173 :: f174 :: f175 :: f176 :: f177 :: f178 :: f179 :: f180 :: f181 :: f182 :: f183 :: f184 :: f185 :: f186 :: f187 :: f188 :: f189 :: f190 :: f191 :: f192 :: f193 :: f194 :: f195 :: f196 :: f197 :: f198 :: f199 :: f200 :: f201 :: f202 :: f203 :: f204 :: f205 :: f206 :: f207 :: f208 :: f209 :: f210 :: f211 :: f212 :: f213 :: f214 :: f215 :: f216 :: f217 :: f218 :: f219 :: f220 :: f221 :: f222 :: f223 :: f224 :: f225 :: f226 :: f227 :: f228 :: f229 :: f230 :: f231 :: f232 :: f233 :: f234 :: f235 :: f236 :: f237 :: f238 :: f239 :: f240 :: f241 :: f242 :: f243 :: f244 :: f245 :: f246 :: f247 :: f248 :: f249 :: f250 :: f251 :: f252 :: f253 :: f254 :: f255 :: f256 :: f257 :: f258 :: f259 :: f260 :: f261 :: f262 :: f263 :: f264 :: f265 :: f266 :: f267 :: f268 :: f269 :: f270 :: f271 :: f272 :: f273 :: f274 :: f275 :: f276 :: f277 :: f278 :: f279 :: f280 :: List.nil).toArray, []⟩ wr := by
  have HQ := Lib.hid hQ
  clear hQ
  change Code.wp Try.prog (.block 8 (Code.seq _ _)) _ _ _
  have hqw : (Lit.int .i64 (q : Int)).wf = true := wfi (by omega)
  obtain ⟨e1, e2, e3, e4⟩ := P.same
  have hcn := P.cnt
  have hle := P.le
  have htw : (Lit.int .i64 (st.takes : Int)).wf = true := wfi (by omega)
  cases hb : st.bl (q : Int) with
  | none =>
    have hf := P.map.free hqw hb
    have hk := P.map.map.look 35 22 Try.underlying35 (.slice none 0 0) (zero_row wr) true hqw
    rw [hf] at hk
    simp only [if_true, Option.getD_none, Option.isSome_none] at hk
    have hPm := P.map.map
    go_wp2_with fail
    refine (dev_Take_none _ F R bd _ P.dev (q : Int) hqw hb).mono ?_
    rintro e w1 ⟨rfl, rfl⟩
    go_wp2_with (first
      | (at_delete; refine wpList_drop_mp rfl _ _ 35 rfl 22 Try.underlying35 anyV bm _ fL rfl hPm (q : Int) hqw rfl ?_; intro w2 M2 K2)
      | fail)
    have P2 := P.noop hf K2 M2
    exact HQ.out _ _ _ _ _ _ _ _ _ _ _ _ _ _ _ _ _ _ _ _ _ _ _ _ _ _ _ _ _ _ _ _ _ _ _ _ _ _ _ _ _ _ _ _ _ _ _ _ _ _ _ _ _ _ _ _ _ _ _ _ _ _ _ _ _ _ _ _ _ _ _ _ _ _ _ _ _ _ _ _ _ _ _ _ _ _ _ _ _ _ _ _ _ _ _ _ _ _ _ _ _ _ _ _ _ _ _ _ _ _ _ _ _ _ _ _ _ _ _ _ _ _ _ _ _ _ _ _ _ _ _ _ _ _ _ _ _ _ _ _ _ _ _ _ _ _ _ st F _ _ rfl rfl rfl (by omega) P2
  | some l =>
    obtain ⟨v, hf, ho, hl64, hlb, hoff⟩ := P.map.held hqw hb
    obtain ⟨f, m, hbx, hfb, hmb, hz⟩ : ∃ (f : Int) (m : Nat), (bf (st.takes : Int)).getD (.agg #[.int .i64 0, .int .u32 0]) = .agg #[.int .i64 f, .int .u32 m] ∧ (-9223372036854775808 ≤ f ∧ f ≤ 9223372036854775807) ∧ m < 4294967296 ∧ ((bf (st.takes : Int)).isSome = false → m = 0) := by
      cases hbf : bf (st.takes : Int) with
      | none => exact ⟨0, 0, rfl, by omega, by omega, fun _ => rfl⟩
      | some u =>
        obtain ⟨f, m, rfl, h1, h2⟩ := bfis _ _ hbf
        exact ⟨f, m, rfl, h1, h2, fun h => by cases h⟩
    have hbx' : (st.bends (st.takes : Int)).getD (.agg #[.int .i64 0, .int .u32 0]) = .agg #[.int .i64 f, .int .u32 m] := by rw [e3]; exact hbx
    obtain ⟨is, his⟩ : ∃ is, (bf (st.takes : Int)).isSome = is := ⟨_, rfl⟩
    rw [his] at hz
    have hpr : rightB (putL l) = true := put_right l
    have hpl := putL_length hl64
    have htold := bend_told (putL l) f m hfb hmb (by omega) (by omega) (putL_bd hlb) (put_reg l hlb)
    have HT := Lib.hid htold
    have HPL := Lib.hid hpl
    have HL := Lib.hid hl64
    have HBX := Lib.hid hbx'
    have HB := Lib.hid hb
    clear htold hpl hl64 hbx' hb
    go_wp2_with fail
    refine (dev_Take _ F R bd _ P.dev (q : Int) hqw l HB.out (by omega) f m HBX.out hfb hmb).mono ?_
    rintro e w1 ⟨D1, K1, hcase⟩
    rw [e2] at hcase
    have M1 := P.map.map.calm K1 P.bmF.1
    have hk1 := M1.look 35 22 Try.underlying35 (.slice none 0 0) (zero_row w1) true hqw
    rw [hf] at hk1
    simp only [if_true, Option.getD_some, Option.isSome_some] at hk1
    have ho1 := ho.calm K1 (fun k hk => (hoff k hk).1)
    have PL1 := P.plan.calm K1 P.off
    have hFl := P.dev.lt.1
    have hbml := P.map.map.lt
    clear HBX HB
    rcases hcase with ⟨hbad, rfl⟩ | ⟨hgood, v', rfl, o1⟩
    · have HBAD := Lib.hid hbad
      clear hbad
      go_wp2_with (first
        | (at_delete; refine wpList_drop_mp rfl _ _ 35 rfl 22 Try.underlying35 anyV bm _ fL rfl M1 (q : Int) hqw rfl ?_
           intro w2 M2 K2
           have PL2 := PL1.calm K2 P.offm
           have c2 := PL2.box.cell
           obtain ⟨sB, hsB, MB2⟩ := PL2.bends
           have hk2 := MB2.look 26 32 Try.underlying26 (.agg #[.int .i64 0, .int .u32 0]) (zero_bend w2) true htw
           rw [hbx, his] at hk2
           simp only [if_true] at hk2
           have PL3 := PL2.calm (((Ext.refl w2).alloc #[.int .i64 f, .int .u32 m] 32).calm []) ⟨by simp, by simp, fun _ _ => by simp, fun _ _ => by simp⟩
           have c3 := PL3.box.cell
           have d3 := (Blk.new w2 #[.int .i64 f, .int .u32 m] 32).cell
           have P2 := P.gone (by omega) D1 K1 hf K2 M2
           have E3 := (Ext.refl w2).alloc #[.int .i64 f, .int .u32 m] 32
           have A3 := PL3.fail.arr hll.2
           have ho3 := (ho1.calm K2 (fun k hk hin => (hoff k hk).2 (by simpa using hin))).ext E3)
        | fail)
      refine (among_any _ _ fail _ A3 (by omega) htw).mono ?_
      rintro e w4 ⟨rfl, rfl⟩
      clear hk2 c2 M2 K2 D1 K1 M1 hk1
      cases hfa : decide ((st.takes : Int) ∈ fail)
      · have hrf : rightB (bendL (putL l) f m) = false := by
          have := HBAD.out
          rw [hfa] at this
          simpa using this
        cases is
        · exfalso
          rw [hz rfl, bendL_zero, hpr] at hrf
          cases hrf
        · go_wp2_with fail
          refine (bent_any _ f m hfb hmb v l (ho3.arr hlb) HL.out).mono ?_
          rintro e w4 ⟨v4, rfl, o4, x4⟩
          go_wp2_with fail
          refine (right_any _ _ _ (o4.arr (bendK_bd _ f m (putL_bd hlb) 32)) (by have := bendK_length (putL l) f m 32; have h2 := HPL.out; unfold bendL; omega)).mono ?_
          rintro e w5 ⟨rfl, x5⟩
          rw [hrf]
          go_wp2
          exact HQ.out _ _ _ _ _ _ _ _ _ _ _ _ _ _ _ _ _ _ _ _ _ _ _ _ _ _ _ _ _ _ _ _ _ _ _ _ _ _ _ _ _ _ _ _ _ _ _ _ _ _ _ _ _ _ _ _ _ _ _ _ _ _ _ _ _ _ _ _ _ _ _ _ _ _ _ _ _ _ _ _ _ _ _ _ _ _ _ _ _ _ _ _ _ _ _ _ _ _ _ _ _ _ _ _ _ _ _ _ _ _ _ _ _ _ _ _ _ _ _ _ _ _ _ _ _ _ _ _ _ _ _ _ _ _ _ _ _ _ _ _ _ _ _ _ _ _ _ { st.without (q : Int) with takes := st.takes + 1 } F _ _ rfl (by show (st.takes : Int) + 1 = ((st.takes + 1 : Nat) : Int); omega) rfl (by show max st.most (st.s - 1) = st.most; omega) (P2.grow ((E3.trans x4).trans x5))
      · go_wp2
        exact HQ.out _ _ _ _ _ _ _ _ _ _ _ _ _ _ _ _ _ _ _ _ _ _ _ _ _ _ _ _ _ _ _ _ _ _ _ _ _ _ _ _ _ _ _ _ _ _ _ _ _ _ _ _ _ _ _ _ _ _ _ _ _ _ _ _ _ _ _ _ _ _ _ _ _ _ _ _ _ _ _ _ _ _ _ _ _ _ _ _ _ _ _ _ _ _ _ _ _ _ _ _ _ _ _ _ _ _ _ _ _ _ _ _ _ _ _ _ _ _ _ _ _ _ _ _ _ _ _ _ _ _ _ _ _ _ _ _ _ _ _ _ _ _ _ _ _ _ _ { st.without (q : Int) with takes := st.takes + 1 } F _ _ rfl (by show (st.takes : Int) + 1 = ((st.takes + 1 : Nat) : Int); omega) rfl (by show max st.most (st.s - 1) = st.most; omega) (P2.grow (E3))
    · have HGOOD := Lib.hid hgood
      clear hgood
      go_wp2_with (first
        | (at_delete; refine wpList_drop_mp rfl _ _ 35 rfl 22 Try.underlying35 anyV bm _ fL rfl M1 (q : Int) hqw rfl ?_
           intro w2 M2 K2
           have PL2 := PL1.calm K2 P.offm
           have c2 := PL2.box.cell
           obtain ⟨sB, hsB, MB2⟩ := PL2.bends
           have hk2 := MB2.look 26 32 Try.underlying26 (.agg #[.int .i64 0, .int .u32 0]) (zero_bend w2) true htw
           rw [hbx, his] at hk2
           simp only [if_true] at hk2
           have PL3 := PL2.calm (((Ext.refl w2).alloc #[.int .i64 f, .int .u32 m] 32).calm []) ⟨by simp, by simp, fun _ _ => by simp, fun _ _ => by simp⟩
           have c3 := PL3.box.cell
           have d3 := (Blk.new w2 #[.int .i64 f, .int .u32 m] 32).cell
           have P2 := P.gone (by omega) D1 K1 hf K2 M2
           have E3 := (Ext.refl w2).alloc #[.int .i64 f, .int .u32 m] 32
           have A3 := PL3.fail.arr hll.2
           have ho3 := (ho1.calm K2 (fun k hk hin => (hoff k hk).2 (by simpa using hin))).ext E3)
        | fail)
      refine (among_any _ _ fail _ A3 (by omega) htw).mono ?_
      rintro e w4 ⟨rfl, rfl⟩
      have hfa : decide ((st.takes : Int) ∈ fail) = false := (Bool.or_eq_false_iff.1 HGOOD.out).1
      have hrt : rightB (bendL (putL l) f m) = true := by simpa using (Bool.or_eq_false_iff.1 HGOOD.out).2
      have hX := HT.out hrt
      rw [hX, putL_take HL.out] at o1
      have ov := ((o1.calm K2 (fun k hk hin => by have h1 := (o1.lt k hk).1; simp at hin; omega)).ext E3)
      rw [hfa]
      clear hk2 c2 M2 K2 D1 K1 M1 hk1 HGOOD HT hz
      cases is
      · have sv := ov.str
        have sb := ho3.str
        go_wp2
        exact HQ.out _ _ _ _ _ _ _ _ _ _ _ _ _ _ _ _ _ _ _ _ _ _ _ _ _ _ _ _ _ _ _ _ _ _ _ _ _ _ _ _ _ _ _ _ _ _ _ _ _ _ _ _ _ _ _ _ _ _ _ _ _ _ _ _ _ _ _ _ _ _ _ _ _ _ _ _ _ _ _ _ _ _ _ _ _ _ _ _ _ _ _ _ _ _ _ _ _ _ _ _ _ _ _ _ _ _ _ _ _ _ _ _ _ _ _ _ _ _ _ _ _ _ _ _ _ _ _ _ _ _ _ _ _ _ _ _ _ _ _ _ _ _ _ _ _ _ _ { st.without (q : Int) with takes := st.takes + 1 } F _ _ rfl (by show (st.takes : Int) + 1 = ((st.takes + 1 : Nat) : Int); omega) rfl (by show max st.most (st.s - 1) = st.most; omega) (P2.grow (E3))
      · go_wp2_with fail
        refine (bent_any _ f m hfb hmb v l (ho3.arr hlb) HL.out).mono ?_
        rintro e w4 ⟨v4, rfl, o4, x4⟩
        go_wp2_with fail
        refine (right_any _ _ _ (o4.arr (bendK_bd _ f m (putL_bd hlb) 32)) (by have := bendK_length (putL l) f m 32; have h2 := HPL.out; unfold bendL; omega)).mono ?_
        rintro e w5 ⟨rfl, x5⟩
        rw [hrt]
        have sv := ((ov.ext x4).ext x5).str
        have sb := ((ho3.ext x4).ext x5).str
        go_wp2
        exact HQ.out _ _ _ _ _ _ _ _ _ _ _ _ _ _ _ _ _ _ _ _ _ _ _ _ _ _ _ _ _ _ _ _ _ _ _ _ _ _ _ _ _ _ _ _ _ _ _ _ _ _ _ _ _ _ _ _ _ _ _ _ _ _ _ _ _ _ _ _ _ _ _ _ _ _ _ _ _ _ _ _ _ _ _ _ _ _ _ _ _ _ _ _ _ _ _ _ _ _ _ _ _ _ _ _ _ _ _ _ _ _ _ _ _ _ _ _ _ _ _ _ _ _ _ _ _ _ _ _ _ _ _ _ _ _ _ _ _ _ _ _ _ _ _ _ _ _ _ { st.without (q : Int) with takes := st.takes + 1 } F _ _ rfl (by show (st.takes : Int) + 1 = ((st.takes + 1 : Nat) : Int); omega) rfl (by show max st.most (st.s - 1) = st.most; omega) (P2.grow ((E3.trans x4).trans x5))
end Go.Proofs.Ytmoihbpjcdmmbaa
