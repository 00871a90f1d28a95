/-
  DERIVED. ScriptChecks: its switch (made by mkscrchecks.py).
-/
import Derived.Test.YtbbfmlehddfneaaPkChF
import Derived.Lib.Hide
import Derived.Deep.CutBlock
namespace Go.Proofs.Ytbbfmlehddfneaa
open Go.RowKit
set_option linter.unusedVariables false
theorem dW_fit {st : Stt} {cl : Bool} {dep vx fr : Int} {ix : List Int} (h1 : st.byt) (h2 : I64 dep) (h3 : I64 vx) (h4 : I64 fr) (h5 : ix.length ≤ 1000) : (dW st cl dep vx fr ix).fit := ⟨h1, by simp [dW, Clr.byt], h2, h3, h4, by simp [dW], by simp only [dW]; omega⟩
theorem wfi64' {y : Int} (h : 0 ≤ y ∧ y ≤ 64) : (Lit.int .i64 y).wf = true := by
  have e1 : IntKind.i64.min = -9223372036854775808 := rfl
  have e2 : IntKind.i64.max = 9223372036854775807 := rfl
  simp [Lit.wf, e1, e2]
  omega
theorem st1_byt : st1.byt := by simp [st1, Stt.byt]
set_option maxRecDepth 100000 in
set_option maxHeartbeats 8000000 in
theorem scrchk_b0 (f0 f1 f3 f4 f5 f6 f10 f11 f12 f13 f14 f15 f16 f17 f18 f19 f20 f21 f22 f23 f25 f26 f27 f28 f29 f30 f31 f32 f33 f34 f35 f36 f37 f38 f39 f40 f41 f42 f43 f44 f45 f46 f47 f48 f49 f50 f51 f52 f53 f54 f55 f56 f57 f58 f59 f60 f61 f62 f63 f64 f65 f66 f67 f68 f69 f70 f71 f72 f73 f74 f75 f76 f77 f78 f79 f80 f81 f82 f83 f84 f85 f86 f87 f88 f89 f90 f91 f92 f93 f94 f95 f96 f97 f98 f99 f100 f101 f102 f103 f104 f105 f106 f107 f108 f109 f110 f111 f112 f113 f114 f115 f116 f117 f118 f119 f120 f121 f122 f123 f124 f125 f126 f127 f128 f129 f130 f131 f132 f133 f134 f135 f136 f137 f138 f139 f140 f141 f142 f143 f144 f145 f146 f147 f148 f149 f150 f151 f152 f153 f154 f155 f156 f157 f158 f159 f160 f161 : Value) (b7 b8 lo hi : Nat) (m : ScrM) (x : Scr) (r n : Int) (w0 w : World) (SG : SGood x) (hn : I64 n) (hr : 0 ≤ r ∧ r < 12) (I : ScrIn w lo hi m x) (B7 : Blk w b7 m.l.toArray 42) (B8 : Blk w b8 #[.int .u8 0, .bool false, .int .u8 7, .int .u8 0, .int .u8 0, .int .u8 0, .int .u8 0, .int .u8 0, .int .u8 0, .int .u8 15, .int .u8 0, .int .i64 0, .int .i64 0, .int .i64 64, .int .i64 64, .bool false, .int .u8 0, .int .u8 0, .int .u8 0, .int .u8 0, .int .i64 0, .int .u8 0, .int .u8 0, .int .i64 0, .int .i64 0, .int .u8 0, .slice none 0 0] 67) (h78 : hi ≤ b7 ∧ b7 < b8) (E : Ext w0 w) (hlo : w0.heap.size ≤ lo) (hlh : lo ≤ hi) {Q : Exit → Act → World → Prop}
    (hQ : ∀ (c25 c26 c27 c28 c29 c30 c31 c32 c33 c34 c35 c36 c37 c38 c39 c40 c41 c42 c43 c44 c45 c46 c47 c48 c49 c50 c51 c52 c53 c54 c55 c56 c57 c58 c59 c60 c61 c62 c63 c64 c65 c66 c67 c68 c69 c70 c71 c72 c73 c74 c75 c76 c77 c78 c79 c80 c81 c82 c83 c84 c85 c86 c87 c88 c89 c90 c91 c92 c93 c94 c95 c96 c97 c98 c99 c100 c101 c102 c103 c104 c105 c106 c107 c108 c109 c110 c111 c112 c113 c114 c115 c116 c117 c118 c119 c120 c121 c122 c123 c124 c125 c126 : Value) (want : Int) (wx : World) (m' : ScrM) (x' : Scr) (dm' : DrM) (d' : Dr), Ext w0 wx → Blk wx b7 m'.l.toArray 42 → Blk wx b8 dm'.l.toArray 67 → m'.ds = m.ds → x'.draws = x.draws → (∃ l4, lo ≤ l4 ∧ DBh wx l4 hi m.ds.v x.draws) → ChkR wx (b7 :: m.ds.v.ownBlock.toList) m' x' dm' d' → chkS (fin (decide (r = 5) || (decide (r = 1) && decide (0 < x.draws.length))) x' d') = want → b8 < wx.heap.size → Q .normal ⟨(f0 :: f1 :: Value.int .i64 n :: f3 :: f4 :: f5 :: f6 :: Value.pointer (some ⟨b7, 0, none⟩) :: Value.pointer (some ⟨b8, 0, none⟩) :: Value.int .i64 want :: f10 :: f11 :: f12 :: f13 :: f14 :: f15 :: f16 :: f17 :: f18 :: f19 :: f20 :: f21 :: f22 :: f23 :: Value.int .u8 r :: c25 :: c26 :: c27 :: c28 :: c29 :: c30 :: c31 :: c32 :: c33 :: c34 :: c35 :: c36 :: c37 :: c38 :: c39 :: c40 :: c41 :: c42 :: c43 :: c44 :: c45 :: c46 :: c47 :: c48 :: c49 :: c50 :: c51 :: c52 :: c53 :: c54 :: c55 :: c56 :: c57 :: c58 :: c59 :: c60 :: c61 :: c62 :: c63 :: c64 :: c65 :: c66 :: c67 :: c68 :: c69 :: c70 :: c71 :: c72 :: c73 :: c74 :: c75 :: c76 :: c77 :: c78 :: c79 :: c80 :: c81 :: c82 :: c83 :: c84 :: c85 :: c86 :: c87 :: c88 :: c89 :: c90 :: c91 :: c92 :: c93 :: c94 :: c95 :: c96 :: c97 :: c98 :: c99 :: c100 :: c101 :: c102 :: c103 :: c104 :: c105 :: c106 :: c107 :: c108 :: c109 :: c110 :: c111 :: c112 :: c113 :: c114 :: c115 :: c116 :: c117 :: c118 :: c119 :: c120 :: c121 :: c122 :: c123 :: c124 :: c125 :: c126 :: f127 :: f128 :: f129 :: f130 :: f131 :: f132 :: f133 :: f134 :: f135 :: f136 :: f137 :: f138 :: f139 :: f140 :: f141 :: f142 :: f143 :: f144 :: f145 :: f146 :: f147 :: f148 :: f149 :: f150 :: f151 :: f152 :: f153 :: f154 :: f155 :: f156 :: f157 :: f158 :: f159 :: f160 :: f161 :: List.nil).toArray, []⟩ wx) :
    Code.wp Try.prog (.block 0 (blockOf Try.f4 0)) Q ⟨(f0 :: f1 :: Value.int .i64 n :: f3 :: f4 :: f5 :: f6 :: Value.pointer (some ⟨b7, 0, none⟩) :: Value.pointer (some ⟨b8, 0, none⟩) :: Value.int .i64 0 :: f10 :: f11 :: f12 :: f13 :: f14 :: f15 :: f16 :: f17 :: f18 :: f19 :: f20 :: f21 :: f22 :: f23 :: Value.int .u8 r :: f25 :: f26 :: f27 :: f28 :: f29 :: f30 :: f31 :: f32 :: f33 :: f34 :: f35 :: f36 :: f37 :: f38 :: f39 :: f40 :: f41 :: f42 :: f43 :: f44 :: f45 :: f46 :: f47 :: f48 :: f49 :: f50 :: f51 :: f52 :: f53 :: f54 :: f55 :: f56 :: f57 :: f58 :: f59 :: f60 :: f61 :: f62 :: f63 :: f64 :: f65 :: f66 :: f67 :: f68 :: f69 :: f70 :: f71 :: f72 :: f73 :: f74 :: f75 :: f76 :: f77 :: f78 :: f79 :: f80 :: f81 :: f82 :: f83 :: f84 :: f85 :: f86 :: f87 :: f88 :: f89 :: f90 :: f91 :: f92 :: f93 :: f94 :: f95 :: f96 :: f97 :: f98 :: f99 :: f100 :: f101 :: f102 :: f103 :: f104 :: f105 :: f106 :: f107 :: f108 :: f109 :: f110 :: f111 :: f112 :: f113 :: f114 :: f115 :: f116 :: f117 :: f118 :: f119 :: f120 :: f121 :: f122 :: f123 :: f124 :: f125 :: f126 :: f127 :: f128 :: f129 :: f130 :: f131 :: f132 :: f133 :: f134 :: f135 :: f136 :: f137 :: f138 :: f139 :: f140 :: f141 :: f142 :: f143 :: f144 :: f145 :: f146 :: f147 :: f148 :: f149 :: f150 :: f151 :: f152 :: f153 :: f154 :: f155 :: f156 :: f157 :: f158 :: f159 :: f160 :: f161 :: List.nil).toArray, []⟩ w := by
  have hfit := SG.rd.r0.fit
  have hwf := SG.rd.r0.wf
  have hg := chkS_good SG.chk
  have hcN := chkN_of SG.chk
  have em := I.m
  have eW := I.W
  have eH := I.H
  have hm16 : m.m.length = 16 := by rw [em]; exact hfit.m16
  obtain ⟨cW, cH, mm, ⟨cva, cvn, cvc⟩, ⟨csa, csn, csc⟩, ⟨cpa, cpn, cpc⟩, ⟨cda, cdn, cdc⟩⟩ := m
  dsimp only at hm16 em eW eH
  obtain ⟨k0, k1, k2, k3, k4, k5, k6, k7, k8, k9, k10, k11, k12, k13, k14, k15, rfl⟩ := sixteen mm hm16
  clear hm16
  have B7 : Blk w b7 #[.int .i64 cW, .int .i64 cH, .int .i64 k0, .int .i64 k1, .int .i64 k2, .int .i64 k3, .int .i64 k4, .int .i64 k5, .int .i64 k6, .int .i64 k7, .int .i64 k8, .int .i64 k9, .int .i64 k10, .int .i64 k11, .int .i64 k12, .int .i64 k13, .int .i64 k14, .int .i64 k15, .slice cva cvn cvc, .slice csa csn csc, .slice cpa cpn cpc, .slice cda cdn cdc] 42 := B7
  obtain ⟨-, -, -, h1, l2, h2, l3, h3, l4, ⟨oV, hV⟩, kS2, kP3, kD4, n1, n2, n3, n4, n5, n6, n7, n8⟩ := I
  have hown : ∀ k, (Value.slice cda cdn cdc).ownBlock = some k → l4 ≤ k ∧ k < hi := fun k hk => by
    obtain ⟨dms, d1, -, -, d4, -⟩ := kD4
    exact ⟨(d1.lt k hk).1, d4 k hk⟩
  have hOw : ∀ b ∈ (b7 :: (Value.slice cda cdn cdc).ownBlock.toList), b = b7 ∨ (l4 ≤ b ∧ b < hi) := fun b hb => (List.mem_cons.1 hb).imp id (fun h => hown b (Option.mem_toList.1 h))
  have hkp : ∀ (O : List Nat) u, (∀ b ∈ O, hi ≤ b ∨ (l4 ≤ b ∧ b < hi)) → Calm O w u → PArrG LV u (.slice cva cvn cvc) x.verts ∧ PRd u (.slice csa csn csc) x.sh ∧ PRd u (.slice cpa cpn cpc) x.pa := fun O u hO c =>
    ⟨(VB.calm ⟨oV, hV⟩ c (fun b hb => by rcases hO b hb with h | h <;> right <;> omega)).1.parr, (kS2.calm c (fun b hb => by rcases hO b hb with h | h <;> right <;> omega)).rd, (kP3.calm c (fun b hb => by rcases hO b hb with h | h <;> right <;> omega)).rd⟩
  have hdb : ∀ (O : List Nat) u, (∀ b ∈ O, hi ≤ b) → Calm O w u → ∃ l4, lo ≤ l4 ∧ DBh u l4 hi (.slice cda cdn cdc) x.draws := fun O u hO c => ⟨l4, by omega, kD4.calm c (fun b hb => .inr (hO b hb))⟩
  have hex : ∀ (O : List Nat) u, (∀ b ∈ O, w0.heap.size ≤ b) → Calm O w u → Ext w0 u := fun O u hO c => Ext.calm_trans E c hO
  have HQ := Lib.hid hQ
  have HKP := Lib.hid hkp
  have HDB := Lib.hid hdb
  have HEX := Lib.hid hex
  have HF := Lib.hid hfit
  have HG := Lib.hid hg
  have HN := Lib.hid hcN
  have HM := Lib.hid em
  have HW := Lib.hid eW
  have HH := Lib.hid eH
  have HO := Lib.hid hOw
  have HV := Lib.hid (⟨oV, hV⟩ : OwnG LV w lo (.slice cva cvn cvc) x.verts ∧ _)
  have HP2 := Lib.hid kS2
  have HP3 := Lib.hid kP3
  have HD4 := Lib.hid kD4
  clear hQ hkp hdb hex hfit hg hcN em eW eH hOw oV hV kS2 kP3 kD4 hown hwf
  have cB7 := B7.cell
  have fB7 := B7.frozen
  have cB8 := B8.cell
  have fB8 := B8.frozen
  have hb7 := B7.lt
  have hb8 := B8.lt
  unfold I64 at hn
  have hnw : IntKind.i64.wrap n = n := by rw [IntKind.wrap_i64]; omega
  have h12 : r = 0 ∨ r = 1 ∨ r = 2 ∨ r = 3 ∨ r = 4 ∨ r = 5 ∨ r = 6 ∨ r = 7 ∨ r = 8 ∨ r = 9 ∨ r = 10 ∨ r = 11 := by omega
  clear hr
  change Code.wp Try.prog (.block 0 (Code.seq _ _)) _ _ _
  rcases h12 with rfl | rfl | rfl | rfl | rfl | rfl | rfl | rfl | rfl | rfl | rfl | rfl
  · have f7 : Scr.fit ⟨n, x.H, x.m, x.verts, x.sh, x.pa, x.draws⟩ := ⟨(by unfold I64; simp only; omega), HF.out.H, HF.out.m16, HF.out.m, HF.out.v, HF.out.vl, HF.out.s, HF.out.sl, HF.out.p, HF.out.pl, HF.out.d, HF.out.dl⟩
    rcases Int.lt_or_le n (1) with g1 | g1
    · have g2 : n < (1) ∨ (64) < n := .inl g1
      go_wp2
      have kS := calm_setP w b7 0 (.int .i64 n)
      have e7 : Blk (w.setCell ⟨b7, 0, none⟩ (.int .i64 n)) b7 (ScrM.l ⟨n, cH, [k0, k1, k2, k3, k4, k5, k6, k7, k8, k9, k10, k11, k12, k13, k14, k15], ⟨cva, cvn, cvc⟩, ⟨csa, csn, csc⟩, ⟨cpa, cpn, cpc⟩, ⟨cda, cdn, cdc⟩⟩).toArray 42 := by simpa [ScrM.l] using B7.set 0 (.int .i64 n)
      have e8 := B8.far (p := ⟨b7, 0, none⟩) (by simp only; omega) (.int .i64 n)
      exact HQ.out _ _ _ _ _ _ _ _ _ _ _ _ _ _ _ _ _ _ _ _ _ _ _ _ _ _ _ _ _ _ _ _ _ _ _ _ _ _ _ _ _ _ _ _ _ _ _ _ _ _ _ _ _ _ _ _ _ _ _ _ _ _ _ _ _ _ _ _ _ _ _ _ _ _ _ _ _ _ _ _ _ _ _ _ _ _ _ _ _ _ _ _ _ _ _ _ _ _ _ _ _ _ 6 _ ⟨n, cH, [k0, k1, k2, k3, k4, k5, k6, k7, k8, k9, k10, k11, k12, k13, k14, k15], ⟨cva, cvn, cvc⟩, ⟨csa, csn, csc⟩, ⟨cpa, cpn, cpc⟩, ⟨cda, cdn, cdc⟩⟩ ⟨n, x.H, x.m, x.verts, x.sh, x.pa, x.draws⟩ ⟨st1, false, ⟨0, 0, 0, 0, 0, 0, 0⟩, 0, 0, 0, SlV.nil⟩ (dW st1 false 0 0 0 []) (HEX.out [b7] _ (fun b hb => by rw [List.mem_singleton.1 hb]; omega) kS) (e7) (e8) rfl rfl (HDB.out [b7] _ (fun b hb => by rw [List.mem_singleton.1 hb]; omega) kS) (⟨rfl, HH.out, HM.out, fun u c => by obtain ⟨a1, a2, a3⟩ := HKP.out (b7 :: (Value.slice cda cdn cdc).ownBlock.toList) u (fun b hb => by rcases HO.out b hb with h | h; (left; rw [h]; omega); exact .inr h) ((kS.sub (fun b hb => by simp at hb; simp [hb])).trans c); exact ⟨a1, a2, a3, Arr.nilI u⟩, ⟨rfl, rfl, rfl, rfl, rfl, rfl⟩, f7, dW_fit st1_byt (by simp [I64]) (by simp [I64]) (by simp [I64]) (by simp)⟩) (by rw [show (decide ((0 : Int) = 5) || (decide ((0 : Int) = 1) && decide (0 < x.draws.length))) = false by simp, fin_W SG, if_pos g2]) (by have := (e8).lt; exact this)
    · rcases Int.lt_or_le (64) n with g3 | g3
      · have g2 : n < (1) ∨ (64) < n := .inr g3
        go_wp2
        have kS := calm_setP w b7 0 (.int .i64 n)
        have e7 : Blk (w.setCell ⟨b7, 0, none⟩ (.int .i64 n)) b7 (ScrM.l ⟨n, cH, [k0, k1, k2, k3, k4, k5, k6, k7, k8, k9, k10, k11, k12, k13, k14, k15], ⟨cva, cvn, cvc⟩, ⟨csa, csn, csc⟩, ⟨cpa, cpn, cpc⟩, ⟨cda, cdn, cdc⟩⟩).toArray 42 := by simpa [ScrM.l] using B7.set 0 (.int .i64 n)
        have e8 := B8.far (p := ⟨b7, 0, none⟩) (by simp only; omega) (.int .i64 n)
        exact HQ.out _ _ _ _ _ _ _ _ _ _ _ _ _ _ _ _ _ _ _ _ _ _ _ _ _ _ _ _ _ _ _ _ _ _ _ _ _ _ _ _ _ _ _ _ _ _ _ _ _ _ _ _ _ _ _ _ _ _ _ _ _ _ _ _ _ _ _ _ _ _ _ _ _ _ _ _ _ _ _ _ _ _ _ _ _ _ _ _ _ _ _ _ _ _ _ _ _ _ _ _ _ _ 6 _ ⟨n, cH, [k0, k1, k2, k3, k4, k5, k6, k7, k8, k9, k10, k11, k12, k13, k14, k15], ⟨cva, cvn, cvc⟩, ⟨csa, csn, csc⟩, ⟨cpa, cpn, cpc⟩, ⟨cda, cdn, cdc⟩⟩ ⟨n, x.H, x.m, x.verts, x.sh, x.pa, x.draws⟩ ⟨st1, false, ⟨0, 0, 0, 0, 0, 0, 0⟩, 0, 0, 0, SlV.nil⟩ (dW st1 false 0 0 0 []) (HEX.out [b7] _ (fun b hb => by rw [List.mem_singleton.1 hb]; omega) kS) (e7) (e8) rfl rfl (HDB.out [b7] _ (fun b hb => by rw [List.mem_singleton.1 hb]; omega) kS) (⟨rfl, HH.out, HM.out, fun u c => by obtain ⟨a1, a2, a3⟩ := HKP.out (b7 :: (Value.slice cda cdn cdc).ownBlock.toList) u (fun b hb => by rcases HO.out b hb with h | h; (left; rw [h]; omega); exact .inr h) ((kS.sub (fun b hb => by simp at hb; simp [hb])).trans c); exact ⟨a1, a2, a3, Arr.nilI u⟩, ⟨rfl, rfl, rfl, rfl, rfl, rfl⟩, f7, dW_fit st1_byt (by simp [I64]) (by simp [I64]) (by simp [I64]) (by simp)⟩) (by rw [show (decide ((0 : Int) = 5) || (decide ((0 : Int) = 1) && decide (0 < x.draws.length))) = false by simp, fin_W SG, if_pos g2]) (by have := (e8).lt; exact this)
      · have g2 : ¬ (n < (1) ∨ (64) < n) := by omega
        go_wp2
        have kS := calm_setP w b7 0 (.int .i64 n)
        have e7 : Blk (w.setCell ⟨b7, 0, none⟩ (.int .i64 n)) b7 (ScrM.l ⟨n, cH, [k0, k1, k2, k3, k4, k5, k6, k7, k8, k9, k10, k11, k12, k13, k14, k15], ⟨cva, cvn, cvc⟩, ⟨csa, csn, csc⟩, ⟨cpa, cpn, cpc⟩, ⟨cda, cdn, cdc⟩⟩).toArray 42 := by simpa [ScrM.l] using B7.set 0 (.int .i64 n)
        have e8 := B8.far (p := ⟨b7, 0, none⟩) (by simp only; omega) (.int .i64 n)
        exact HQ.out _ _ _ _ _ _ _ _ _ _ _ _ _ _ _ _ _ _ _ _ _ _ _ _ _ _ _ _ _ _ _ _ _ _ _ _ _ _ _ _ _ _ _ _ _ _ _ _ _ _ _ _ _ _ _ _ _ _ _ _ _ _ _ _ _ _ _ _ _ _ _ _ _ _ _ _ _ _ _ _ _ _ _ _ _ _ _ _ _ _ _ _ _ _ _ _ _ _ _ _ _ _ 0 _ ⟨n, cH, [k0, k1, k2, k3, k4, k5, k6, k7, k8, k9, k10, k11, k12, k13, k14, k15], ⟨cva, cvn, cvc⟩, ⟨csa, csn, csc⟩, ⟨cpa, cpn, cpc⟩, ⟨cda, cdn, cdc⟩⟩ ⟨n, x.H, x.m, x.verts, x.sh, x.pa, x.draws⟩ ⟨st1, false, ⟨0, 0, 0, 0, 0, 0, 0⟩, 0, 0, 0, SlV.nil⟩ (dW st1 false 0 0 0 []) (HEX.out [b7] _ (fun b hb => by rw [List.mem_singleton.1 hb]; omega) kS) (e7) (e8) rfl rfl (HDB.out [b7] _ (fun b hb => by rw [List.mem_singleton.1 hb]; omega) kS) (⟨rfl, HH.out, HM.out, fun u c => by obtain ⟨a1, a2, a3⟩ := HKP.out (b7 :: (Value.slice cda cdn cdc).ownBlock.toList) u (fun b hb => by rcases HO.out b hb with h | h; (left; rw [h]; omega); exact .inr h) ((kS.sub (fun b hb => by simp at hb; simp [hb])).trans c); exact ⟨a1, a2, a3, Arr.nilI u⟩, ⟨rfl, rfl, rfl, rfl, rfl, rfl⟩, f7, dW_fit st1_byt (by simp [I64]) (by simp [I64]) (by simp [I64]) (by simp)⟩) (by rw [show (decide ((0 : Int) = 5) || (decide ((0 : Int) = 1) && decide (0 < x.draws.length))) = false by simp, fin_W SG, if_neg g2]) (by have := (e8).lt; exact this)
  · obtain ⟨ZV, hZV⟩ : ∃ Z, madeCells LV.zero.cells (65 * LV.n) = Z := ⟨_, rfl⟩
    have hmk : (Instr.makeSlice 38 (.int .i64 65) (.int .i64 65)).run Try.prog w = .ok (.slice (some ⟨w.heap.size, 0, none⟩) 65 65) (w.alloc (.cells ZV 69)) := by
      have := make_g LV 65 (by omega) w
      rw [hZV] at this
      exact this
    have hon := own_made_g LV ⟨0, 0, 0, 0, 0, 0, 0, 0⟩ rfl 65 (by omega) (w.setCell ⟨b7, 18, none⟩ (.slice (some ⟨w.heap.size, 0, none⟩) 65 65))
    rw [hZV] at hon
    have hsz : (w.setCell ⟨b7, 18, none⟩ (.slice (some ⟨w.heap.size, 0, none⟩) 65 65)).heap.size = w.heap.size := by simp
    have HSZ := Lib.hid hsz
    have HON := Lib.hid hon
    clear hZV hsz hon
    go_wp2
    have o9 := HON.out
    rw [HSZ.out] at o9
    have y9 : Ext (w.setCell ⟨b7, 18, none⟩ (.slice (some ⟨w.heap.size, 0, none⟩) 65 65)) ((w.setCell ⟨b7, 18, none⟩ (.slice (some ⟨w.heap.size, 0, none⟩) 65 65)).alloc (.cells ZV 69)) := (Ext.refl _).alloc _ _
    have kS : Calm [b7] w ((w.setCell ⟨b7, 18, none⟩ (.slice (some ⟨w.heap.size, 0, none⟩) 65 65)).alloc (.cells ZV 69)) := (calm_setP w b7 18 _).trans (y9.calm _)
    have e7 : Blk ((w.setCell ⟨b7, 18, none⟩ (.slice (some ⟨w.heap.size, 0, none⟩) 65 65)).alloc (.cells ZV 69)) b7 (ScrM.l ⟨cW, cH, [k0, k1, k2, k3, k4, k5, k6, k7, k8, k9, k10, k11, k12, k13, k14, k15], ⟨some ⟨w.heap.size, 0, none⟩, 65, 65⟩, ⟨csa, csn, csc⟩, ⟨cpa, cpn, cpc⟩, ⟨cda, cdn, cdc⟩⟩).toArray 42 := by
      have := (B7.set 18 (.slice (some ⟨w.heap.size, 0, none⟩) 65 65)).ext y9
      simpa [ScrM.l] using this
    have e8 := (B8.far (p := ⟨b7, 18, none⟩) (by simp only; omega) (.slice (some ⟨w.heap.size, 0, none⟩) 65 65)).ext y9
    have f7 : Scr.fit ⟨x.W, x.H, x.m, (List.replicate 65 ⟨0, 0, 0, 0, 0, 0, 0, 0⟩), x.sh, x.pa, x.draws⟩ := ⟨HF.out.W, HF.out.H, HF.out.m16, HF.out.m, (fun v hv => by rw [List.eq_of_mem_replicate hv]; simp [V8.fit, I64]), (by simp), HF.out.s, HF.out.sl, HF.out.p, HF.out.pl, HF.out.d, HF.out.dl⟩
    have hOl : ∀ b ∈ (b7 :: (Value.slice cda cdn cdc).ownBlock.toList), b < w.heap.size := fun b hb => by rcases HO.out b hb with h | h <;> omega
    exact HQ.out _ _ _ _ _ _ _ _ _ _ _ _ _ _ _ _ _ _ _ _ _ _ _ _ _ _ _ _ _ _ _ _ _ _ _ _ _ _ _ _ _ _ _ _ _ _ _ _ _ _ _ _ _ _ _ _ _ _ _ _ _ _ _ _ _ _ _ _ _ _ _ _ _ _ _ _ _ _ _ _ _ _ _ _ _ _ _ _ _ _ _ _ _ _ _ _ _ _ _ _ _ _ 7 _ ⟨cW, cH, [k0, k1, k2, k3, k4, k5, k6, k7, k8, k9, k10, k11, k12, k13, k14, k15], ⟨some ⟨w.heap.size, 0, none⟩, 65, 65⟩, ⟨csa, csn, csc⟩, ⟨cpa, cpn, cpc⟩, ⟨cda, cdn, cdc⟩⟩ ⟨x.W, x.H, x.m, (List.replicate 65 ⟨0, 0, 0, 0, 0, 0, 0, 0⟩), x.sh, x.pa, x.draws⟩ ⟨st1, false, ⟨0, 0, 0, 0, 0, 0, 0⟩, 0, 0, 0, SlV.nil⟩ (dW st1 false 0 0 0 []) (HEX.out [b7] _ (fun b hb => by rw [List.mem_singleton.1 hb]; omega) kS) (e7) (e8) rfl rfl (HDB.out [b7] _ (fun b hb => by rw [List.mem_singleton.1 hb]; omega) kS) (⟨HW.out, HH.out, HM.out, fun u c => by obtain ⟨a1, a2, a3⟩ := HKP.out (b7 :: (Value.slice cda cdn cdc).ownBlock.toList) u (fun b hb => by rcases HO.out b hb with h | h; (left; rw [h]; omega); exact .inr h) ((kS.sub (fun b hb => by simp at hb; simp [hb])).trans c); exact ⟨(o9.keep hOl c).parr, a2, a3, Arr.nilI u⟩, ⟨rfl, rfl, rfl, rfl, rfl, rfl⟩, f7, dW_fit st1_byt (by simp [I64]) (by simp [I64]) (by simp [I64]) (by simp)⟩) (fin_many SG _ _ _ _ (.inl (by simp))) (by have := (e8).lt; exact this)
  · obtain ⟨ZV, hZV⟩ : ∃ Z, madeCells LP.zero.cells (5 * LP.n) = Z := ⟨_, rfl⟩
    have hmk : (Instr.makeSlice 39 (.int .i64 5) (.int .i64 5)).run Try.prog w = .ok (.slice (some ⟨w.heap.size, 0, none⟩) 5 5) (w.alloc (.cells ZV 74)) := by
      have := make_g LP 5 (by omega) w
      rw [hZV] at this
      exact this
    have hon := own_made_g LP SlV.nil rfl 5 (by omega) (w.setCell ⟨b7, 20, none⟩ (.slice (some ⟨w.heap.size, 0, none⟩) 5 5))
    rw [hZV] at hon
    have hsz : (w.setCell ⟨b7, 20, none⟩ (.slice (some ⟨w.heap.size, 0, none⟩) 5 5)).heap.size = w.heap.size := by simp
    have HSZ := Lib.hid hsz
    have HON := Lib.hid hon
    clear hZV hsz hon
    go_wp2
    have o9 := HON.out
    rw [HSZ.out] at o9
    have y9 : Ext (w.setCell ⟨b7, 20, none⟩ (.slice (some ⟨w.heap.size, 0, none⟩) 5 5)) ((w.setCell ⟨b7, 20, none⟩ (.slice (some ⟨w.heap.size, 0, none⟩) 5 5)).alloc (.cells ZV 74)) := (Ext.refl _).alloc _ _
    have kS : Calm [b7] w ((w.setCell ⟨b7, 20, none⟩ (.slice (some ⟨w.heap.size, 0, none⟩) 5 5)).alloc (.cells ZV 74)) := (calm_setP w b7 20 _).trans (y9.calm _)
    have e7 : Blk ((w.setCell ⟨b7, 20, none⟩ (.slice (some ⟨w.heap.size, 0, none⟩) 5 5)).alloc (.cells ZV 74)) b7 (ScrM.l ⟨cW, cH, [k0, k1, k2, k3, k4, k5, k6, k7, k8, k9, k10, k11, k12, k13, k14, k15], ⟨cva, cvn, cvc⟩, ⟨csa, csn, csc⟩, ⟨some ⟨w.heap.size, 0, none⟩, 5, 5⟩, ⟨cda, cdn, cdc⟩⟩).toArray 42 := by
      have := (B7.set 20 (.slice (some ⟨w.heap.size, 0, none⟩) 5 5)).ext y9
      simpa [ScrM.l] using this
    have e8 := (B8.far (p := ⟨b7, 20, none⟩) (by simp only; omega) (.slice (some ⟨w.heap.size, 0, none⟩) 5 5)).ext y9
    have f7 : Scr.fit ⟨x.W, x.H, x.m, x.verts, x.sh, (List.replicate 5 []), x.draws⟩ := ⟨HF.out.W, HF.out.H, HF.out.m16, HF.out.m, HF.out.v, HF.out.vl, HF.out.s, HF.out.sl, (fun v hv => by rw [List.eq_of_mem_replicate hv]; exact ⟨by simp, fun i hi => by cases hi⟩), (by simp), HF.out.d, HF.out.dl⟩
    have hOl : ∀ b ∈ (b7 :: (Value.slice cda cdn cdc).ownBlock.toList), b < w.heap.size := fun b hb => by rcases HO.out b hb with h | h <;> omega
    have hpr : ∀ u, OwnG LP u w.heap.size (.slice (some ⟨w.heap.size, 0, none⟩) 5 5) (List.replicate 5 SlV.nil) → PRd u (.slice (some ⟨w.heap.size, 0, none⟩) 5 5) (List.replicate 5 []) := fun u o => ⟨_, o.parr, by simp, fun i t ht => by
      have h5 : i < 5 := by have := (List.getElem?_eq_some_iff.1 ht).1; simpa using this
      rw [List.getElem?_replicate, if_pos h5] at ht
      cases ht
      exact ⟨[], by rw [List.getElem?_replicate, if_pos h5], PArr.nil _, fun k hk => by cases hk⟩⟩
    exact HQ.out _ _ _ _ _ _ _ _ _ _ _ _ _ _ _ _ _ _ _ _ _ _ _ _ _ _ _ _ _ _ _ _ _ _ _ _ _ _ _ _ _ _ _ _ _ _ _ _ _ _ _ _ _ _ _ _ _ _ _ _ _ _ _ _ _ _ _ _ _ _ _ _ _ _ _ _ _ _ _ _ _ _ _ _ _ _ _ _ _ _ _ _ _ _ _ _ _ _ _ _ _ _ 7 _ ⟨cW, cH, [k0, k1, k2, k3, k4, k5, k6, k7, k8, k9, k10, k11, k12, k13, k14, k15], ⟨cva, cvn, cvc⟩, ⟨csa, csn, csc⟩, ⟨some ⟨w.heap.size, 0, none⟩, 5, 5⟩, ⟨cda, cdn, cdc⟩⟩ ⟨x.W, x.H, x.m, x.verts, x.sh, (List.replicate 5 []), x.draws⟩ ⟨st1, false, ⟨0, 0, 0, 0, 0, 0, 0⟩, 0, 0, 0, SlV.nil⟩ (dW st1 false 0 0 0 []) (HEX.out [b7] _ (fun b hb => by rw [List.mem_singleton.1 hb]; omega) kS) (e7) (e8) rfl rfl (HDB.out [b7] _ (fun b hb => by rw [List.mem_singleton.1 hb]; omega) kS) (⟨HW.out, HH.out, HM.out, fun u c => by obtain ⟨a1, a2, a3⟩ := HKP.out (b7 :: (Value.slice cda cdn cdc).ownBlock.toList) u (fun b hb => by rcases HO.out b hb with h | h; (left; rw [h]; omega); exact .inr h) ((kS.sub (fun b hb => by simp at hb; simp [hb])).trans c); exact ⟨a1, a2, hpr u (o9.keep hOl c), Arr.nilI u⟩, ⟨rfl, rfl, rfl, rfl, rfl, rfl⟩, f7, dW_fit st1_byt (by simp [I64]) (by simp [I64]) (by simp [I64]) (by simp)⟩) (fin_many SG _ _ _ _ (.inr (by simp))) (by have := (e8).lt; exact this)
  · have fm : ∀ y ∈ ([k0, k1, k2, k3, k4, k5, n, k7, k8, k9, k10, k11, k12, k13, k14, k15] : List Int), I64 y := fun y hy => by
      simp only [List.mem_cons, List.not_mem_nil, or_false] at hy
      rcases hy with rfl | rfl | rfl | rfl | rfl | rfl | rfl | rfl | rfl | rfl | rfl | rfl | rfl | rfl | rfl | rfl
      · exact HF.out.m _ (by rw [← HM.out]; simp)
      · exact HF.out.m _ (by rw [← HM.out]; simp)
      · exact HF.out.m _ (by rw [← HM.out]; simp)
      · exact HF.out.m _ (by rw [← HM.out]; simp)
      · exact HF.out.m _ (by rw [← HM.out]; simp)
      · exact HF.out.m _ (by rw [← HM.out]; simp)
      · unfold I64; omega
      · exact HF.out.m _ (by rw [← HM.out]; simp)
      · exact HF.out.m _ (by rw [← HM.out]; simp)
      · exact HF.out.m _ (by rw [← HM.out]; simp)
      · exact HF.out.m _ (by rw [← HM.out]; simp)
      · exact HF.out.m _ (by rw [← HM.out]; simp)
      · exact HF.out.m _ (by rw [← HM.out]; simp)
      · exact HF.out.m _ (by rw [← HM.out]; simp)
      · exact HF.out.m _ (by rw [← HM.out]; simp)
      · exact HF.out.m _ (by rw [← HM.out]; simp)
    have f7 : Scr.fit ⟨x.W, x.H, [k0, k1, k2, k3, k4, k5, n, k7, k8, k9, k10, k11, k12, k13, k14, k15], x.verts, x.sh, x.pa, x.draws⟩ := ⟨HF.out.W, HF.out.H, rfl, fm, HF.out.v, HF.out.vl, HF.out.s, HF.out.sl, HF.out.p, HF.out.pl, HF.out.d, HF.out.dl⟩
    have hall : ([k0, k1, k2, k3, k4, k5, n, k7, k8, k9, k10, k11, k12, k13, k14, k15] : List Int).all (inB 2147483647) = inB 2147483647 n := by
      have h1 := HN.out
      unfold chkN at h1
      rw [Bool.and_eq_true] at h1
      have h2 := h1.1
      rw [← HM.out] at h2
      simp only [List.all_cons, List.all_nil, Bool.and_true, Bool.and_eq_true] at h2 ⊢
      simp [h2]
    rcases Int.lt_or_le n (-2147483647) with g1 | g1
    · have g2 : n < (-2147483647) ∨ (2147483647) < n := .inl g1
      go_wp2
      have kS := calm_setP w b7 8 (.int .i64 n)
      have e7 : Blk (w.setCell ⟨b7, 8, none⟩ (.int .i64 n)) b7 (ScrM.l ⟨cW, cH, [k0, k1, k2, k3, k4, k5, n, k7, k8, k9, k10, k11, k12, k13, k14, k15], ⟨cva, cvn, cvc⟩, ⟨csa, csn, csc⟩, ⟨cpa, cpn, cpc⟩, ⟨cda, cdn, cdc⟩⟩).toArray 42 := by simpa [ScrM.l] using B7.set 8 (.int .i64 n)
      have e8 := B8.far (p := ⟨b7, 8, none⟩) (by simp only; omega) (.int .i64 n)
      exact HQ.out _ _ _ _ _ _ _ _ _ _ _ _ _ _ _ _ _ _ _ _ _ _ _ _ _ _ _ _ _ _ _ _ _ _ _ _ _ _ _ _ _ _ _ _ _ _ _ _ _ _ _ _ _ _ _ _ _ _ _ _ _ _ _ _ _ _ _ _ _ _ _ _ _ _ _ _ _ _ _ _ _ _ _ _ _ _ _ _ _ _ _ _ _ _ _ _ _ _ _ _ _ _ 2 _ ⟨cW, cH, [k0, k1, k2, k3, k4, k5, n, k7, k8, k9, k10, k11, k12, k13, k14, k15], ⟨cva, cvn, cvc⟩, ⟨csa, csn, csc⟩, ⟨cpa, cpn, cpc⟩, ⟨cda, cdn, cdc⟩⟩ ⟨x.W, x.H, [k0, k1, k2, k3, k4, k5, n, k7, k8, k9, k10, k11, k12, k13, k14, k15], x.verts, x.sh, x.pa, x.draws⟩ ⟨st1, false, ⟨0, 0, 0, 0, 0, 0, 0⟩, 0, 0, 0, SlV.nil⟩ (dW st1 false 0 0 0 []) (HEX.out [b7] _ (fun b hb => by rw [List.mem_singleton.1 hb]; omega) kS) (e7) (e8) rfl rfl (HDB.out [b7] _ (fun b hb => by rw [List.mem_singleton.1 hb]; omega) kS) (⟨HW.out, HH.out, rfl, fun u c => by obtain ⟨a1, a2, a3⟩ := HKP.out (b7 :: (Value.slice cda cdn cdc).ownBlock.toList) u (fun b hb => by rcases HO.out b hb with h | h; (left; rw [h]; omega); exact .inr h) ((kS.sub (fun b hb => by simp at hb; simp [hb])).trans c); exact ⟨a1, a2, a3, Arr.nilI u⟩, ⟨rfl, rfl, rfl, rfl, rfl, rfl⟩, f7, dW_fit st1_byt (by simp [I64]) (by simp [I64]) (by simp [I64]) (by simp)⟩) (by rw [(show (decide ((3 : Int) = 5) || (decide ((3 : Int) = 1) && decide (0 < x.draws.length))) = false by simp), fin_m SG _ n hall, if_pos g2]) (by have := (e8).lt; exact this)
    · rcases Int.lt_or_le (2147483647) n with g3 | g3
      · have g2 : n < (-2147483647) ∨ (2147483647) < n := .inr g3
        go_wp2
        have kS := calm_setP w b7 8 (.int .i64 n)
        have e7 : Blk (w.setCell ⟨b7, 8, none⟩ (.int .i64 n)) b7 (ScrM.l ⟨cW, cH, [k0, k1, k2, k3, k4, k5, n, k7, k8, k9, k10, k11, k12, k13, k14, k15], ⟨cva, cvn, cvc⟩, ⟨csa, csn, csc⟩, ⟨cpa, cpn, cpc⟩, ⟨cda, cdn, cdc⟩⟩).toArray 42 := by simpa [ScrM.l] using B7.set 8 (.int .i64 n)
        have e8 := B8.far (p := ⟨b7, 8, none⟩) (by simp only; omega) (.int .i64 n)
        exact HQ.out _ _ _ _ _ _ _ _ _ _ _ _ _ _ _ _ _ _ _ _ _ _ _ _ _ _ _ _ _ _ _ _ _ _ _ _ _ _ _ _ _ _ _ _ _ _ _ _ _ _ _ _ _ _ _ _ _ _ _ _ _ _ _ _ _ _ _ _ _ _ _ _ _ _ _ _ _ _ _ _ _ _ _ _ _ _ _ _ _ _ _ _ _ _ _ _ _ _ _ _ _ _ 2 _ ⟨cW, cH, [k0, k1, k2, k3, k4, k5, n, k7, k8, k9, k10, k11, k12, k13, k14, k15], ⟨cva, cvn, cvc⟩, ⟨csa, csn, csc⟩, ⟨cpa, cpn, cpc⟩, ⟨cda, cdn, cdc⟩⟩ ⟨x.W, x.H, [k0, k1, k2, k3, k4, k5, n, k7, k8, k9, k10, k11, k12, k13, k14, k15], x.verts, x.sh, x.pa, x.draws⟩ ⟨st1, false, ⟨0, 0, 0, 0, 0, 0, 0⟩, 0, 0, 0, SlV.nil⟩ (dW st1 false 0 0 0 []) (HEX.out [b7] _ (fun b hb => by rw [List.mem_singleton.1 hb]; omega) kS) (e7) (e8) rfl rfl (HDB.out [b7] _ (fun b hb => by rw [List.mem_singleton.1 hb]; omega) kS) (⟨HW.out, HH.out, rfl, fun u c => by obtain ⟨a1, a2, a3⟩ := HKP.out (b7 :: (Value.slice cda cdn cdc).ownBlock.toList) u (fun b hb => by rcases HO.out b hb with h | h; (left; rw [h]; omega); exact .inr h) ((kS.sub (fun b hb => by simp at hb; simp [hb])).trans c); exact ⟨a1, a2, a3, Arr.nilI u⟩, ⟨rfl, rfl, rfl, rfl, rfl, rfl⟩, f7, dW_fit st1_byt (by simp [I64]) (by simp [I64]) (by simp [I64]) (by simp)⟩) (by rw [(show (decide ((3 : Int) = 5) || (decide ((3 : Int) = 1) && decide (0 < x.draws.length))) = false by simp), fin_m SG _ n hall, if_pos g2]) (by have := (e8).lt; exact this)
      · have g2 : ¬ (n < (-2147483647) ∨ (2147483647) < n) := by omega
        go_wp2
        have kS := calm_setP w b7 8 (.int .i64 n)
        have e7 : Blk (w.setCell ⟨b7, 8, none⟩ (.int .i64 n)) b7 (ScrM.l ⟨cW, cH, [k0, k1, k2, k3, k4, k5, n, k7, k8, k9, k10, k11, k12, k13, k14, k15], ⟨cva, cvn, cvc⟩, ⟨csa, csn, csc⟩, ⟨cpa, cpn, cpc⟩, ⟨cda, cdn, cdc⟩⟩).toArray 42 := by simpa [ScrM.l] using B7.set 8 (.int .i64 n)
        have e8 := B8.far (p := ⟨b7, 8, none⟩) (by simp only; omega) (.int .i64 n)
        exact HQ.out _ _ _ _ _ _ _ _ _ _ _ _ _ _ _ _ _ _ _ _ _ _ _ _ _ _ _ _ _ _ _ _ _ _ _ _ _ _ _ _ _ _ _ _ _ _ _ _ _ _ _ _ _ _ _ _ _ _ _ _ _ _ _ _ _ _ _ _ _ _ _ _ _ _ _ _ _ _ _ _ _ _ _ _ _ _ _ _ _ _ _ _ _ _ _ _ _ _ _ _ _ _ 0 _ ⟨cW, cH, [k0, k1, k2, k3, k4, k5, n, k7, k8, k9, k10, k11, k12, k13, k14, k15], ⟨cva, cvn, cvc⟩, ⟨csa, csn, csc⟩, ⟨cpa, cpn, cpc⟩, ⟨cda, cdn, cdc⟩⟩ ⟨x.W, x.H, [k0, k1, k2, k3, k4, k5, n, k7, k8, k9, k10, k11, k12, k13, k14, k15], x.verts, x.sh, x.pa, x.draws⟩ ⟨st1, false, ⟨0, 0, 0, 0, 0, 0, 0⟩, 0, 0, 0, SlV.nil⟩ (dW st1 false 0 0 0 []) (HEX.out [b7] _ (fun b hb => by rw [List.mem_singleton.1 hb]; omega) kS) (e7) (e8) rfl rfl (HDB.out [b7] _ (fun b hb => by rw [List.mem_singleton.1 hb]; omega) kS) (⟨HW.out, HH.out, rfl, fun u c => by obtain ⟨a1, a2, a3⟩ := HKP.out (b7 :: (Value.slice cda cdn cdc).ownBlock.toList) u (fun b hb => by rcases HO.out b hb with h | h; (left; rw [h]; omega); exact .inr h) ((kS.sub (fun b hb => by simp at hb; simp [hb])).trans c); exact ⟨a1, a2, a3, Arr.nilI u⟩, ⟨rfl, rfl, rfl, rfl, rfl, rfl⟩, f7, dW_fit st1_byt (by simp [I64]) (by simp [I64]) (by simp [I64]) (by simp)⟩) (by rw [(show (decide ((3 : Int) = 5) || (decide ((3 : Int) = 1) && decide (0 < x.draws.length))) = false by simp), fin_m SG _ n hall, if_neg g2]) (by have := (e8).lt; exact this)
  · obtain ⟨g, v, e0, hn0, hv0, hcv⟩ := HV.out.1.nth 0 (by have := SG.v; omega)
    cases e0
    have hglt := HV.out.1.lt g rfl
    have hvlt := HV.out.2 g rfl
    have hvv : ∃ rr, x.verts = v :: rr := by
      cases hx : x.verts with
      | nil => rw [hx] at hv0; simp at hv0
      | cons a rr => rw [hx] at hv0; simp at hv0; subst hv0; exact ⟨rr, rfl⟩
    obtain ⟨rr, hvr⟩ := hvv
    have hflat : LV.flat (x.verts.set 0 ⟨v.p0, v.p1, v.p2, n, v.c0, v.c1, v.c2, v.c3⟩) = (LV.flat x.verts).set 3 (.int .i64 n) := by
      rw [hvr]
      simp [Lay.flat, LV]
    have hall : (x.verts.set 0 ⟨v.p0, v.p1, v.p2, n, v.c0, v.c1, v.c2, v.c3⟩).all V8.inB = inB 4194304 n := by
      have h1 := HN.out
      unfold chkN at h1
      rw [Bool.and_eq_true, hvr] at h1
      have h2 := h1.2
      rw [hvr]
      simp only [List.set_cons_zero, List.all_cons, V8.inB, List.all_nil, Bool.and_true, Bool.and_eq_true] at h2 ⊢
      simp [h2]
    have hvf := HF.out.v v (List.mem_of_getElem? hv0)
    have f7 : Scr.fit ⟨x.W, x.H, x.m, (x.verts.set 0 ⟨v.p0, v.p1, v.p2, n, v.c0, v.c1, v.c2, v.c3⟩), x.sh, x.pa, x.draws⟩ := ⟨HF.out.W, HF.out.H, HF.out.m16, HF.out.m, (fun q hq => by rcases List.mem_or_eq_of_mem_set hq with h | h; exact HF.out.v q h; (rw [h]; obtain ⟨⟨hf1, hf2, hf3, hf4⟩, hf5⟩ := hvf; exact ⟨⟨hf1, hf2, hf3, by unfold I64; simp only; omega⟩, hf5⟩)), (by simp only [List.length_set]; exact HF.out.vl), HF.out.s, HF.out.sl, HF.out.p, HF.out.pl, HF.out.d, HF.out.dl⟩
    have cg : w.cell? ⟨g, 3, none⟩ = some (.int .i64 v.p3) := by simpa using hcv 3 (.int .i64 v.p3) rfl
    have fg := HV.out.1.thaw hn0 3
    have hpos : 0 < cvn := by rw [hn0]; have := SG.v; omega
    have hposI : (0 : Int) < (cvn : Int) := by omega
    have HNV := Lib.hid hn0
    have HVR := Lib.hid hvr
    clear hn0 hvr hv0 hcv hvf
    rcases Int.lt_or_le n (-4194304) with g1 | g1
    · have g2 : n < (-4194304) ∨ (4194304) < n := .inl g1
      go_wp2
      have kS : Calm [g] w (w.setCell ⟨g, 3, none⟩ (.int .i64 n)) := calm_setP w g 3 _
      have oN := (HV.out.1.store HNV.out 3 (.int .i64 n) (l' := x.verts.set 0 ⟨v.p0, v.p1, v.p2, n, v.c0, v.c1, v.c2, v.c3⟩) (by simp) hflat)
      have e7 : Blk (w.setCell ⟨g, 3, none⟩ (.int .i64 n)) b7 (ScrM.l ⟨cW, cH, [k0, k1, k2, k3, k4, k5, k6, k7, k8, k9, k10, k11, k12, k13, k14, k15], ⟨some ⟨g, 0, none⟩, cvn, cvc⟩, ⟨csa, csn, csc⟩, ⟨cpa, cpn, cpc⟩, ⟨cda, cdn, cdc⟩⟩).toArray 42 := B7.calm kS (fun hin => by have := List.mem_singleton.1 hin; omega)
      have e8 := B8.calm kS (fun hin => by have := List.mem_singleton.1 hin; omega)
      have hgO : g ∉ (b7 :: (Value.slice cda cdn cdc).ownBlock.toList) := fun hin => by rcases HO.out g hin with h | h <;> omega
      have hk2 : ∀ u, Calm (b7 :: (Value.slice cda cdn cdc).ownBlock.toList) (w.setCell ⟨g, 3, none⟩ (.int .i64 n)) u → PRd u (.slice csa csn csc) x.sh ∧ PRd u (.slice cpa cpn cpc) x.pa := fun u c =>
        ⟨((HP2.out.calm kS (fun b hb => by rw [List.mem_singleton.1 hb]; left; omega)).calm c (fun b hb => by rcases HO.out b hb with h | h <;> right <;> omega)).rd, ((HP3.out.calm kS (fun b hb => by rw [List.mem_singleton.1 hb]; left; omega)).calm c (fun b hb => by rcases HO.out b hb with h | h <;> right <;> omega)).rd⟩
      exact HQ.out _ _ _ _ _ _ _ _ _ _ _ _ _ _ _ _ _ _ _ _ _ _ _ _ _ _ _ _ _ _ _ _ _ _ _ _ _ _ _ _ _ _ _ _ _ _ _ _ _ _ _ _ _ _ _ _ _ _ _ _ _ _ _ _ _ _ _ _ _ _ _ _ _ _ _ _ _ _ _ _ _ _ _ _ _ _ _ _ _ _ _ _ _ _ _ _ _ _ _ _ _ _ 2 _ ⟨cW, cH, [k0, k1, k2, k3, k4, k5, k6, k7, k8, k9, k10, k11, k12, k13, k14, k15], ⟨some ⟨g, 0, none⟩, cvn, cvc⟩, ⟨csa, csn, csc⟩, ⟨cpa, cpn, cpc⟩, ⟨cda, cdn, cdc⟩⟩ ⟨x.W, x.H, x.m, (x.verts.set 0 ⟨v.p0, v.p1, v.p2, n, v.c0, v.c1, v.c2, v.c3⟩), x.sh, x.pa, x.draws⟩ ⟨st1, false, ⟨0, 0, 0, 0, 0, 0, 0⟩, 0, 0, 0, SlV.nil⟩ (dW st1 false 0 0 0 []) (HEX.out [g] _ (fun b hb => by rw [List.mem_singleton.1 hb]; omega) kS) (e7) (e8) rfl rfl (⟨l4, by omega, HD4.out.calm kS (fun b hb => by rw [List.mem_singleton.1 hb]; left; omega)⟩) (⟨HW.out, HH.out, HM.out, fun u c => ⟨(oN.calm c (fun k hk => by cases hk; exact hgO)).parr, (hk2 u c).1, (hk2 u c).2, Arr.nilI u⟩, ⟨rfl, rfl, rfl, rfl, rfl, rfl⟩, f7, dW_fit st1_byt (by simp [I64]) (by simp [I64]) (by simp [I64]) (by simp)⟩) (by rw [(show (decide ((4 : Int) = 5) || (decide ((4 : Int) = 1) && decide (0 < x.draws.length))) = false by simp), fin_v SG _ n (by simp) hall, if_pos g2]) (by have := (e8).lt; exact this)
    · rcases Int.lt_or_le (4194304) n with g3 | g3
      · have g2 : n < (-4194304) ∨ (4194304) < n := .inr g3
        go_wp2
        have kS : Calm [g] w (w.setCell ⟨g, 3, none⟩ (.int .i64 n)) := calm_setP w g 3 _
        have oN := (HV.out.1.store HNV.out 3 (.int .i64 n) (l' := x.verts.set 0 ⟨v.p0, v.p1, v.p2, n, v.c0, v.c1, v.c2, v.c3⟩) (by simp) hflat)
        have e7 : Blk (w.setCell ⟨g, 3, none⟩ (.int .i64 n)) b7 (ScrM.l ⟨cW, cH, [k0, k1, k2, k3, k4, k5, k6, k7, k8, k9, k10, k11, k12, k13, k14, k15], ⟨some ⟨g, 0, none⟩, cvn, cvc⟩, ⟨csa, csn, csc⟩, ⟨cpa, cpn, cpc⟩, ⟨cda, cdn, cdc⟩⟩).toArray 42 := B7.calm kS (fun hin => by have := List.mem_singleton.1 hin; omega)
        have e8 := B8.calm kS (fun hin => by have := List.mem_singleton.1 hin; omega)
        have hgO : g ∉ (b7 :: (Value.slice cda cdn cdc).ownBlock.toList) := fun hin => by rcases HO.out g hin with h | h <;> omega
        have hk2 : ∀ u, Calm (b7 :: (Value.slice cda cdn cdc).ownBlock.toList) (w.setCell ⟨g, 3, none⟩ (.int .i64 n)) u → PRd u (.slice csa csn csc) x.sh ∧ PRd u (.slice cpa cpn cpc) x.pa := fun u c =>
          ⟨((HP2.out.calm kS (fun b hb => by rw [List.mem_singleton.1 hb]; left; omega)).calm c (fun b hb => by rcases HO.out b hb with h | h <;> right <;> omega)).rd, ((HP3.out.calm kS (fun b hb => by rw [List.mem_singleton.1 hb]; left; omega)).calm c (fun b hb => by rcases HO.out b hb with h | h <;> right <;> omega)).rd⟩
        exact HQ.out _ _ _ _ _ _ _ _ _ _ _ _ _ _ _ _ _ _ _ _ _ _ _ _ _ _ _ _ _ _ _ _ _ _ _ _ _ _ _ _ _ _ _ _ _ _ _ _ _ _ _ _ _ _ _ _ _ _ _ _ _ _ _ _ _ _ _ _ _ _ _ _ _ _ _ _ _ _ _ _ _ _ _ _ _ _ _ _ _ _ _ _ _ _ _ _ _ _ _ _ _ _ 2 _ ⟨cW, cH, [k0, k1, k2, k3, k4, k5, k6, k7, k8, k9, k10, k11, k12, k13, k14, k15], ⟨some ⟨g, 0, none⟩, cvn, cvc⟩, ⟨csa, csn, csc⟩, ⟨cpa, cpn, cpc⟩, ⟨cda, cdn, cdc⟩⟩ ⟨x.W, x.H, x.m, (x.verts.set 0 ⟨v.p0, v.p1, v.p2, n, v.c0, v.c1, v.c2, v.c3⟩), x.sh, x.pa, x.draws⟩ ⟨st1, false, ⟨0, 0, 0, 0, 0, 0, 0⟩, 0, 0, 0, SlV.nil⟩ (dW st1 false 0 0 0 []) (HEX.out [g] _ (fun b hb => by rw [List.mem_singleton.1 hb]; omega) kS) (e7) (e8) rfl rfl (⟨l4, by omega, HD4.out.calm kS (fun b hb => by rw [List.mem_singleton.1 hb]; left; omega)⟩) (⟨HW.out, HH.out, HM.out, fun u c => ⟨(oN.calm c (fun k hk => by cases hk; exact hgO)).parr, (hk2 u c).1, (hk2 u c).2, Arr.nilI u⟩, ⟨rfl, rfl, rfl, rfl, rfl, rfl⟩, f7, dW_fit st1_byt (by simp [I64]) (by simp [I64]) (by simp [I64]) (by simp)⟩) (by rw [(show (decide ((4 : Int) = 5) || (decide ((4 : Int) = 1) && decide (0 < x.draws.length))) = false by simp), fin_v SG _ n (by simp) hall, if_pos g2]) (by have := (e8).lt; exact this)
      · have g2 : ¬ (n < (-4194304) ∨ (4194304) < n) := by omega
        go_wp2
        have kS : Calm [g] w (w.setCell ⟨g, 3, none⟩ (.int .i64 n)) := calm_setP w g 3 _
        have oN := (HV.out.1.store HNV.out 3 (.int .i64 n) (l' := x.verts.set 0 ⟨v.p0, v.p1, v.p2, n, v.c0, v.c1, v.c2, v.c3⟩) (by simp) hflat)
        have e7 : Blk (w.setCell ⟨g, 3, none⟩ (.int .i64 n)) b7 (ScrM.l ⟨cW, cH, [k0, k1, k2, k3, k4, k5, k6, k7, k8, k9, k10, k11, k12, k13, k14, k15], ⟨some ⟨g, 0, none⟩, cvn, cvc⟩, ⟨csa, csn, csc⟩, ⟨cpa, cpn, cpc⟩, ⟨cda, cdn, cdc⟩⟩).toArray 42 := B7.calm kS (fun hin => by have := List.mem_singleton.1 hin; omega)
        have e8 := B8.calm kS (fun hin => by have := List.mem_singleton.1 hin; omega)
        have hgO : g ∉ (b7 :: (Value.slice cda cdn cdc).ownBlock.toList) := fun hin => by rcases HO.out g hin with h | h <;> omega
        have hk2 : ∀ u, Calm (b7 :: (Value.slice cda cdn cdc).ownBlock.toList) (w.setCell ⟨g, 3, none⟩ (.int .i64 n)) u → PRd u (.slice csa csn csc) x.sh ∧ PRd u (.slice cpa cpn cpc) x.pa := fun u c =>
          ⟨((HP2.out.calm kS (fun b hb => by rw [List.mem_singleton.1 hb]; left; omega)).calm c (fun b hb => by rcases HO.out b hb with h | h <;> right <;> omega)).rd, ((HP3.out.calm kS (fun b hb => by rw [List.mem_singleton.1 hb]; left; omega)).calm c (fun b hb => by rcases HO.out b hb with h | h <;> right <;> omega)).rd⟩
        exact HQ.out _ _ _ _ _ _ _ _ _ _ _ _ _ _ _ _ _ _ _ _ _ _ _ _ _ _ _ _ _ _ _ _ _ _ _ _ _ _ _ _ _ _ _ _ _ _ _ _ _ _ _ _ _ _ _ _ _ _ _ _ _ _ _ _ _ _ _ _ _ _ _ _ _ _ _ _ _ _ _ _ _ _ _ _ _ _ _ _ _ _ _ _ _ _ _ _ _ _ _ _ _ _ 0 _ ⟨cW, cH, [k0, k1, k2, k3, k4, k5, k6, k7, k8, k9, k10, k11, k12, k13, k14, k15], ⟨some ⟨g, 0, none⟩, cvn, cvc⟩, ⟨csa, csn, csc⟩, ⟨cpa, cpn, cpc⟩, ⟨cda, cdn, cdc⟩⟩ ⟨x.W, x.H, x.m, (x.verts.set 0 ⟨v.p0, v.p1, v.p2, n, v.c0, v.c1, v.c2, v.c3⟩), x.sh, x.pa, x.draws⟩ ⟨st1, false, ⟨0, 0, 0, 0, 0, 0, 0⟩, 0, 0, 0, SlV.nil⟩ (dW st1 false 0 0 0 []) (HEX.out [g] _ (fun b hb => by rw [List.mem_singleton.1 hb]; omega) kS) (e7) (e8) rfl rfl (⟨l4, by omega, HD4.out.calm kS (fun b hb => by rw [List.mem_singleton.1 hb]; left; omega)⟩) (⟨HW.out, HH.out, HM.out, fun u c => ⟨(oN.calm c (fun k hk => by cases hk; exact hgO)).parr, (hk2 u c).1, (hk2 u c).2, Arr.nilI u⟩, ⟨rfl, rfl, rfl, rfl, rfl, rfl⟩, f7, dW_fit st1_byt (by simp [I64]) (by simp [I64]) (by simp [I64]) (by simp)⟩) (by rw [(show (decide ((4 : Int) = 5) || (decide ((4 : Int) = 1) && decide (0 < x.draws.length))) = false by simp), fin_v SG _ n (by simp) hall, if_neg g2]) (by have := (e8).lt; exact this)
  · go_wp2
    have y9 : Ext (w.setCell ⟨b7, 19, none⟩ (.slice (some ⟨w.heap.size + 1, 0, none⟩) 1 1)) (((w.setCell ⟨b7, 19, none⟩ (.slice (some ⟨w.heap.size + 1, 0, none⟩) 1 1)).alloc (.cells #[.int .u8 13, .int .u8 0, .int .u8 0, .int .u8 0, .int .i16 0] 72)).alloc (.cells #[.slice (some ⟨w.heap.size, 0, none⟩) 1 1] 74)) := ((Ext.refl _).alloc _ _).alloc _ _
    have kS : Calm [b7] w (((w.setCell ⟨b7, 19, none⟩ (.slice (some ⟨w.heap.size + 1, 0, none⟩) 1 1)).alloc (.cells #[.int .u8 13, .int .u8 0, .int .u8 0, .int .u8 0, .int .i16 0] 72)).alloc (.cells #[.slice (some ⟨w.heap.size, 0, none⟩) 1 1] 74)) := (calm_setP w b7 19 _).trans (y9.calm _)
    have e7 : Blk (((w.setCell ⟨b7, 19, none⟩ (.slice (some ⟨w.heap.size + 1, 0, none⟩) 1 1)).alloc (.cells #[.int .u8 13, .int .u8 0, .int .u8 0, .int .u8 0, .int .i16 0] 72)).alloc (.cells #[.slice (some ⟨w.heap.size, 0, none⟩) 1 1] 74)) b7 (ScrM.l ⟨cW, cH, [k0, k1, k2, k3, k4, k5, k6, k7, k8, k9, k10, k11, k12, k13, k14, k15], ⟨cva, cvn, cvc⟩, ⟨some ⟨w.heap.size + 1, 0, none⟩, 1, 1⟩, ⟨cpa, cpn, cpc⟩, ⟨cda, cdn, cdc⟩⟩).toArray 42 := by
      have := (B7.set 19 (.slice (some ⟨w.heap.size + 1, 0, none⟩) 1 1)).ext y9
      simpa [ScrM.l] using this
    have e8 := (B8.far (p := ⟨b7, 19, none⟩) (by simp only; omega) (.slice (some ⟨w.heap.size + 1, 0, none⟩) 1 1)).ext y9
    have L1 : Blk (((w.setCell ⟨b7, 19, none⟩ (.slice (some ⟨w.heap.size + 1, 0, none⟩) 1 1)).alloc (.cells #[.int .u8 13, .int .u8 0, .int .u8 0, .int .u8 0, .int .i16 0] 72)).alloc (.cells #[.slice (some ⟨w.heap.size, 0, none⟩) 1 1] 74)) w.heap.size #[.int .u8 13, .int .u8 0, .int .u8 0, .int .u8 0, .int .i16 0] 72 := (Blk.new' (by simp) _ _).alloc _
    have L2 : Blk (((w.setCell ⟨b7, 19, none⟩ (.slice (some ⟨w.heap.size + 1, 0, none⟩) 1 1)).alloc (.cells #[.int .u8 13, .int .u8 0, .int .u8 0, .int .u8 0, .int .i16 0] 72)).alloc (.cells #[.slice (some ⟨w.heap.size, 0, none⟩) 1 1] 74)) (w.heap.size + 1) #[.slice (some ⟨w.heap.size, 0, none⟩) 1 1] 74 := Blk.new' (by simp) _ _
    have f7 : Scr.fit ⟨x.W, x.H, x.m, x.verts, [[⟨13, 0, 0, 0, 0⟩]], x.pa, x.draws⟩ := ⟨HF.out.W, HF.out.H, HF.out.m16, HF.out.m, HF.out.v, HF.out.vl, (fun p hp => by rw [List.mem_singleton.1 hp]; exact ⟨by simp, fun i hi => by rw [List.mem_singleton.1 hi]; simp [In.ok]⟩), (by simp), HF.out.p, HF.out.pl, HF.out.d, HF.out.dl⟩
    have hOl : ∀ b ∈ (b7 :: (Value.slice cda cdn cdc).ownBlock.toList), b < w.heap.size := fun b hb => by rcases HO.out b hb with h | h <;> omega
    have hpr : ∀ u, Calm (b7 :: (Value.slice cda cdn cdc).ownBlock.toList) (((w.setCell ⟨b7, 19, none⟩ (.slice (some ⟨w.heap.size + 1, 0, none⟩) 1 1)).alloc (.cells #[.int .u8 13, .int .u8 0, .int .u8 0, .int .u8 0, .int .i16 0] 72)).alloc (.cells #[.slice (some ⟨w.heap.size, 0, none⟩) 1 1] 74)) u → PRd u (.slice (some ⟨w.heap.size + 1, 0, none⟩) 1 1) [[⟨13, 0, 0, 0, 0⟩]] := fun u c => by
      have k1 := L1.calm c (fun hin => by have := hOl _ hin; omega)
      have k2 := L2.calm c (fun hin => by have := hOl _ hin; omega)
      refine ⟨[⟨some ⟨w.heap.size, 0, none⟩, 1, 1⟩], ⟨_, 1, rfl, fun _ => ⟨w.heap.size + 1, 0, rfl, fun j t hj i y hy => ?_⟩⟩, rfl, fun i t ht => ?_⟩
      · match j, hj with
        | 0, hj =>
          simp at hj
          subst hj
          match i, hy with
          | 0, hy => simp [LP] at hy ⊢; subst hy; rw [k2.cell]; rfl
          | i + 1, hy => simp [LP] at hy
        | j + 1, hj => simp at hj
      · match i, ht with
        | 0, ht =>
          simp at ht
          subst ht
          refine ⟨[⟨13, 0, 0, 0, 0⟩], rfl, ⟨_, 1, rfl, fun _ => ⟨w.heap.size, 0, rfl, fun j q hj => ?_⟩⟩, fun k hk => ?_⟩
          · match j, hj with
            | 0, hj =>
              simp at hj
              subst hj
              simp [k1.cell]
            | j + 1, hj => simp at hj
          · have e : w.heap.size = k := Option.some.inj hk
            have := k1.lt
            omega
        | i + 1, ht => simp at ht
    exact HQ.out _ _ _ _ _ _ _ _ _ _ _ _ _ _ _ _ _ _ _ _ _ _ _ _ _ _ _ _ _ _ _ _ _ _ _ _ _ _ _ _ _ _ _ _ _ _ _ _ _ _ _ _ _ _ _ _ _ _ _ _ _ _ _ _ _ _ _ _ _ _ _ _ _ _ _ _ _ _ _ _ _ _ _ _ _ _ _ _ _ _ _ _ _ _ _ _ _ _ _ _ _ _ 5 _ ⟨cW, cH, [k0, k1, k2, k3, k4, k5, k6, k7, k8, k9, k10, k11, k12, k13, k14, k15], ⟨cva, cvn, cvc⟩, ⟨some ⟨w.heap.size + 1, 0, none⟩, 1, 1⟩, ⟨cpa, cpn, cpc⟩, ⟨cda, cdn, cdc⟩⟩ ⟨x.W, x.H, x.m, x.verts, [[⟨13, 0, 0, 0, 0⟩]], x.pa, x.draws⟩ ⟨st1, false, ⟨0, 0, 0, 0, 0, 0, 0⟩, 0, 0, 0, SlV.nil⟩ (dW st1 false 0 0 0 []) (HEX.out [b7] _ (fun b hb => by rw [List.mem_singleton.1 hb]; omega) kS) (e7) (e8) rfl rfl (HDB.out [b7] _ (fun b hb => by rw [List.mem_singleton.1 hb]; omega) kS) (⟨HW.out, HH.out, HM.out, fun u c => by obtain ⟨a1, a2, a3⟩ := HKP.out (b7 :: (Value.slice cda cdn cdc).ownBlock.toList) u (fun b hb => by rcases HO.out b hb with h | h; (left; rw [h]; omega); exact .inr h) ((kS.sub (fun b hb => by simp at hb; simp [hb])).trans c); exact ⟨a1, hpr u c, a3, Arr.nilI u⟩, ⟨rfl, rfl, rfl, rfl, rfl, rfl⟩, f7, dW_fit st1_byt (by simp [I64]) (by simp [I64]) (by simp [I64]) (by simp)⟩) (fin_sh SG _) (by have := (e8).lt; exact this)
  · have _h := hb7
    go_wp2
    have kS : Calm [b8] w (w.setCell ⟨b8, 11, none⟩ (.int .i64 (-1))) := calm_setP _ _ _ _
    have e7 : Blk (w.setCell ⟨b8, 11, none⟩ (.int .i64 (-1))) b7 (ScrM.l ⟨cW, cH, [k0, k1, k2, k3, k4, k5, k6, k7, k8, k9, k10, k11, k12, k13, k14, k15], ⟨cva, cvn, cvc⟩, ⟨csa, csn, csc⟩, ⟨cpa, cpn, cpc⟩, ⟨cda, cdn, cdc⟩⟩).toArray 42 := (B7.far (p := ⟨b8, 11, none⟩) (by simp only; omega) (.int .i64 (-1)))
    have e8 : Blk (w.setCell ⟨b8, 11, none⟩ (.int .i64 (-1))) b8 (DrM.l ⟨⟨0, false, 7, 0, 0, 0, 0, 0, 0, 15, 0, -1, 0, 64, 64⟩, false, ⟨0, 0, 0, 0, 0, 0, 0⟩, 0, 0, 0, SlV.nil⟩).toArray 67 := by simpa [DrM.l, st1] using (B8.set 11 (.int .i64 (-1)))
    exact HQ.out _ _ _ _ _ _ _ _ _ _ _ _ _ _ _ _ _ _ _ _ _ _ _ _ _ _ _ _ _ _ _ _ _ _ _ _ _ _ _ _ _ _ _ _ _ _ _ _ _ _ _ _ _ _ _ _ _ _ _ _ _ _ _ _ _ _ _ _ _ _ _ _ _ _ _ _ _ _ _ _ _ _ _ _ _ _ _ _ _ _ _ _ _ _ _ _ _ _ _ _ _ _ 2 _ ⟨cW, cH, [k0, k1, k2, k3, k4, k5, k6, k7, k8, k9, k10, k11, k12, k13, k14, k15], ⟨cva, cvn, cvc⟩, ⟨csa, csn, csc⟩, ⟨cpa, cpn, cpc⟩, ⟨cda, cdn, cdc⟩⟩ x ⟨⟨0, false, 7, 0, 0, 0, 0, 0, 0, 15, 0, -1, 0, 64, 64⟩, false, ⟨0, 0, 0, 0, 0, 0, 0⟩, 0, 0, 0, SlV.nil⟩ (dW ⟨0, false, 7, 0, 0, 0, 0, 0, 0, 15, 0, -1, 0, 64, 64⟩ false 0 0 0 []) (HEX.out [b8] _ (fun b hb => by rw [List.mem_singleton.1 hb]; omega) kS) (e7) (e8) rfl rfl (HDB.out [b8] _ (fun b hb => by rw [List.mem_singleton.1 hb]; omega) kS) (⟨HW.out, HH.out, HM.out, fun u c => by obtain ⟨a1, a2, a3⟩ := HKP.out (b8 :: (b7 :: (Value.slice cda cdn cdc).ownBlock.toList)) u (fun b hb => by rcases List.mem_cons.1 hb with h | h; (left; rw [h]; omega); (rcases HO.out b h with h | h; (left; rw [h]; omega); exact .inr h)) ((kS.sub (fun b hb => by simp at hb; simp [hb])).trans (c.sub (fun b hb => List.mem_cons_of_mem _ hb))); exact ⟨a1, a2, a3, Arr.nilI u⟩, ⟨rfl, rfl, rfl, rfl, rfl, rfl⟩, HF.out, dW_fit (by simp [Stt.byt]) (by simp [I64]) (by simp [I64]) (by simp [I64]) (by simp)⟩) (by rw [(show (decide ((6 : Int) = 5) || (decide ((6 : Int) = 1) && decide (0 < x.draws.length))) = false by simp), fin_good SG]; exact chkD_st (by decide) (by decide)) (by have := (e8).lt; exact this)
  · have hI : I64 n := hn
    rcases Int.lt_or_le n (0) with g1 | g1
    · have g2 : n < (0) ∨ (65535) < n := .inl g1
      go_wp2
      have kS : Calm [b8] w ((w.setCell ⟨b8, 15, none⟩ (.bool true)).setCell ⟨b8, 20, none⟩ (.int .i64 n)) := (calm_setP _ _ _ _).trans (calm_setP _ _ _ _)
      have e7 : Blk ((w.setCell ⟨b8, 15, none⟩ (.bool true)).setCell ⟨b8, 20, none⟩ (.int .i64 n)) b7 (ScrM.l ⟨cW, cH, [k0, k1, k2, k3, k4, k5, k6, k7, k8, k9, k10, k11, k12, k13, k14, k15], ⟨cva, cvn, cvc⟩, ⟨csa, csn, csc⟩, ⟨cpa, cpn, cpc⟩, ⟨cda, cdn, cdc⟩⟩).toArray 42 := ((B7.far (p := ⟨b8, 15, none⟩) (by simp only; omega) (.bool true)).far (p := ⟨b8, 20, none⟩) (by simp only; omega) (.int .i64 n))
      have e8 : Blk ((w.setCell ⟨b8, 15, none⟩ (.bool true)).setCell ⟨b8, 20, none⟩ (.int .i64 n)) b8 (DrM.l ⟨st1, true, ⟨0, 0, 0, 0, n, 0, 0⟩, 0, 0, 0, SlV.nil⟩).toArray 67 := by simpa [DrM.l, st1] using ((B8.set 15 (.bool true)).set 20 (.int .i64 n))
      exact HQ.out _ _ _ _ _ _ _ _ _ _ _ _ _ _ _ _ _ _ _ _ _ _ _ _ _ _ _ _ _ _ _ _ _ _ _ _ _ _ _ _ _ _ _ _ _ _ _ _ _ _ _ _ _ _ _ _ _ _ _ _ _ _ _ _ _ _ _ _ _ _ _ _ _ _ _ _ _ _ _ _ _ _ _ _ _ _ _ _ _ _ _ _ _ _ _ _ _ _ _ _ _ _ 2 _ ⟨cW, cH, [k0, k1, k2, k3, k4, k5, k6, k7, k8, k9, k10, k11, k12, k13, k14, k15], ⟨cva, cvn, cvc⟩, ⟨csa, csn, csc⟩, ⟨cpa, cpn, cpc⟩, ⟨cda, cdn, cdc⟩⟩ x ⟨st1, true, ⟨0, 0, 0, 0, n, 0, 0⟩, 0, 0, 0, SlV.nil⟩ (dW st1 true n 0 0 []) (HEX.out [b8] _ (fun b hb => by rw [List.mem_singleton.1 hb]; omega) kS) (e7) (e8) rfl rfl (HDB.out [b8] _ (fun b hb => by rw [List.mem_singleton.1 hb]; omega) kS) (⟨HW.out, HH.out, HM.out, fun u c => by obtain ⟨a1, a2, a3⟩ := HKP.out (b8 :: (b7 :: (Value.slice cda cdn cdc).ownBlock.toList)) u (fun b hb => by rcases List.mem_cons.1 hb with h | h; (left; rw [h]; omega); (rcases HO.out b h with h | h; (left; rw [h]; omega); exact .inr h)) ((kS.sub (fun b hb => by simp at hb; simp [hb])).trans (c.sub (fun b hb => List.mem_cons_of_mem _ hb))); exact ⟨a1, a2, a3, Arr.nilI u⟩, ⟨rfl, rfl, rfl, rfl, rfl, rfl⟩, HF.out, dW_fit st1_byt hI (by simp [I64]) (by simp [I64]) (by simp)⟩) (by rw [(show (decide ((7 : Int) = 5) || (decide ((7 : Int) = 1) && decide (0 < x.draws.length))) = false by simp), fin_good SG]; exact (chkD_c n).trans (if_pos g2)) (by have := (e8).lt; exact this)
    · rcases Int.lt_or_le (65535) n with g3 | g3
      · have g2 : n < (0) ∨ (65535) < n := .inr g3
        go_wp2
        have kS : Calm [b8] w ((w.setCell ⟨b8, 15, none⟩ (.bool true)).setCell ⟨b8, 20, none⟩ (.int .i64 n)) := (calm_setP _ _ _ _).trans (calm_setP _ _ _ _)
        have e7 : Blk ((w.setCell ⟨b8, 15, none⟩ (.bool true)).setCell ⟨b8, 20, none⟩ (.int .i64 n)) b7 (ScrM.l ⟨cW, cH, [k0, k1, k2, k3, k4, k5, k6, k7, k8, k9, k10, k11, k12, k13, k14, k15], ⟨cva, cvn, cvc⟩, ⟨csa, csn, csc⟩, ⟨cpa, cpn, cpc⟩, ⟨cda, cdn, cdc⟩⟩).toArray 42 := ((B7.far (p := ⟨b8, 15, none⟩) (by simp only; omega) (.bool true)).far (p := ⟨b8, 20, none⟩) (by simp only; omega) (.int .i64 n))
        have e8 : Blk ((w.setCell ⟨b8, 15, none⟩ (.bool true)).setCell ⟨b8, 20, none⟩ (.int .i64 n)) b8 (DrM.l ⟨st1, true, ⟨0, 0, 0, 0, n, 0, 0⟩, 0, 0, 0, SlV.nil⟩).toArray 67 := by simpa [DrM.l, st1] using ((B8.set 15 (.bool true)).set 20 (.int .i64 n))
        exact HQ.out _ _ _ _ _ _ _ _ _ _ _ _ _ _ _ _ _ _ _ _ _ _ _ _ _ _ _ _ _ _ _ _ _ _ _ _ _ _ _ _ _ _ _ _ _ _ _ _ _ _ _ _ _ _ _ _ _ _ _ _ _ _ _ _ _ _ _ _ _ _ _ _ _ _ _ _ _ _ _ _ _ _ _ _ _ _ _ _ _ _ _ _ _ _ _ _ _ _ _ _ _ _ 2 _ ⟨cW, cH, [k0, k1, k2, k3, k4, k5, k6, k7, k8, k9, k10, k11, k12, k13, k14, k15], ⟨cva, cvn, cvc⟩, ⟨csa, csn, csc⟩, ⟨cpa, cpn, cpc⟩, ⟨cda, cdn, cdc⟩⟩ x ⟨st1, true, ⟨0, 0, 0, 0, n, 0, 0⟩, 0, 0, 0, SlV.nil⟩ (dW st1 true n 0 0 []) (HEX.out [b8] _ (fun b hb => by rw [List.mem_singleton.1 hb]; omega) kS) (e7) (e8) rfl rfl (HDB.out [b8] _ (fun b hb => by rw [List.mem_singleton.1 hb]; omega) kS) (⟨HW.out, HH.out, HM.out, fun u c => by obtain ⟨a1, a2, a3⟩ := HKP.out (b8 :: (b7 :: (Value.slice cda cdn cdc).ownBlock.toList)) u (fun b hb => by rcases List.mem_cons.1 hb with h | h; (left; rw [h]; omega); (rcases HO.out b h with h | h; (left; rw [h]; omega); exact .inr h)) ((kS.sub (fun b hb => by simp at hb; simp [hb])).trans (c.sub (fun b hb => List.mem_cons_of_mem _ hb))); exact ⟨a1, a2, a3, Arr.nilI u⟩, ⟨rfl, rfl, rfl, rfl, rfl, rfl⟩, HF.out, dW_fit st1_byt hI (by simp [I64]) (by simp [I64]) (by simp)⟩) (by rw [(show (decide ((7 : Int) = 5) || (decide ((7 : Int) = 1) && decide (0 < x.draws.length))) = false by simp), fin_good SG]; exact (chkD_c n).trans (if_pos g2)) (by have := (e8).lt; exact this)
      · have g2 : ¬ (n < (0) ∨ (65535) < n) := by omega
        go_wp2
        have kS : Calm [b8] w ((w.setCell ⟨b8, 15, none⟩ (.bool true)).setCell ⟨b8, 20, none⟩ (.int .i64 n)) := (calm_setP _ _ _ _).trans (calm_setP _ _ _ _)
        have e7 : Blk ((w.setCell ⟨b8, 15, none⟩ (.bool true)).setCell ⟨b8, 20, none⟩ (.int .i64 n)) b7 (ScrM.l ⟨cW, cH, [k0, k1, k2, k3, k4, k5, k6, k7, k8, k9, k10, k11, k12, k13, k14, k15], ⟨cva, cvn, cvc⟩, ⟨csa, csn, csc⟩, ⟨cpa, cpn, cpc⟩, ⟨cda, cdn, cdc⟩⟩).toArray 42 := ((B7.far (p := ⟨b8, 15, none⟩) (by simp only; omega) (.bool true)).far (p := ⟨b8, 20, none⟩) (by simp only; omega) (.int .i64 n))
        have e8 : Blk ((w.setCell ⟨b8, 15, none⟩ (.bool true)).setCell ⟨b8, 20, none⟩ (.int .i64 n)) b8 (DrM.l ⟨st1, true, ⟨0, 0, 0, 0, n, 0, 0⟩, 0, 0, 0, SlV.nil⟩).toArray 67 := by simpa [DrM.l, st1] using ((B8.set 15 (.bool true)).set 20 (.int .i64 n))
        exact HQ.out _ _ _ _ _ _ _ _ _ _ _ _ _ _ _ _ _ _ _ _ _ _ _ _ _ _ _ _ _ _ _ _ _ _ _ _ _ _ _ _ _ _ _ _ _ _ _ _ _ _ _ _ _ _ _ _ _ _ _ _ _ _ _ _ _ _ _ _ _ _ _ _ _ _ _ _ _ _ _ _ _ _ _ _ _ _ _ _ _ _ _ _ _ _ _ _ _ _ _ _ _ _ 0 _ ⟨cW, cH, [k0, k1, k2, k3, k4, k5, k6, k7, k8, k9, k10, k11, k12, k13, k14, k15], ⟨cva, cvn, cvc⟩, ⟨csa, csn, csc⟩, ⟨cpa, cpn, cpc⟩, ⟨cda, cdn, cdc⟩⟩ x ⟨st1, true, ⟨0, 0, 0, 0, n, 0, 0⟩, 0, 0, 0, SlV.nil⟩ (dW st1 true n 0 0 []) (HEX.out [b8] _ (fun b hb => by rw [List.mem_singleton.1 hb]; omega) kS) (e7) (e8) rfl rfl (HDB.out [b8] _ (fun b hb => by rw [List.mem_singleton.1 hb]; omega) kS) (⟨HW.out, HH.out, HM.out, fun u c => by obtain ⟨a1, a2, a3⟩ := HKP.out (b8 :: (b7 :: (Value.slice cda cdn cdc).ownBlock.toList)) u (fun b hb => by rcases List.mem_cons.1 hb with h | h; (left; rw [h]; omega); (rcases HO.out b h with h | h; (left; rw [h]; omega); exact .inr h)) ((kS.sub (fun b hb => by simp at hb; simp [hb])).trans (c.sub (fun b hb => List.mem_cons_of_mem _ hb))); exact ⟨a1, a2, a3, Arr.nilI u⟩, ⟨rfl, rfl, rfl, rfl, rfl, rfl⟩, HF.out, dW_fit st1_byt hI (by simp [I64]) (by simp [I64]) (by simp)⟩) (by rw [(show (decide ((7 : Int) = 5) || (decide ((7 : Int) = 1) && decide (0 < x.draws.length))) = false by simp), fin_good SG]; exact (chkD_c n).trans (if_neg g2)) (by have := (e8).lt; exact this)
  · have hI : I64 n := hn
    have HL := Lib.hid (HP2.out.len)
    rcases Int.lt_or_le n 0 with g1 | g1
    · have g2 : n < 0 ∨ (csn : Int) ≤ n := .inl g1
      go_wp2
      have kS : Calm [b8] w (w.setCell ⟨b8, 23, none⟩ (.int .i64 n)) := calm_setP _ _ _ _
      have e7 : Blk (w.setCell ⟨b8, 23, none⟩ (.int .i64 n)) b7 (ScrM.l ⟨cW, cH, [k0, k1, k2, k3, k4, k5, k6, k7, k8, k9, k10, k11, k12, k13, k14, k15], ⟨cva, cvn, cvc⟩, ⟨csa, csn, csc⟩, ⟨cpa, cpn, cpc⟩, ⟨cda, cdn, cdc⟩⟩).toArray 42 := (B7.far (p := ⟨b8, 23, none⟩) (by simp only; omega) (.int .i64 n))
      have e8 : Blk (w.setCell ⟨b8, 23, none⟩ (.int .i64 n)) b8 (DrM.l ⟨st1, false, ⟨0, 0, 0, 0, 0, 0, 0⟩, n, 0, 0, SlV.nil⟩).toArray 67 := by simpa [DrM.l, st1] using (B8.set 23 (.int .i64 n))
      exact HQ.out _ _ _ _ _ _ _ _ _ _ _ _ _ _ _ _ _ _ _ _ _ _ _ _ _ _ _ _ _ _ _ _ _ _ _ _ _ _ _ _ _ _ _ _ _ _ _ _ _ _ _ _ _ _ _ _ _ _ _ _ _ _ _ _ _ _ _ _ _ _ _ _ _ _ _ _ _ _ _ _ _ _ _ _ _ _ _ _ _ _ _ _ _ _ _ _ _ _ _ _ _ _ 9 _ ⟨cW, cH, [k0, k1, k2, k3, k4, k5, k6, k7, k8, k9, k10, k11, k12, k13, k14, k15], ⟨cva, cvn, cvc⟩, ⟨csa, csn, csc⟩, ⟨cpa, cpn, cpc⟩, ⟨cda, cdn, cdc⟩⟩ x ⟨st1, false, ⟨0, 0, 0, 0, 0, 0, 0⟩, n, 0, 0, SlV.nil⟩ (dW st1 false 0 n 0 []) (HEX.out [b8] _ (fun b hb => by rw [List.mem_singleton.1 hb]; omega) kS) (e7) (e8) rfl rfl (HDB.out [b8] _ (fun b hb => by rw [List.mem_singleton.1 hb]; omega) kS) (⟨HW.out, HH.out, HM.out, fun u c => by obtain ⟨a1, a2, a3⟩ := HKP.out (b8 :: (b7 :: (Value.slice cda cdn cdc).ownBlock.toList)) u (fun b hb => by rcases List.mem_cons.1 hb with h | h; (left; rw [h]; omega); (rcases HO.out b h with h | h; (left; rw [h]; omega); exact .inr h)) ((kS.sub (fun b hb => by simp at hb; simp [hb])).trans (c.sub (fun b hb => List.mem_cons_of_mem _ hb))); exact ⟨a1, a2, a3, Arr.nilI u⟩, ⟨rfl, rfl, rfl, rfl, rfl, rfl⟩, HF.out, dW_fit st1_byt (by simp [I64]) hI (by simp [I64]) (by simp)⟩) (by rw [(show (decide ((8 : Int) = 5) || (decide ((8 : Int) = 1) && decide (0 < x.draws.length))) = false by simp), fin_good SG, chkD_v SG.p n, ← HL.out]; exact if_pos g2) (by have := (e8).lt; exact this)
    · rcases Int.lt_or_le n (csn : Int) with g3 | g3
      · have g2 : ¬ (n < 0 ∨ (csn : Int) ≤ n) := by omega
        go_wp2
        have kS : Calm [b8] w (w.setCell ⟨b8, 23, none⟩ (.int .i64 n)) := calm_setP _ _ _ _
        have e7 : Blk (w.setCell ⟨b8, 23, none⟩ (.int .i64 n)) b7 (ScrM.l ⟨cW, cH, [k0, k1, k2, k3, k4, k5, k6, k7, k8, k9, k10, k11, k12, k13, k14, k15], ⟨cva, cvn, cvc⟩, ⟨csa, csn, csc⟩, ⟨cpa, cpn, cpc⟩, ⟨cda, cdn, cdc⟩⟩).toArray 42 := (B7.far (p := ⟨b8, 23, none⟩) (by simp only; omega) (.int .i64 n))
        have e8 : Blk (w.setCell ⟨b8, 23, none⟩ (.int .i64 n)) b8 (DrM.l ⟨st1, false, ⟨0, 0, 0, 0, 0, 0, 0⟩, n, 0, 0, SlV.nil⟩).toArray 67 := by simpa [DrM.l, st1] using (B8.set 23 (.int .i64 n))
        exact HQ.out _ _ _ _ _ _ _ _ _ _ _ _ _ _ _ _ _ _ _ _ _ _ _ _ _ _ _ _ _ _ _ _ _ _ _ _ _ _ _ _ _ _ _ _ _ _ _ _ _ _ _ _ _ _ _ _ _ _ _ _ _ _ _ _ _ _ _ _ _ _ _ _ _ _ _ _ _ _ _ _ _ _ _ _ _ _ _ _ _ _ _ _ _ _ _ _ _ _ _ _ _ _ 0 _ ⟨cW, cH, [k0, k1, k2, k3, k4, k5, k6, k7, k8, k9, k10, k11, k12, k13, k14, k15], ⟨cva, cvn, cvc⟩, ⟨csa, csn, csc⟩, ⟨cpa, cpn, cpc⟩, ⟨cda, cdn, cdc⟩⟩ x ⟨st1, false, ⟨0, 0, 0, 0, 0, 0, 0⟩, n, 0, 0, SlV.nil⟩ (dW st1 false 0 n 0 []) (HEX.out [b8] _ (fun b hb => by rw [List.mem_singleton.1 hb]; omega) kS) (e7) (e8) rfl rfl (HDB.out [b8] _ (fun b hb => by rw [List.mem_singleton.1 hb]; omega) kS) (⟨HW.out, HH.out, HM.out, fun u c => by obtain ⟨a1, a2, a3⟩ := HKP.out (b8 :: (b7 :: (Value.slice cda cdn cdc).ownBlock.toList)) u (fun b hb => by rcases List.mem_cons.1 hb with h | h; (left; rw [h]; omega); (rcases HO.out b h with h | h; (left; rw [h]; omega); exact .inr h)) ((kS.sub (fun b hb => by simp at hb; simp [hb])).trans (c.sub (fun b hb => List.mem_cons_of_mem _ hb))); exact ⟨a1, a2, a3, Arr.nilI u⟩, ⟨rfl, rfl, rfl, rfl, rfl, rfl⟩, HF.out, dW_fit st1_byt (by simp [I64]) hI (by simp [I64]) (by simp)⟩) (by rw [(show (decide ((8 : Int) = 5) || (decide ((8 : Int) = 1) && decide (0 < x.draws.length))) = false by simp), fin_good SG, chkD_v SG.p n, ← HL.out]; exact if_neg g2) (by have := (e8).lt; exact this)
      · have g2 : n < 0 ∨ (csn : Int) ≤ n := .inr g3
        go_wp2
        have kS : Calm [b8] w (w.setCell ⟨b8, 23, none⟩ (.int .i64 n)) := calm_setP _ _ _ _
        have e7 : Blk (w.setCell ⟨b8, 23, none⟩ (.int .i64 n)) b7 (ScrM.l ⟨cW, cH, [k0, k1, k2, k3, k4, k5, k6, k7, k8, k9, k10, k11, k12, k13, k14, k15], ⟨cva, cvn, cvc⟩, ⟨csa, csn, csc⟩, ⟨cpa, cpn, cpc⟩, ⟨cda, cdn, cdc⟩⟩).toArray 42 := (B7.far (p := ⟨b8, 23, none⟩) (by simp only; omega) (.int .i64 n))
        have e8 : Blk (w.setCell ⟨b8, 23, none⟩ (.int .i64 n)) b8 (DrM.l ⟨st1, false, ⟨0, 0, 0, 0, 0, 0, 0⟩, n, 0, 0, SlV.nil⟩).toArray 67 := by simpa [DrM.l, st1] using (B8.set 23 (.int .i64 n))
        exact HQ.out _ _ _ _ _ _ _ _ _ _ _ _ _ _ _ _ _ _ _ _ _ _ _ _ _ _ _ _ _ _ _ _ _ _ _ _ _ _ _ _ _ _ _ _ _ _ _ _ _ _ _ _ _ _ _ _ _ _ _ _ _ _ _ _ _ _ _ _ _ _ _ _ _ _ _ _ _ _ _ _ _ _ _ _ _ _ _ _ _ _ _ _ _ _ _ _ _ _ _ _ _ _ 9 _ ⟨cW, cH, [k0, k1, k2, k3, k4, k5, k6, k7, k8, k9, k10, k11, k12, k13, k14, k15], ⟨cva, cvn, cvc⟩, ⟨csa, csn, csc⟩, ⟨cpa, cpn, cpc⟩, ⟨cda, cdn, cdc⟩⟩ x ⟨st1, false, ⟨0, 0, 0, 0, 0, 0, 0⟩, n, 0, 0, SlV.nil⟩ (dW st1 false 0 n 0 []) (HEX.out [b8] _ (fun b hb => by rw [List.mem_singleton.1 hb]; omega) kS) (e7) (e8) rfl rfl (HDB.out [b8] _ (fun b hb => by rw [List.mem_singleton.1 hb]; omega) kS) (⟨HW.out, HH.out, HM.out, fun u c => by obtain ⟨a1, a2, a3⟩ := HKP.out (b8 :: (b7 :: (Value.slice cda cdn cdc).ownBlock.toList)) u (fun b hb => by rcases List.mem_cons.1 hb with h | h; (left; rw [h]; omega); (rcases HO.out b h with h | h; (left; rw [h]; omega); exact .inr h)) ((kS.sub (fun b hb => by simp at hb; simp [hb])).trans (c.sub (fun b hb => List.mem_cons_of_mem _ hb))); exact ⟨a1, a2, a3, Arr.nilI u⟩, ⟨rfl, rfl, rfl, rfl, rfl, rfl⟩, HF.out, dW_fit st1_byt (by simp [I64]) hI (by simp [I64]) (by simp)⟩) (by rw [(show (decide ((8 : Int) = 5) || (decide ((8 : Int) = 1) && decide (0 < x.draws.length))) = false by simp), fin_good SG, chkD_v SG.p n, ← HL.out]; exact if_pos g2) (by have := (e8).lt; exact this)
  · have hI : I64 n := hn
    have HL := Lib.hid (HP3.out.len)
    rcases Int.lt_or_le n 0 with g1 | g1
    · have g2 : n < 0 ∨ (cpn : Int) ≤ n := .inl g1
      go_wp2
      have kS : Calm [b8] w (w.setCell ⟨b8, 24, none⟩ (.int .i64 n)) := calm_setP _ _ _ _
      have e7 : Blk (w.setCell ⟨b8, 24, none⟩ (.int .i64 n)) b7 (ScrM.l ⟨cW, cH, [k0, k1, k2, k3, k4, k5, k6, k7, k8, k9, k10, k11, k12, k13, k14, k15], ⟨cva, cvn, cvc⟩, ⟨csa, csn, csc⟩, ⟨cpa, cpn, cpc⟩, ⟨cda, cdn, cdc⟩⟩).toArray 42 := (B7.far (p := ⟨b8, 24, none⟩) (by simp only; omega) (.int .i64 n))
      have e8 : Blk (w.setCell ⟨b8, 24, none⟩ (.int .i64 n)) b8 (DrM.l ⟨st1, false, ⟨0, 0, 0, 0, 0, 0, 0⟩, 0, n, 0, SlV.nil⟩).toArray 67 := by simpa [DrM.l, st1] using (B8.set 24 (.int .i64 n))
      exact HQ.out _ _ _ _ _ _ _ _ _ _ _ _ _ _ _ _ _ _ _ _ _ _ _ _ _ _ _ _ _ _ _ _ _ _ _ _ _ _ _ _ _ _ _ _ _ _ _ _ _ _ _ _ _ _ _ _ _ _ _ _ _ _ _ _ _ _ _ _ _ _ _ _ _ _ _ _ _ _ _ _ _ _ _ _ _ _ _ _ _ _ _ _ _ _ _ _ _ _ _ _ _ _ 9 _ ⟨cW, cH, [k0, k1, k2, k3, k4, k5, k6, k7, k8, k9, k10, k11, k12, k13, k14, k15], ⟨cva, cvn, cvc⟩, ⟨csa, csn, csc⟩, ⟨cpa, cpn, cpc⟩, ⟨cda, cdn, cdc⟩⟩ x ⟨st1, false, ⟨0, 0, 0, 0, 0, 0, 0⟩, 0, n, 0, SlV.nil⟩ (dW st1 false 0 0 n []) (HEX.out [b8] _ (fun b hb => by rw [List.mem_singleton.1 hb]; omega) kS) (e7) (e8) rfl rfl (HDB.out [b8] _ (fun b hb => by rw [List.mem_singleton.1 hb]; omega) kS) (⟨HW.out, HH.out, HM.out, fun u c => by obtain ⟨a1, a2, a3⟩ := HKP.out (b8 :: (b7 :: (Value.slice cda cdn cdc).ownBlock.toList)) u (fun b hb => by rcases List.mem_cons.1 hb with h | h; (left; rw [h]; omega); (rcases HO.out b h with h | h; (left; rw [h]; omega); exact .inr h)) ((kS.sub (fun b hb => by simp at hb; simp [hb])).trans (c.sub (fun b hb => List.mem_cons_of_mem _ hb))); exact ⟨a1, a2, a3, Arr.nilI u⟩, ⟨rfl, rfl, rfl, rfl, rfl, rfl⟩, HF.out, dW_fit st1_byt (by simp [I64]) (by simp [I64]) hI (by simp)⟩) (by rw [(show (decide ((9 : Int) = 5) || (decide ((9 : Int) = 1) && decide (0 < x.draws.length))) = false by simp), fin_good SG, chkD_f SG.s n, ← HL.out]; exact if_pos g2) (by have := (e8).lt; exact this)
    · rcases Int.lt_or_le n (cpn : Int) with g3 | g3
      · have g2 : ¬ (n < 0 ∨ (cpn : Int) ≤ n) := by omega
        go_wp2
        have kS : Calm [b8] w (w.setCell ⟨b8, 24, none⟩ (.int .i64 n)) := calm_setP _ _ _ _
        have e7 : Blk (w.setCell ⟨b8, 24, none⟩ (.int .i64 n)) b7 (ScrM.l ⟨cW, cH, [k0, k1, k2, k3, k4, k5, k6, k7, k8, k9, k10, k11, k12, k13, k14, k15], ⟨cva, cvn, cvc⟩, ⟨csa, csn, csc⟩, ⟨cpa, cpn, cpc⟩, ⟨cda, cdn, cdc⟩⟩).toArray 42 := (B7.far (p := ⟨b8, 24, none⟩) (by simp only; omega) (.int .i64 n))
        have e8 : Blk (w.setCell ⟨b8, 24, none⟩ (.int .i64 n)) b8 (DrM.l ⟨st1, false, ⟨0, 0, 0, 0, 0, 0, 0⟩, 0, n, 0, SlV.nil⟩).toArray 67 := by simpa [DrM.l, st1] using (B8.set 24 (.int .i64 n))
        exact HQ.out _ _ _ _ _ _ _ _ _ _ _ _ _ _ _ _ _ _ _ _ _ _ _ _ _ _ _ _ _ _ _ _ _ _ _ _ _ _ _ _ _ _ _ _ _ _ _ _ _ _ _ _ _ _ _ _ _ _ _ _ _ _ _ _ _ _ _ _ _ _ _ _ _ _ _ _ _ _ _ _ _ _ _ _ _ _ _ _ _ _ _ _ _ _ _ _ _ _ _ _ _ _ 0 _ ⟨cW, cH, [k0, k1, k2, k3, k4, k5, k6, k7, k8, k9, k10, k11, k12, k13, k14, k15], ⟨cva, cvn, cvc⟩, ⟨csa, csn, csc⟩, ⟨cpa, cpn, cpc⟩, ⟨cda, cdn, cdc⟩⟩ x ⟨st1, false, ⟨0, 0, 0, 0, 0, 0, 0⟩, 0, n, 0, SlV.nil⟩ (dW st1 false 0 0 n []) (HEX.out [b8] _ (fun b hb => by rw [List.mem_singleton.1 hb]; omega) kS) (e7) (e8) rfl rfl (HDB.out [b8] _ (fun b hb => by rw [List.mem_singleton.1 hb]; omega) kS) (⟨HW.out, HH.out, HM.out, fun u c => by obtain ⟨a1, a2, a3⟩ := HKP.out (b8 :: (b7 :: (Value.slice cda cdn cdc).ownBlock.toList)) u (fun b hb => by rcases List.mem_cons.1 hb with h | h; (left; rw [h]; omega); (rcases HO.out b h with h | h; (left; rw [h]; omega); exact .inr h)) ((kS.sub (fun b hb => by simp at hb; simp [hb])).trans (c.sub (fun b hb => List.mem_cons_of_mem _ hb))); exact ⟨a1, a2, a3, Arr.nilI u⟩, ⟨rfl, rfl, rfl, rfl, rfl, rfl⟩, HF.out, dW_fit st1_byt (by simp [I64]) (by simp [I64]) hI (by simp)⟩) (by rw [(show (decide ((9 : Int) = 5) || (decide ((9 : Int) = 1) && decide (0 < x.draws.length))) = false by simp), fin_good SG, chkD_f SG.s n, ← HL.out]; exact if_neg g2) (by have := (e8).lt; exact this)
      · have g2 : n < 0 ∨ (cpn : Int) ≤ n := .inr g3
        go_wp2
        have kS : Calm [b8] w (w.setCell ⟨b8, 24, none⟩ (.int .i64 n)) := calm_setP _ _ _ _
        have e7 : Blk (w.setCell ⟨b8, 24, none⟩ (.int .i64 n)) b7 (ScrM.l ⟨cW, cH, [k0, k1, k2, k3, k4, k5, k6, k7, k8, k9, k10, k11, k12, k13, k14, k15], ⟨cva, cvn, cvc⟩, ⟨csa, csn, csc⟩, ⟨cpa, cpn, cpc⟩, ⟨cda, cdn, cdc⟩⟩).toArray 42 := (B7.far (p := ⟨b8, 24, none⟩) (by simp only; omega) (.int .i64 n))
        have e8 : Blk (w.setCell ⟨b8, 24, none⟩ (.int .i64 n)) b8 (DrM.l ⟨st1, false, ⟨0, 0, 0, 0, 0, 0, 0⟩, 0, n, 0, SlV.nil⟩).toArray 67 := by simpa [DrM.l, st1] using (B8.set 24 (.int .i64 n))
        exact HQ.out _ _ _ _ _ _ _ _ _ _ _ _ _ _ _ _ _ _ _ _ _ _ _ _ _ _ _ _ _ _ _ _ _ _ _ _ _ _ _ _ _ _ _ _ _ _ _ _ _ _ _ _ _ _ _ _ _ _ _ _ _ _ _ _ _ _ _ _ _ _ _ _ _ _ _ _ _ _ _ _ _ _ _ _ _ _ _ _ _ _ _ _ _ _ _ _ _ _ _ _ _ _ 9 _ ⟨cW, cH, [k0, k1, k2, k3, k4, k5, k6, k7, k8, k9, k10, k11, k12, k13, k14, k15], ⟨cva, cvn, cvc⟩, ⟨csa, csn, csc⟩, ⟨cpa, cpn, cpc⟩, ⟨cda, cdn, cdc⟩⟩ x ⟨st1, false, ⟨0, 0, 0, 0, 0, 0, 0⟩, 0, n, 0, SlV.nil⟩ (dW st1 false 0 0 n []) (HEX.out [b8] _ (fun b hb => by rw [List.mem_singleton.1 hb]; omega) kS) (e7) (e8) rfl rfl (HDB.out [b8] _ (fun b hb => by rw [List.mem_singleton.1 hb]; omega) kS) (⟨HW.out, HH.out, HM.out, fun u c => by obtain ⟨a1, a2, a3⟩ := HKP.out (b8 :: (b7 :: (Value.slice cda cdn cdc).ownBlock.toList)) u (fun b hb => by rcases List.mem_cons.1 hb with h | h; (left; rw [h]; omega); (rcases HO.out b h with h | h; (left; rw [h]; omega); exact .inr h)) ((kS.sub (fun b hb => by simp at hb; simp [hb])).trans (c.sub (fun b hb => List.mem_cons_of_mem _ hb))); exact ⟨a1, a2, a3, Arr.nilI u⟩, ⟨rfl, rfl, rfl, rfl, rfl, rfl⟩, HF.out, dW_fit st1_byt (by simp [I64]) (by simp [I64]) hI (by simp)⟩) (by rw [(show (decide ((9 : Int) = 5) || (decide ((9 : Int) = 1) && decide (0 < x.draws.length))) = false by simp), fin_good SG, chkD_f SG.s n, ← HL.out]; exact if_pos g2) (by have := (e8).lt; exact this)
  · have HL := Lib.hid (show cvn = x.verts.length from by obtain ⟨_, _, e, -, -⟩ := HV.out.1.slice; cases e; rfl)
    have hvB := HG.out.v
    have hcv : cvn ≤ 64 := by rw [HL.out]; exact hvB
    go_wp2
    have y9 : Ext (w.setCell ⟨b8, 26, none⟩ (.slice (some ⟨w.heap.size, 0, none⟩) 3 3)) ((w.setCell ⟨b8, 26, none⟩ (.slice (some ⟨w.heap.size, 0, none⟩) 3 3)).alloc (.cells #[.int .i64 0, .int .i64 0, .int .i64 (cvn : Int)] 3)) := (Ext.refl _).alloc _ _
    have kS : Calm [b8] w ((w.setCell ⟨b8, 26, none⟩ (.slice (some ⟨w.heap.size, 0, none⟩) 3 3)).alloc (.cells #[.int .i64 0, .int .i64 0, .int .i64 (cvn : Int)] 3)) := (calm_setP w b8 26 _).trans (y9.calm _)
    have e7 : Blk ((w.setCell ⟨b8, 26, none⟩ (.slice (some ⟨w.heap.size, 0, none⟩) 3 3)).alloc (.cells #[.int .i64 0, .int .i64 0, .int .i64 (cvn : Int)] 3)) b7 (ScrM.l ⟨cW, cH, [k0, k1, k2, k3, k4, k5, k6, k7, k8, k9, k10, k11, k12, k13, k14, k15], ⟨cva, cvn, cvc⟩, ⟨csa, csn, csc⟩, ⟨cpa, cpn, cpc⟩, ⟨cda, cdn, cdc⟩⟩).toArray 42 := (B7.far (p := ⟨b8, 26, none⟩) (by simp only; omega) (.slice (some ⟨w.heap.size, 0, none⟩) 3 3)).ext y9
    have e8 : Blk ((w.setCell ⟨b8, 26, none⟩ (.slice (some ⟨w.heap.size, 0, none⟩) 3 3)).alloc (.cells #[.int .i64 0, .int .i64 0, .int .i64 (cvn : Int)] 3)) b8 (DrM.l ⟨st1, false, ⟨0, 0, 0, 0, 0, 0, 0⟩, 0, 0, 0, ⟨some ⟨w.heap.size, 0, none⟩, 3, 3⟩⟩).toArray 67 := by
      have := (B8.set 26 (.slice (some ⟨w.heap.size, 0, none⟩) 3 3)).ext y9
      simpa [DrM.l, st1] using this
    have L1 : Blk ((w.setCell ⟨b8, 26, none⟩ (.slice (some ⟨w.heap.size, 0, none⟩) 3 3)).alloc (.cells #[.int .i64 0, .int .i64 0, .int .i64 (cvn : Int)] 3)) w.heap.size #[.int .i64 0, .int .i64 0, .int .i64 (cvn : Int)] 3 := Blk.new' (by simp) _ _
    have hOl : ∀ b ∈ (b7 :: (Value.slice cda cdn cdc).ownBlock.toList), b < w.heap.size := fun b hb => by rcases HO.out b hb with h | h <;> omega
    have hA : ∀ u, Calm (b7 :: (Value.slice cda cdn cdc).ownBlock.toList) ((w.setCell ⟨b8, 26, none⟩ (.slice (some ⟨w.heap.size, 0, none⟩) 3 3)).alloc (.cells #[.int .i64 0, .int .i64 0, .int .i64 (cvn : Int)] 3)) u → Arr u .i64 (.slice (some ⟨w.heap.size, 0, none⟩) 3 3) [0, 0, (cvn : Int)] := fun u c => by
      have k1 := L1.calm c (fun hin => by have := hOl _ hin; omega)
      refine ⟨⟨_, 3, rfl, Nat.le_refl _, fun _ => ⟨w.heap.size, 0, rfl, fun j hj => ?_⟩, fun h => by cases h⟩, by simp [maxLen], fun y hy => ?_⟩
      · rw [Nat.zero_add, k1.cell]
        have : j = 0 ∨ j = 1 ∨ j = 2 := by simp at hj; omega
        rcases this with rfl | rfl | rfl <;> rfl
      · simp at hy
        have hy2 : 0 ≤ y ∧ y ≤ 64 := by rcases hy with h | h <;> omega
        exact wfi64' (by omega)
    exact HQ.out _ _ _ _ _ _ _ _ _ _ _ _ _ _ _ _ _ _ _ _ _ _ _ _ _ _ _ _ _ _ _ _ _ _ _ _ _ _ _ _ _ _ _ _ _ _ _ _ _ _ _ _ _ _ _ _ _ _ _ _ _ _ _ _ _ _ _ _ _ _ _ _ _ _ _ _ _ _ _ _ _ _ _ _ _ _ _ _ _ _ _ _ _ _ _ _ _ _ _ _ _ _ 14 _ ⟨cW, cH, [k0, k1, k2, k3, k4, k5, k6, k7, k8, k9, k10, k11, k12, k13, k14, k15], ⟨cva, cvn, cvc⟩, ⟨csa, csn, csc⟩, ⟨cpa, cpn, cpc⟩, ⟨cda, cdn, cdc⟩⟩ x ⟨st1, false, ⟨0, 0, 0, 0, 0, 0, 0⟩, 0, 0, 0, ⟨some ⟨w.heap.size, 0, none⟩, 3, 3⟩⟩ (dW st1 false 0 0 0 [0, 0, (cvn : Int)]) (HEX.out [b8] _ (fun b hb => by rw [List.mem_singleton.1 hb]; omega) kS) (e7) (e8) rfl rfl (HDB.out [b8] _ (fun b hb => by rw [List.mem_singleton.1 hb]; omega) kS) (⟨HW.out, HH.out, HM.out, fun u c => by obtain ⟨a1, a2, a3⟩ := HKP.out (b8 :: (b7 :: (Value.slice cda cdn cdc).ownBlock.toList)) u (fun b hb => by rcases List.mem_cons.1 hb with h | h; (left; rw [h]; omega); (rcases HO.out b h with h | h; (left; rw [h]; omega); exact .inr h)) ((kS.sub (fun b hb => by simp at hb; simp [hb])).trans (c.sub (fun b hb => List.mem_cons_of_mem _ hb))); exact ⟨a1, a2, a3, hA u c⟩, ⟨rfl, rfl, rfl, rfl, rfl, rfl⟩, HF.out, dW_fit st1_byt (by simp [I64]) (by simp [I64]) (by simp [I64]) (by simp)⟩) (by rw [(show (decide ((10 : Int) = 5) || (decide ((10 : Int) = 1) && decide (0 < x.draws.length))) = false by simp), fin_good SG]; rw [HL.out]; exact chkD_i SG.s SG.p) (by have := (e8).lt; exact this)
  · have _h := hb7
    go_wp2
    have kS : Calm [b8] w (w.setCell ⟨b8, 0, none⟩ (.int .u8 8)) := calm_setP _ _ _ _
    have e7 : Blk (w.setCell ⟨b8, 0, none⟩ (.int .u8 8)) b7 (ScrM.l ⟨cW, cH, [k0, k1, k2, k3, k4, k5, k6, k7, k8, k9, k10, k11, k12, k13, k14, k15], ⟨cva, cvn, cvc⟩, ⟨csa, csn, csc⟩, ⟨cpa, cpn, cpc⟩, ⟨cda, cdn, cdc⟩⟩).toArray 42 := (B7.far (p := ⟨b8, 0, none⟩) (by simp only; omega) (.int .u8 8))
    have e8 : Blk (w.setCell ⟨b8, 0, none⟩ (.int .u8 8)) b8 (DrM.l ⟨⟨8, false, 7, 0, 0, 0, 0, 0, 0, 15, 0, 0, 0, 64, 64⟩, false, ⟨0, 0, 0, 0, 0, 0, 0⟩, 0, 0, 0, SlV.nil⟩).toArray 67 := by simpa [DrM.l, st1] using (B8.set 0 (.int .u8 8))
    exact HQ.out _ _ _ _ _ _ _ _ _ _ _ _ _ _ _ _ _ _ _ _ _ _ _ _ _ _ _ _ _ _ _ _ _ _ _ _ _ _ _ _ _ _ _ _ _ _ _ _ _ _ _ _ _ _ _ _ _ _ _ _ _ _ _ _ _ _ _ _ _ _ _ _ _ _ _ _ _ _ _ _ _ _ _ _ _ _ _ _ _ _ _ _ _ _ _ _ _ _ _ _ _ _ 13 _ ⟨cW, cH, [k0, k1, k2, k3, k4, k5, k6, k7, k8, k9, k10, k11, k12, k13, k14, k15], ⟨cva, cvn, cvc⟩, ⟨csa, csn, csc⟩, ⟨cpa, cpn, cpc⟩, ⟨cda, cdn, cdc⟩⟩ x ⟨⟨8, false, 7, 0, 0, 0, 0, 0, 0, 15, 0, 0, 0, 64, 64⟩, false, ⟨0, 0, 0, 0, 0, 0, 0⟩, 0, 0, 0, SlV.nil⟩ (dW ⟨8, false, 7, 0, 0, 0, 0, 0, 0, 15, 0, 0, 0, 64, 64⟩ false 0 0 0 []) (HEX.out [b8] _ (fun b hb => by rw [List.mem_singleton.1 hb]; omega) kS) (e7) (e8) rfl rfl (HDB.out [b8] _ (fun b hb => by rw [List.mem_singleton.1 hb]; omega) kS) (⟨HW.out, HH.out, HM.out, fun u c => by obtain ⟨a1, a2, a3⟩ := HKP.out (b8 :: (b7 :: (Value.slice cda cdn cdc).ownBlock.toList)) u (fun b hb => by rcases List.mem_cons.1 hb with h | h; (left; rw [h]; omega); (rcases HO.out b h with h | h; (left; rw [h]; omega); exact .inr h)) ((kS.sub (fun b hb => by simp at hb; simp [hb])).trans (c.sub (fun b hb => List.mem_cons_of_mem _ hb))); exact ⟨a1, a2, a3, Arr.nilI u⟩, ⟨rfl, rfl, rfl, rfl, rfl, rfl⟩, HF.out, dW_fit (by simp [Stt.byt]) (by simp [I64]) (by simp [I64]) (by simp [I64]) (by simp)⟩) (by rw [(show (decide ((11 : Int) = 5) || (decide ((11 : Int) = 1) && decide (0 < x.draws.length))) = false by simp), fin_good SG]; exact chkD_st (by decide) (by decide)) (by have := (e8).lt; exact this)
end Go.Proofs.Ytbbfmlehddfneaa

