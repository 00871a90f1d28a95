/-
  DERIVED. The round of the document's Run, one way of it (made by mkrr2.py).
-/
import Derived.Test.YtellfhnfifgpoaaPkRefA
namespace Go.Proofs.Ytellfhnfifgpoaa
open Go.RowKit
set_option linter.unusedVariables false

set_option maxRecDepth 100000 in
set_option maxHeartbeats 4000000 in
theorem rr_bodyB (f2 f3 f4 f5 f6 f7 f9 f10 f11 f12 f13 f14 f15 f16 f17 f18 f19 f20 f21 f22 f23 f24 f25 f26 f27 f28 f29 f30 f31 f32 f33 f34 f35 f36 f37 f38 f39 f40 f41 f42 f43 f44 f45 f46 f47 f48 f49 f50 f51 f52 f53 f54 f55 f56 f57 f58 f59 f60 f61 f62 f63 f64 f65 f66 f67 f68 f69 f70 f71 f72 f73 f74 f75 f76 f77 f78 f79 f80 f81 f82 f83 f84 f85 f86 f87 f88 f89 f90 f91 f92 f93 f94 f95 f96 f97 f98 f99 f100 f101 f102 f103 f104 f105 f106 f107 f108 f109 f110 f111 f112 f113 f114 f115 f116 f117 f118 f119 f120 f121 f122 f123 f124 f125 f126 f127 f128 f129 f130 f131 f132 f133 f134 f135 f136 f137 f138 f139 f140 f141 f142 f143 f144 f145 f146 f147 f148 f149 f150 f151 f152 f153 f154 f155 f156 f157 f158 f159 f160 f161 f162 f163 f164 f165 f166 f167 f168 f169 f170 f171 f172 f173 f174 f175 f176 f177 f178 f179 f180 f181 f182 f183 f184 f185 f186 f187 f188 f189 f190 f191 f192 f193 f194 f195 f196 f197 f198 f199 f200 f201 f202 f203 f204 f205 f206 f207 f208 f209 f210 f211 f212 f213 f214 f215 f216 f217 f218 f219 f220 f221 f222 f223 f224 f225 f226 f227 f228 f229 f230 : Value) (g n c sb : Nat) (op : Int) (dst a b : Nat) (imm : Int) (j : Nat) (hj : j < n) (hj0 : j ≤ 33000) (himm : -32768 ≤ imm ∧ imm ≤ 32767) (hdst : dst ≤ 11) (ha : a ≤ 11) (w : World) (t : St) (hS : StAt w sb t) (hrb : RB t.rs) (hst : 0 ≤ t.steps ∧ t.steps ≤ 1000000000) (d0 : w.cell? ⟨g, j * 5, none⟩ = some (.int .i64 op)) (d1 : w.cell? ⟨g, j * 5 + 1, none⟩ = some (.int .i64 (dst : Int))) (d2 : w.cell? ⟨g, j * 5 + 2, none⟩ = some (.int .i64 (a : Int))) (d3 : w.cell? ⟨g, j * 5 + 3, none⟩ = some (.int .i64 (b : Int))) (d4 : w.cell? ⟨g, j * 5 + 4, none⟩ = some (.int .i64 imm)) (hb : b ≤ 11) (hB : 3 ≤ op ∧ op ≤ 7) {Q : Exit → Act → World → Prop}
    (hQ : ∀ (c9 c10 c11 c12 c13 c14 c15 c16 c17 c18 c19 c31 c32 c33 c34 c35 c36 c37 c38 c39 c40 c41 c42 c43 c44 c45 c46 c47 c48 c49 c50 c51 c52 c53 c54 c55 c56 c57 c58 c59 c60 c61 c62 c63 c64 c65 c66 c67 c68 c69 c70 c71 c72 c73 c74 c75 c76 c77 c78 c79 c80 c81 c82 c83 c84 c85 c86 c87 c88 c89 c90 c91 c92 c93 c94 c95 c96 c97 c98 c99 c100 c101 c102 c103 c104 c105 c106 c107 c108 c109 c110 c111 c112 c113 c114 c115 c116 c117 c118 c119 c120 c121 c122 c123 c124 c125 c126 c127 c128 c129 c130 c131 c132 c133 c134 c135 c136 c137 c138 c139 c140 c141 c142 c143 c144 c145 c146 c147 c148 c149 c150 c151 c152 c153 c154 c155 c156 c157 c158 c159 c160 c161 c162 c163 c164 c165 c166 c167 c168 c169 c170 c171 c172 c173 c174 c175 c176 c177 c178 c179 c180 c181 c182 c183 c184 c185 c186 c187 c188 c189 c190 c191 c192 c193 c194 c195 c196 c197 c198 c199 c200 c201 c202 c203 c204 c205 c206 c207 c208 c209 c210 c211 c212 c213 c214 c215 c216 c217 c218 c219 c220 c221 c222 c223 c224 c225 c226 c227 c228 c229 c230 : Value) (wx : World) (nx : Nat) (u : St), (¬ (op = 11 ∧ (regAt t.rs a).c0 < 0) ∧ u = exec ⟨op, dst, a, b, imm⟩ t ∧ nx = j + 1) ∧ StAt wx sb u ∧ Calm [sb] w wx → Q .normal ⟨(Value.slice (some ⟨g, 0, none⟩) n c :: Value.pointer (some ⟨sb, 0, none⟩) :: f2 :: f3 :: f4 :: f5 :: f6 :: f7 :: Value.int .i64 (nx : Int) :: c9 :: c10 :: c11 :: c12 :: c13 :: c14 :: c15 :: c16 :: c17 :: c18 :: c19 :: f20 :: f21 :: f22 :: f23 :: f24 :: f25 :: f26 :: f27 :: f28 :: f29 :: f30 :: c31 :: c32 :: c33 :: c34 :: c35 :: c36 :: c37 :: c38 :: c39 :: c40 :: c41 :: c42 :: c43 :: c44 :: c45 :: c46 :: c47 :: c48 :: c49 :: c50 :: c51 :: c52 :: c53 :: c54 :: c55 :: c56 :: c57 :: c58 :: c59 :: c60 :: c61 :: c62 :: c63 :: c64 :: c65 :: c66 :: c67 :: c68 :: c69 :: c70 :: c71 :: c72 :: c73 :: c74 :: c75 :: c76 :: c77 :: c78 :: c79 :: c80 :: c81 :: c82 :: c83 :: c84 :: c85 :: c86 :: c87 :: c88 :: c89 :: c90 :: c91 :: c92 :: c93 :: c94 :: c95 :: c96 :: c97 :: c98 :: c99 :: c100 :: c101 :: c102 :: c103 :: c104 :: c105 :: c106 :: c107 :: c108 :: c109 :: c110 :: c111 :: c112 :: c113 :: c114 :: c115 :: c116 :: c117 :: c118 :: c119 :: c120 :: c121 :: c122 :: c123 :: c124 :: c125 :: c126 :: c127 :: c128 :: c129 :: c130 :: c131 :: c132 :: c133 :: c134 :: c135 :: c136 :: c137 :: c138 :: c139 :: c140 :: c141 :: c142 :: c143 :: c144 :: c145 :: c146 :: c147 :: c148 :: c149 :: c150 :: c151 :: c152 :: c153 :: c154 :: c155 :: c156 :: c157 :: c158 :: c159 :: c160 :: c161 :: c162 :: c163 :: c164 :: c165 :: c166 :: c167 :: c168 :: c169 :: c170 :: c171 :: c172 :: c173 :: c174 :: c175 :: c176 :: c177 :: c178 :: c179 :: c180 :: c181 :: c182 :: c183 :: c184 :: c185 :: c186 :: c187 :: c188 :: c189 :: c190 :: c191 :: c192 :: c193 :: c194 :: c195 :: c196 :: c197 :: c198 :: c199 :: c200 :: c201 :: c202 :: c203 :: c204 :: c205 :: c206 :: c207 :: c208 :: c209 :: c210 :: c211 :: c212 :: c213 :: c214 :: c215 :: c216 :: c217 :: c218 :: c219 :: c220 :: c221 :: c222 :: c223 :: c224 :: c225 :: c226 :: c227 :: c228 :: c229 :: c230 :: List.nil).toArray, []⟩ wx) : Code.wp Try.prog (.block 1 (blockOf Try.f14 1)) Q ⟨(Value.slice (some ⟨g, 0, none⟩) n c :: Value.pointer (some ⟨sb, 0, none⟩) :: f2 :: f3 :: f4 :: f5 :: f6 :: f7 :: Value.int .i64 (j : Int) :: f9 :: f10 :: f11 :: f12 :: f13 :: f14 :: f15 :: f16 :: f17 :: f18 :: f19 :: f20 :: f21 :: f22 :: f23 :: f24 :: f25 :: f26 :: f27 :: f28 :: f29 :: f30 :: f31 :: f32 :: f33 :: f34 :: f35 :: f36 :: f37 :: f38 :: f39 :: f40 :: f41 :: f42 :: f43 :: f44 :: f45 :: f46 :: f47 :: f48 :: f49 :: f50 :: f51 :: f52 :: f53 :: f54 :: f55 :: f56 :: f57 :: f58 :: f59 :: f60 :: f61 :: f62 :: f63 :: f64 :: f65 :: f66 :: f67 :: f68 :: f69 :: f70 :: f71 :: f72 :: f73 :: f74 :: f75 :: f76 :: f77 :: f78 :: f79 :: f80 :: f81 :: f82 :: f83 :: f84 :: f85 :: f86 :: f87 :: f88 :: f89 :: f90 :: f91 :: f92 :: f93 :: f94 :: f95 :: f96 :: f97 :: f98 :: f99 :: f100 :: f101 :: f102 :: f103 :: f104 :: f105 :: f106 :: f107 :: f108 :: f109 :: f110 :: f111 :: f112 :: f113 :: f114 :: f115 :: f116 :: f117 :: f118 :: f119 :: f120 :: f121 :: f122 :: f123 :: f124 :: f125 :: f126 :: f127 :: f128 :: f129 :: f130 :: f131 :: f132 :: f133 :: f134 :: f135 :: f136 :: f137 :: f138 :: f139 :: f140 :: f141 :: f142 :: f143 :: f144 :: f145 :: f146 :: f147 :: f148 :: f149 :: f150 :: f151 :: f152 :: f153 :: f154 :: f155 :: f156 :: f157 :: f158 :: f159 :: f160 :: f161 :: f162 :: f163 :: f164 :: f165 :: f166 :: f167 :: f168 :: f169 :: f170 :: f171 :: f172 :: f173 :: f174 :: f175 :: f176 :: f177 :: f178 :: f179 :: f180 :: f181 :: f182 :: f183 :: f184 :: f185 :: f186 :: f187 :: f188 :: f189 :: f190 :: f191 :: f192 :: f193 :: f194 :: f195 :: f196 :: f197 :: f198 :: f199 :: f200 :: f201 :: f202 :: f203 :: f204 :: f205 :: f206 :: f207 :: f208 :: f209 :: f210 :: f211 :: f212 :: f213 :: f214 :: f215 :: f216 :: f217 :: f218 :: f219 :: f220 :: f221 :: f222 :: f223 :: f224 :: f225 :: f226 :: f227 :: f228 :: f229 :: f230 :: List.nil).toArray, []⟩ w := by
  have HQ := Lib.hid hQ
  clear hQ
  change Code.wp Try.prog (.block 1 (Code.seq _ _)) _ _ _
  have jb : (j : Int) ≤ 33000 := by omega
  have cs := hS.steps
  have fs := hS.thaw
  have hsl := hS.lt
  have S1 := (hS.setSteps (t.steps + 1)).ext ((Ext.refl _).alloc #[.int .i64 op, .int .i64 (dst : Int), .int .i64 (a : Int), .int .i64 (b : Int), .int .i64 imm] 79)
  have X1 := Blk.new (w.setCell ⟨sb, 50, none⟩ (.int .i64 (t.steps + 1))) #[.int .i64 op, .int .i64 (dst : Int), .int .i64 (a : Int), .int .i64 (b : Int), .int .i64 imm] 79
  have K1 := (calm_setP w sb 50 (.int .i64 (t.steps + 1))).trans (((Ext.refl _).alloc #[.int .i64 op, .int .i64 (dst : Int), .int .i64 (a : Int), .int .i64 (b : Int), .int .i64 imm] 79).calm [sb])
  have z0 : (w.setCell ⟨sb, 50, none⟩ (.int .i64 (t.steps + 1))).heap.size = w.heap.size := by simp
  have z1 : ((w.setCell ⟨sb, 50, none⟩ (.int .i64 (t.steps + 1))).alloc (.cells #[.int .i64 op, .int .i64 (dst : Int), .int .i64 (a : Int), .int .i64 (b : Int), .int .i64 imm] 79)).heap.size = w.heap.size + 1 := by simp
  rw [z0] at X1
  have hxne : w.heap.size ≠ sb := by omega
  go_upto_region 4 with fail
  clear d0 d1 d2 d3 d4 cs fs hS z0
  generalize ((w.setCell ⟨sb, 50, none⟩ (.int .i64 (t.steps + 1))).alloc (.cells #[.int .i64 op, .int .i64 (dst : Int), .int .i64 (a : Int), .int .i64 (b : Int), .int .i64 imm] 79)) = w1 at *
  generalize hxb : w.heap.size = xb at *
  have HXB := Lib.hid hxb
  clear hxb
  have x0 := X1.at0
  have x1 := X1.at1
  have x2 := X1.at2
  have x3 := X1.at3
  have x4 := X1.at4
  have haI : (a : Int) < 12 := by omega
  have hbI : (b : Int) < 12 := by omega
  obtain ⟨r0, r1, r2, r3⟩ := S1.reg a (by omega)
  go_region
  go_upto_region 7 with fail
  have e2 := ((((Ext.refl w1).alloc #[.int .i64 (regAt t.rs a).c0, .int .i64 (regAt t.rs a).c1, .int .i64 (regAt t.rs a).c2, .int .i64 (regAt t.rs a).c3] 24).alloc #[.int .i64 0, .int .i64 0, .int .i64 0, .int .i64 0] 24)).drew
  have A2 := ((Blk.new w1 #[.int .i64 (regAt t.rs a).c0, .int .i64 (regAt t.rs a).c1, .int .i64 (regAt t.rs a).c2, .int .i64 (regAt t.rs a).c3] 24).alloc (.cells #[.int .i64 0, .int .i64 0, .int .i64 0, .int .i64 0] 24)).drew
  have B2 := (Blk.new (w1.alloc (.cells #[.int .i64 (regAt t.rs a).c0, .int .i64 (regAt t.rs a).c1, .int .i64 (regAt t.rs a).c2, .int .i64 (regAt t.rs a).c3] 24)) #[.int .i64 0, .int .i64 0, .int .i64 0, .int .i64 0] 24).drew
  have zB : (w1.alloc (.cells #[.int .i64 (regAt t.rs a).c0, .int .i64 (regAt t.rs a).c1, .int .i64 (regAt t.rs a).c2, .int .i64 (regAt t.rs a).c3] 24)).heap.size = w1.heap.size + 1 := by simp
  rw [zB, z1] at B2
  rw [z1] at A2
  have S2 := S1.ext e2
  have X2 := X1.ext e2
  have K2 := K1.trans (e2.calm [sb])
  have z2 : ((w1.alloc (.cells #[.int .i64 (regAt t.rs a).c0, .int .i64 (regAt t.rs a).c1, .int .i64 (regAt t.rs a).c2, .int .i64 (regAt t.rs a).c3] 24)).alloc (.cells #[.int .i64 0, .int .i64 0, .int .i64 0, .int .i64 0] 24)).drew.heap.size = xb + 1 + 1 + 1 := by simp [z1]
  clear zB e2 S1 X1 K1 x0 x1 x2 x3 x4 r0 r1 r2 r3 z1
  generalize ((w1.alloc (.cells #[.int .i64 (regAt t.rs a).c0, .int .i64 (regAt t.rs a).c1, .int .i64 (regAt t.rs a).c2, .int .i64 (regAt t.rs a).c3] 24)).alloc (.cells #[.int .i64 0, .int .i64 0, .int .i64 0, .int .i64 0] 24)).drew = w2 at *
  have x3 := X2.at3
  obtain ⟨q0, q1, q2, q3⟩ := S2.reg b (by omega)
  have cb := B2.cell
  have fb := B2.frozen
  go_region
  have B3 : Blk ((((w2.setCell ⟨xb + 1 + 1, 0, none⟩ (.int .i64 (regAt t.rs b).c0)).setCell ⟨xb + 1 + 1, 1, none⟩ (.int .i64 (regAt t.rs b).c1)).setCell ⟨xb + 1 + 1, 2, none⟩ (.int .i64 (regAt t.rs b).c2)).setCell ⟨xb + 1 + 1, 3, none⟩ (.int .i64 (regAt t.rs b).c3)).drew (xb + 1 + 1) #[.int .i64 (regAt t.rs b).c0, .int .i64 (regAt t.rs b).c1, .int .i64 (regAt t.rs b).c2, .int .i64 (regAt t.rs b).c3] 24 := ((((B2.set 0 (.int .i64 (regAt t.rs b).c0)).set 1 (.int .i64 (regAt t.rs b).c1)).set 2 (.int .i64 (regAt t.rs b).c2)).set 3 (.int .i64 (regAt t.rs b).c3)).drew
  have k3 := ((((calm_setP w2 (xb + 1 + 1) 0 (.int .i64 (regAt t.rs b).c0)).trans (calm_setP _ (xb + 1 + 1) 1 (.int .i64 (regAt t.rs b).c1))).trans (calm_setP _ (xb + 1 + 1) 2 (.int .i64 (regAt t.rs b).c2))).trans (calm_setP _ (xb + 1 + 1) 3 (.int .i64 (regAt t.rs b).c3))).trans (((Ext.refl _).drew).calm [xb + 1 + 1])
  have X3 := X2.calm k3 (by simp; omega)
  have A3 := A2.calm k3 (by simp)
  have S3 := S2.calm k3 (by simp; omega)
  have K3 : Calm [sb] w ((((w2.setCell ⟨xb + 1 + 1, 0, none⟩ (.int .i64 (regAt t.rs b).c0)).setCell ⟨xb + 1 + 1, 1, none⟩ (.int .i64 (regAt t.rs b).c1)).setCell ⟨xb + 1 + 1, 2, none⟩ (.int .i64 (regAt t.rs b).c2)).setCell ⟨xb + 1 + 1, 3, none⟩ (.int .i64 (regAt t.rs b).c3)).drew := K2.new_trans k3 (fun g hg => by simp at hg; left; have := HXB.out; omega)
  have z3 : ((((w2.setCell ⟨xb + 1 + 1, 0, none⟩ (.int .i64 (regAt t.rs b).c0)).setCell ⟨xb + 1 + 1, 1, none⟩ (.int .i64 (regAt t.rs b).c1)).setCell ⟨xb + 1 + 1, 2, none⟩ (.int .i64 (regAt t.rs b).c2)).setCell ⟨xb + 1 + 1, 3, none⟩ (.int .i64 (regAt t.rs b).c3)).drew.heap.size = xb + 1 + 1 + 1 := by simp [z2]
  clear k3 X2 A2 S2 K2 z2 B2 x3 q0 q1 q2 q3 cb fb
  generalize ((((w2.setCell ⟨xb + 1 + 1, 0, none⟩ (.int .i64 (regAt t.rs b).c0)).setCell ⟨xb + 1 + 1, 1, none⟩ (.int .i64 (regAt t.rs b).c1)).setCell ⟨xb + 1 + 1, 2, none⟩ (.int .i64 (regAt t.rs b).c2)).setCell ⟨xb + 1 + 1, 3, none⟩ (.int .i64 (regAt t.rs b).c3)).drew = w3 at *
  have x0 := X3.at0
  go_upto_block 2 with fail
  have X4 := X3.alloc (.cells #[.int .i64 0, .int .i64 0, .int .i64 0, .int .i64 0] 24)
  have A4 := A3.alloc (.cells #[.int .i64 0, .int .i64 0, .int .i64 0, .int .i64 0] 24)
  have B4 := B3.alloc (.cells #[.int .i64 0, .int .i64 0, .int .i64 0, .int .i64 0] 24)
  have O4 := Blk.new w3 #[.int .i64 0, .int .i64 0, .int .i64 0, .int .i64 0] 24
  rw [z3] at O4
  have e4 := (Ext.refl w3).alloc #[.int .i64 0, .int .i64 0, .int .i64 0, .int .i64 0] 24
  have S4 := S3.ext e4
  have K4 := K3.trans (e4.calm [sb])
  have z4 : (w3.alloc (.cells #[.int .i64 0, .int .i64 0, .int .i64 0, .int .i64 0] 24)).heap.size = xb + 1 + 1 + 1 + 1 := by simp [z3]
  clear X3 A3 B3 S3 K3 z3 x0 e4
  generalize (w3.alloc (.cells #[.int .i64 0, .int .i64 0, .int .i64 0, .int .i64 0] 24)) = w4 at *
  have y4 := X4.at0
  have e0 : (op == 0) = false := by simp; omega
  have e11 : (op == 11) = false := by simp; omega
  have e12 : (op == 12) = false := by simp; omega
  have e13 : (op == 13) = false := by simp; omega
  refine rr_swC _ _ _ _ _ _ _ _ _ _ _ _ _ _ _ _ _ _ _ _ _ _ _ _ _ _ _ _ _ _ _ _ _ _ _ _ _ _ _ _ _ _ _ _ _ _ _ _ _ _ _ _ _ _ _ _ _ _ _ _ _ _ _ _ _ _ _ _ _ _ _ _ _ _ _ _ _ _ _ _ _ _ _ _ _ _ _ _ _ _ _ _ _ _ _ _ _ _ _ _ _ _ _ _ _ _ _ _ _ _ _ _ _ _ _ _ _ _ _ _ _ _ _ _ _ _ _ _ _ _ _ _ _ _ _ _ _ _ _ _ _ _ _ _ _ _ _ _ _ _ _ _ _ _ _ _ _ _ _ _ _ _ _ _ _ _ _ _ _ _ _ _ _ _ _ _ _ _ _ _ _ _ _ _ _ _ _ _ _ _ _ _ _ _ _ _ _ _ _ _ _ _ _ _ _ _ _ _ _ _ _ _ _ _ _ _ _ _ _ _ _ _ _ _ _ _ _ _ _ _ op w4 (by omega) (by omega) (by omega) (by omega) (by omega) (by omega) ?_
  intro q0 q1 q2 q3 q4 q5 q6 q7 q8 q9 q10 q11 q12 q13 q14 q15 q16 q17 q18 q19 q20 q21 q22 q23 q24 q25 q26 q27 q28 q29 q30 q31 q32 q33 q34 q35 q36 q37 q38 q39 q40 q41 q42 q43 q44 q45 q46 q47 q48 q49 q50 q51 q52 q53 q54 q55 q56 q57 q58 q59 q60 q61 q62 q63 q64 q65 q66 q67 q68 q69 q70 q71 q72 q73 q74 q75 q76 q77 q78 q79 q80 q81 w5 h5
  subst h5
  have h3d : decide (3 ≤ op) = true := by simp; omega
  have h7d : decide (op ≤ 7) = true := by simp; omega
  have HX4 := Lib.hid X4
  have HA4 := Lib.hid A4
  have HB4 := Lib.hid B4
  have HO4 := Lib.hid O4
  have HS4 := Lib.hid S4
  have HK4 := Lib.hid K4
  clear X4 A4 B4 O4 S4 K4
  go_upto_block 5 with fail
  refine rr_b5 _ _ _ _ _ _ _ _ _ _ _ _ _ _ _ _ _ _ _ _ _ _ _ _ _ _ _ _ _ _ _ _ _ _ _ _ _ _ _ _ _ _ _ _ _ _ _ _ _ _ _ _ _ _ _ _ _ _ _ _ _ _ _ _ _ _ _ _ _ _ _ _ _ _ _ _ _ _ _ _ _ _ _ _ _ _ _ _ _ _ _ _ _ _ _ _ _ _ _ _ _ _ _ _ _ _ _ _ _ _ _ _ _ _ _ _ _ _ _ _ _ _ _ _ _ _ _ _ _ _ _ _ _ _ _ _ _ _ _ _ _ _ _ _ _ _ _ _ _ _ _ _ _ _ _ _ _ _ _ _ _ _ _ _ _ _ _ _ _ _ _ _ _ _ _ _ _ _ _ _ _ _ _ _ _ _ _ _ _ _ _ _ _ _ _ _ _ _ _ _ _ _ _ _ _ _ _ _ _ _ _ _ _ _ _ _ _ _ _ _ _ _ _ _ _ _ xb (xb + 1) (xb + 1 + 1) (xb + 1 + 1 + 1) sb ⟨op, dst, a, b, imm⟩ (regAt t.rs a) (regAt t.rs b) ⟨0, 0, 0, 0⟩ w4 HX4.out HA4.out HB4.out HO4.out (by omega) (by omega) (by omega) hB (hrb.at a) (hrb.at b) ?_
  intro p0  p1  p2  p3  p4  p5  p6  p7  p8  p9  p10  p11  p12  p13  p14  p15 w5 h5
  obtain ⟨O5, k5⟩ := h5
  have X5 := HX4.out.calm k5 (by simp; omega)
  have S5 := HS4.out.calm k5 (by simp; omega)
  have K5 := HK4.out.new_trans k5 (fun g hg => by simp at hg; left; have := HXB.out; omega)
  have y5 := X5.at0
  have hV : outV ⟨op, dst, a, b, imm⟩ t.tick.rs = some (V4.map2 (numZ op) (regAt t.rs a) (regAt t.rs b)) := num_out hB
  generalize V4.map2 (numZ op) (regAt t.rs a) (regAt t.rs b) = V at *
  clear y4 k5
  have HX5 := Lib.hid X5
  have HS5 := Lib.hid S5
  have HK5 := Lib.hid K5
  have HO5 := Lib.hid O5
  have HV := Lib.hid hV
  clear X5 S5 K5 O5 hV
  go_upto_region 38 with fail
  refine rr_r38 _ _ _ _ _ _ _ _ _ _ _ _ _ _ _ _ _ _ _ _ _ _ _ _ _ _ _ _ _ _ _ _ _ _ _ _ _ _ _ _ _ _ _ _ _ _ _ _ _ _ _ _ _ _ _ _ _ _ _ _ _ _ _ _ _ _ _ _ _ _ _ _ _ _ _ _ _ _ _ _ _ _ _ _ _ _ _ _ _ _ _ _ _ _ _ _ _ _ _ _ _ _ _ _ _ _ _ _ _ _ _ _ _ _ _ _ _ _ _ _ _ _ _ _ _ _ _ _ _ _ _ _ _ _ _ _ _ _ _ _ _ _ _ _ _ _ _ _ _ _ _ _ _ _ _ _ _ _ _ _ _ _ _ _ _ _ _ _ _ _ _ _ _ _ _ _ _ _ _ _ _ _ _ _ _ _ _ _ _ _ _ _ _ _ _ _ _ _ _ _ _ _ _ _ _ _ _ _ _ _ _ _ _ _ _ _ _ _ _ _ _ _ _ _ _ _ _ _ xb (xb + 1 + 1 + 1) sb op dst a b imm hdst V w5 t.tick HS5.out HX5.out HO5.out ?_
  intro r0 r1 r2 r3 r4 r5 r6 w6 h6
  obtain ⟨S6, k6⟩ := h6
  have y0 := (HX5.out.calm k6 (by simp; omega)).at0
  have HS6 := Lib.hid S6
  have HK6 := Lib.hid (HK5.out.trans k6)
  clear S6 k6 y5
  go_wp2
  refine HQ.out _ _ _ _ _ _ _ _ _ _ _ _ _ _ _ _ _ _ _ _ _ _ _ _ _ _ _ _ _ _ _ _ _ _ _ _ _ _ _ _ _ _ _ _ _ _ _ _ _ _ _ _ _ _ _ _ _ _ _ _ _ _ _ _ _ _ _ _ _ _ _ _ _ _ _ _ _ _ _ _ _ _ _ _ _ _ _ _ _ _ _ _ _ _ _ _ _ _ _ _ _ _ _ _ _ _ _ _ _ _ _ _ _ _ _ _ _ _ _ _ _ _ _ _ _ _ _ _ _ _ _ _ _ _ _ _ _ _ _ _ _ _ _ _ _ _ _ _ _ _ _ _ _ _ _ _ _ _ _ _ _ _ _ _ _ _ _ _ _ _ _ _ _ _ _ _ _ _ _ _ _ _ _ _ _ _ _ _ _ _ _ _ _ _ _ _ _ _ _ _ _ _ _ _ _ _ _ _ _ _ _ w6 (j + 1) _ ⟨⟨by rintro ⟨h, -⟩; omega, rfl, rfl⟩, ?_, HK6.out⟩
  rw [show exec ⟨op, dst, a, b, imm⟩ t = { t.tick with rs := regPut t.rs dst V } by unfold exec; rw [if_neg (by simp only; omega), if_neg (by rintro ⟨h, -⟩; simp only at h; omega)]; have hv : outV ⟨op, dst, a, b, imm⟩ t.rs = some V := HV.out; rw [hv]; rfl]
  exact HS6.out
end Go.Proofs.Ytellfhnfifgpoaa

