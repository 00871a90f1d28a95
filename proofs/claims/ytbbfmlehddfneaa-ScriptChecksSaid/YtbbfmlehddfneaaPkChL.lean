/-
  DERIVED. THE WALK of ScriptChecks (made by mkscrchecks.py).
-/
import Derived.Test.YtbbfmlehddfneaaPkChA
import Derived.Test.YtbbfmlehddfneaaPkChk
import Derived.Test.YtbbfmlehddfneaaPkPut
import Derived.Test.YtbbfmlehddfneaaPkSm
namespace Go.Proofs.Ytbbfmlehddfneaa
open Go.RowKit
set_option linter.unusedVariables false
def s1 : Sm9 := ⟨0, 0, 0, 0, 0, 0, 0, 0, 0, 0, false, true, 1, 0, 0, 0⟩
theorem s1_ok : s1.ok := by simp [s1, Sm9.ok]
theorem DBh.push {wx w9 : World} {l4 l5 hi b7 : Nat} {dms : List DrM} {v v8 : Value} {Ds : List Dr} {dm : DrM} {d : Dr} (pD : DrawsAt wx l4 dms Ds) (aD : ∀ m ∈ dms, ∀ k, m.ix.v.ownBlock = some k → v.ownBlock ≠ some k) (bD2 : ∀ m ∈ dms, ∀ k, m.ix.v.ownBlock = some k → k < hi) (h7 : hi ≤ b7) (o9 : OwnG LD w9 l5 v8 (dms ++ [dm])) (c : Calm (b7 :: v.ownBlock.toList) wx w9) (hy : ∀ d ∈ Ds, ∀ y ∈ d.idx, (Lit.int .i64 y).wf = true) (his : dm.is d) (hA : Arr w9 .i64 dm.ix.v d.idx) : DRd w9 v8 (Ds ++ [d]) := by
  have p9 := pD.calm c (fun m hm k hk hin => by
    have h1 := bD2 m hm k hk
    rcases List.mem_cons.1 hin with e | h
    · omega
    · exact aD m hm k hk (Option.mem_toList.1 h))
  refine ⟨dms ++ [dm], o9.parr, by simp [pD.1], fun i m hm => ?_⟩
  rcases Nat.lt_or_ge i dms.length with h | h
  · rw [List.getElem?_append_left h] at hm
    obtain ⟨d', e1, e2, e3⟩ := p9.2 i m hm
    exact ⟨d', by rw [List.getElem?_append_left (by rw [← pD.1]; exact h)]; exact e1, e2, e3.arr (hy d' (List.mem_of_getElem? e1))⟩
  · rw [List.getElem?_append_right h] at hm
    have h0 : i - dms.length = 0 := by
      have := (List.getElem?_eq_some_iff.1 hm).1
      simp at this
      omega
    rw [h0] at hm
    simp at hm
    subst hm
    exact ⟨d, by rw [List.getElem?_append_right (by rw [← pD.1]; exact h), ← pD.1, h0]; rfl, his, hA⟩
theorem fin_fit {x : Scr} {d : Dr} (h : x.fit) (hd : d.fit) (hl : x.draws.length ≤ 1000) (k : Bool) : (fin k x d).fit := by
  refine ⟨h.W, h.H, h.m16, h.m, h.v, h.vl, h.s, h.sl, h.p, h.pl, ?_, ?_⟩
  · intro q hq
    cases k
    · rcases List.mem_append.1 hq with g | g
      · exact h.d q g
      · rw [List.mem_singleton.1 g]; exact hd
    · cases hq
  · cases k
    · simp [fin]; omega
    · simp [fin]
theorem DRd.nil (w : World) : DRd w (.slice none 0 0) [] := ⟨[], ⟨none, 0, rfl, fun h => absurd rfl h⟩, rfl, fun i m hm => by simp at hm⟩
set_option maxRecDepth 100000 in
theorem s1_any (w : World) : Calls Try.prog 12 #[.agg #[.int .u8 0, .int .u8 0, .int .u8 0, .int .u8 0, .int .u8 0, .int .u8 0, .int .u8 0, .int .u8 0, .int .u8 0, .int .u8 0, .bool false, .bool true, .int .u8 1, .int .u8 0, .int .u8 0, .int .u8 0]] w fun e w' => e = .returned (.agg #[.int .u8 0, .bool false, .int .u8 7, .int .u8 0, .int .u8 0, .int .u8 0, .int .u8 0, .int .u8 0, .int .u8 0, .int .u8 15, .int .u8 0, .int .i64 0, .int .i64 0, .int .i64 64, .int .i64 64]) ∧ Ext w w' := small9_any s1 s1_ok w
set_option maxRecDepth 100000 in
set_option maxHeartbeats 4000000 in
theorem scriptChecks_main (w : World) (s : SScr) (vs : List VSm) (sh pa : List SlV) (ds : List DSm) (Q : SScrQ w s vs sh pa ds) (z n : Int) (hz : 0 ≤ z ∧ z ≤ 255) (hn : I64 n) : Calls Try.prog 4 #[.agg s.v, .int .u8 z, .int .i64 n] w fun e w' => e = .returned (.bool true) ∧ Ext w w' := by
  have hL := fun u (hu : Ext w u) => light_any u s vs sh pa ds (Q.ext hu)
  have hS := fun u (hu : Ext w u) hl Ls Lp hs hp LX hd => script11_any u s vs sh pa ds (Q.ext hu) hl Ls Lp hs hp LX hd
  obtain ⟨Ls, hCs⟩ := conts_of Q.sq
  obtain ⟨Lp, hCp⟩ := conts_of Q.pq
  obtain ⟨LX, hCd⟩ := dconts_of Q.dq
  have SG := scriptF_ok Q hCs hCp hCd
  have hS := fun u (hu : Ext w u) hl => hS u hu hl Ls Lp (hCs.ext hu) (hCp.ext hu) LX (hCd.ext hu)
  generalize scriptF s vs Ls Lp ds LX = x at *
  clear hCs hCp hCd Q
  obtain ⟨wd, ht, t0, t1, t2, t3, ⟨va, vn, vc⟩, ⟨sa, sn, sc⟩, ⟨pa', pn, pc⟩, ⟨da, dn, dc⟩⟩ := s
  have x1 := (Ext.refl w).alloc #[.int .u8 wd, .int .u8 ht, .int .i16 t0, .int .i16 t1, .int .i16 t2, .int .i16 t3, .slice va vn vc, .slice sa sn sc, .slice pa' pn pc, .slice da dn dc] 28
  have B1 := Blk.new w #[.int .u8 wd, .int .u8 ht, .int .i16 t0, .int .i16 t1, .int .i16 t2, .int .i16 t3, .slice va vn vc, .slice sa sn sc, .slice pa' pn pc, .slice da dn dc] 28
  go_enter Try.func4, Try.ntmps4
  go_upto_region 1 with fail
  generalize w.alloc (.cells #[.int .u8 wd, .int .u8 ht, .int .i16 t0, .int .i16 t1, .int .i16 t2, .int .i16 t3, .slice va vn vc, .slice sa sn sc, .slice pa' pn pc, .slice da dn dc] 28) = w1 at *
  generalize hb0 : w.heap.size = b0 at *
  go_wp2_with fail
  refine (awake11_any _).mono ?_
  rintro e w2 ⟨rfl, x2⟩
  have B2 := B1.ext x2
  have E2 := x1.trans x2
  clear B1 x1 x2
  go_wp2_with (first
    | ((with_reducible refine wpList_load_blk (op := ⟨some 14, _, _, _, _, _⟩) ?_ 28 (.tmp 3) ?_ b0 ?_ (z := _) (T := 28) B2 Try.underlying28 ?_ ?_ ?_); rfl; rfl; rfl; rfl; kernel_rfl)
    | fail)
  refine (hL _ E2).mono ?_
  rintro e w3 ⟨rfl, x3⟩
  have B3 := B2.ext x3
  have E3 := E2.trans x3
  clear B2 E2 x3 hL
  cases hl : lightB vs sh pa ds
  · go_wp2
    go_ret
    exact ⟨rfl, E3⟩
  have hS := hS _ E3 hl
  clear hl
  go_wp2_with (first
    | ((with_reducible refine wpList_load_blk (op := ⟨some 17, _, _, _, _, _⟩) ?_ 28 (.tmp 3) ?_ b0 ?_ (z := _) (T := 28) B3 Try.underlying28 ?_ ?_ ?_); rfl; rfl; rfl; rfl; kernel_rfl)
    | fail)
  refine hS.mono ?_
  rintro e w5 ⟨m, rfl, SA, x5⟩
  have E5 := E3.trans x5
  have z35 := x5.size
  have hlo := E3.size
  clear hS B3 E3 x5
  have hl22 : m.l.length = 22 := by simp [ScrM.l, SA.m, SG.rd.r0.fit.m16]
  have hone := m.ones'
  have I5 := SA.inn
  have Bz := Blk.new w5 #[.int .i64 0, .int .i64 0, .int .i64 0, .int .i64 0, .int .i64 0, .int .i64 0, .int .i64 0, .int .i64 0, .int .i64 0, .int .i64 0, .int .i64 0, .int .i64 0, .int .i64 0, .int .i64 0, .int .i64 0, .int .i64 0, .int .i64 0, .int .i64 0, .slice none 0 0, .slice none 0 0, .slice none 0 0, .slice none 0 0] 42
  have X6 := Bz.setRow m.l.toArray
  have y6 : Ext w5 ((w5.alloc (.cells #[.int .i64 0, .int .i64 0, .int .i64 0, .int .i64 0, .int .i64 0, .int .i64 0, .int .i64 0, .int .i64 0, .int .i64 0, .int .i64 0, .int .i64 0, .int .i64 0, .int .i64 0, .int .i64 0, .int .i64 0, .int .i64 0, .int .i64 0, .int .i64 0, .slice none 0 0, .slice none 0 0, .slice none 0 0, .slice none 0 0] 42)).setRow w5.heap.size m.l.toArray) := ((Ext.refl w5).alloc _ _).setRow (Nat.le_refl _) _
  have E6 := E5.trans y6
  have I6 := I5.ext y6
  go_upto_region 6 with (first
    | ((with_reducible refine wpList_store_blk (op := ⟨none, .store 42 (.tmp 7) (.tmp 18), _, _, _, _⟩) ?_ 42 (.tmp 7) (.tmp 18) ?_ w5.heap.size ?_ (cs := m.l.toArray) ?_ (z := #[.int .i64 0, .int .i64 0, .int .i64 0, .int .i64 0, .int .i64 0, .int .i64 0, .int .i64 0, .int .i64 0, .int .i64 0, .int .i64 0, .int .i64 0, .int .i64 0, .int .i64 0, .int .i64 0, .int .i64 0, .int .i64 0, .int .i64 0, .int .i64 0, .slice none 0 0, .slice none 0 0, .slice none 0 0, .slice none 0 0]) (T := 42) ?_ ?_ ?_ ?_ ?_); rfl; rfl; rfl; rfl; exact Bz; (rw [List.size_toArray, hl22]; kernel_rfl); exact hone; (simp [hl22]))
    | fail)
  clear Bz y6 SA I5
  have hb7 := X6.lt
  generalize (w5.alloc (.cells #[.int .i64 0, .int .i64 0, .int .i64 0, .int .i64 0, .int .i64 0, .int .i64 0, .int .i64 0, .int .i64 0, .int .i64 0, .int .i64 0, .int .i64 0, .int .i64 0, .int .i64 0, .int .i64 0, .int .i64 0, .int .i64 0, .int .i64 0, .int .i64 0, .slice none 0 0, .slice none 0 0, .slice none 0 0, .slice none 0 0] 42)).setRow w5.heap.size m.l.toArray = w6 at *
  obtain ⟨b7, hb7e⟩ : ∃ b7, w5.heap.size = b7 := ⟨_, rfl⟩
  rw [hb7e] at X6 I6 hb7 z35
  rw [hb7e]
  clear hb7e
  go_wp2_with fail
  refine (s1_any _).mono ?_
  rintro e w7 ⟨rfl, x7⟩
  have E7 := E6.trans x7
  have X7 := X6.ext x7
  have I7 := I6.ext x7
  have z7 := x7.size
  clear X6 I6 E6 x7
  have Bz := Blk.new w7 #[.int .u8 0, .bool false, .int .u8 0, .int .u8 0, .int .u8 0, .int .u8 0, .int .u8 0, .int .u8 0, .int .u8 0, .int .u8 0, .int .u8 0, .int .i64 0, .int .i64 0, .int .i64 0, .int .i64 0, .bool false, .int .u8 0, .int .u8 0, .int .u8 0, .int .u8 0, .int .i64 0, .int .u8 0, .int .u8 0, .int .i64 0, .int .i64 0, .int .u8 0, .slice none 0 0] 67
  have Y8 := Bz.setRow #[.int .u8 0, .bool false, .int .u8 7, .int .u8 0, .int .u8 0, .int .u8 0, .int .u8 0, .int .u8 0, .int .u8 0, .int .u8 15, .int .u8 0, .int .i64 0, .int .i64 0, .int .i64 64, .int .i64 64, .bool false, .int .u8 0, .int .u8 0, .int .u8 0, .int .u8 0, .int .i64 0, .int .u8 0, .int .u8 0, .int .i64 0, .int .i64 0, .int .u8 0, .slice none 0 0]
  have y8 : Ext w7 ((w7.alloc (.cells #[.int .u8 0, .bool false, .int .u8 0, .int .u8 0, .int .u8 0, .int .u8 0, .int .u8 0, .int .u8 0, .int .u8 0, .int .u8 0, .int .u8 0, .int .i64 0, .int .i64 0, .int .i64 0, .int .i64 0, .bool false, .int .u8 0, .int .u8 0, .int .u8 0, .int .u8 0, .int .i64 0, .int .u8 0, .int .u8 0, .int .i64 0, .int .i64 0, .int .u8 0, .slice none 0 0] 67)).setRow w7.heap.size #[.int .u8 0, .bool false, .int .u8 7, .int .u8 0, .int .u8 0, .int .u8 0, .int .u8 0, .int .u8 0, .int .u8 0, .int .u8 15, .int .u8 0, .int .i64 0, .int .i64 0, .int .i64 64, .int .i64 64, .bool false, .int .u8 0, .int .u8 0, .int .u8 0, .int .u8 0, .int .i64 0, .int .u8 0, .int .u8 0, .int .i64 0, .int .i64 0, .int .u8 0, .slice none 0 0]) := ((Ext.refl w7).alloc _ _).setRow (Nat.le_refl _) _
  have I8 := I7.ext y8
  have X8 := X7.ext y8
  have E8 := E7.trans y8
  go_upto_region 7 with (first
    | ((with_reducible refine wpList_store_blk (op := ⟨none, .store 67 (.tmp 8) (.tmp 22), _, _, _, _⟩) ?_ 67 (.tmp 8) (.tmp 22) ?_ w7.heap.size ?_ (cs := #[.int .u8 0, .bool false, .int .u8 7, .int .u8 0, .int .u8 0, .int .u8 0, .int .u8 0, .int .u8 0, .int .u8 0, .int .u8 15, .int .u8 0, .int .i64 0, .int .i64 0, .int .i64 64, .int .i64 64, .bool false, .int .u8 0, .int .u8 0, .int .u8 0, .int .u8 0, .int .i64 0, .int .u8 0, .int .u8 0, .int .i64 0, .int .i64 0, .int .u8 0, .slice none 0 0]) ?_ (z := #[.int .u8 0, .bool false, .int .u8 0, .int .u8 0, .int .u8 0, .int .u8 0, .int .u8 0, .int .u8 0, .int .u8 0, .int .u8 0, .int .u8 0, .int .i64 0, .int .i64 0, .int .i64 0, .int .i64 0, .bool false, .int .u8 0, .int .u8 0, .int .u8 0, .int .u8 0, .int .i64 0, .int .u8 0, .int .u8 0, .int .i64 0, .int .i64 0, .int .u8 0, .slice none 0 0]) (T := 67) ?_ ?_ ?_ ?_ ?_); rfl; rfl; rfl; rfl; exact Bz; kernel_rfl; kernel_rfl; kernel_rfl)
    | fail)
  clear Bz X7 I7 E7 y8
  have h78 : b7 < w7.heap.size := by omega
  generalize (w7.alloc (.cells #[.int .u8 0, .bool false, .int .u8 0, .int .u8 0, .int .u8 0, .int .u8 0, .int .u8 0, .int .u8 0, .int .u8 0, .int .u8 0, .int .u8 0, .int .i64 0, .int .i64 0, .int .i64 0, .int .i64 0, .bool false, .int .u8 0, .int .u8 0, .int .u8 0, .int .u8 0, .int .i64 0, .int .u8 0, .int .u8 0, .int .i64 0, .int .i64 0, .int .u8 0, .slice none 0 0] 67)).setRow w7.heap.size #[.int .u8 0, .bool false, .int .u8 7, .int .u8 0, .int .u8 0, .int .u8 0, .int .u8 0, .int .u8 0, .int .u8 0, .int .u8 15, .int .u8 0, .int .i64 0, .int .i64 0, .int .i64 64, .int .i64 64, .bool false, .int .u8 0, .int .u8 0, .int .u8 0, .int .u8 0, .int .i64 0, .int .u8 0, .int .u8 0, .int .i64 0, .int .i64 0, .int .u8 0, .slice none 0 0] = w8 at *
  generalize w7.heap.size = b8 at *
  go_upto_block 0 with fail
  have hr12 : 0 ≤ z % 12 ∧ z % 12 < 12 := by omega
  have hdl := SG.d
  have hwf := SG.rd.r0.wf
  refine scrchk_b0 _ _ _ _ _ _ _ _ _ _ _ _ _ _ _ _ _ _ _ _ _ _ _ _ _ _ _ _ _ _ _ _ _ _ _ _ _ _ _ _ _ _ _ _ _ _ _ _ _ _ _ _ _ _ _ _ _ _ _ _ _ _ _ _ _ _ _ _ _ _ _ _ _ _ _ _ _ _ _ _ _ _ _ _ _ _ _ _ _ _ _ _ _ _ _ _ _ _ _ _ _ _ _ _ _ _ _ _ _ _ _ _ _ _ _ _ _ _ _ _ _ _ _ _ _ _ _ _ _ _ _ _ _ _ _ _ _ _ _ _ _ _ _ _ _ _ _ _ _ _ _ _ _ _ _ _ _ b7 b8 w3.heap.size b7 m x (z % 12) n w w8 SG hn hr12 I8 X8 Y8 ⟨by omega, by omega⟩ E8 hlo (by omega) ?_
  intro c25 c26 c27 c28 c29 c30 c31 c32 c33 c34 c35 c36 c37 c38 c39 c40 c41 c42 c43 c44 c45 c46 c47 c48 c49 c50 c51 c52 c53 c54 c55 c56 c57 c58 c59 c60 c61 c62 c63 c64 c65 c66 c67 c68 c69 c70 c71 c72 c73 c74 c75 c76 c77 c78 c79 c80 c81 c82 c83 c84 c85 c86 c87 c88 c89 c90 c91 c92 c93 c94 c95 c96 c97 c98 c99 c100 c101 c102 c103 c104 c105 c106 c107 c108 c109 c110 c111 c112 c113 c114 c115 c116 c117 c118 c119 c120 c121 c122 c123 c124 c125 c126 want wx m' x' dm' d' Ex B7' B8' eds exd KD R hchk hb8
  clear I8 X8 Y8 E8 SG E5
  rw [← eds] at KD R
  rw [← exd] at KD hdl hwf hchk
  clear eds exd
  obtain ⟨l4, hl4, dms, oD, pD, aD, bD, bD2⟩ := KD
  have hm16 : m'.m.length = 16 := by rw [R.mt]; exact R.fit.m16
  obtain ⟨cW, cH, mm, ⟨cva, cvn, cvc⟩, ⟨csa, csn, csc⟩, ⟨cpa, cpn, cpc⟩, ⟨cda, cdn, cdc⟩⟩ := m'
  dsimp only at hm16
  obtain ⟨k0, k1, k2, k3, k4, k5, k6, k7, k8, k9, k10, k11, k12, k13, k14, k15, rfl⟩ := sixteen mm hm16
  clear hm16
  obtain ⟨⟨q0, q1, q2, q3, q4, q5, q6, q7, q8, q9, q10, q11, q12, q13, q14⟩, cl, ⟨e0, e1, e2, e3, e4, e5, e6⟩, vx, fr, kd, ⟨ia, inn, ic⟩⟩ := dm'
  have B7 : Blk wx b7 #[.int .i64 cW, .int .i64 cH, .int .i64 k0, .int .i64 k1, .int .i64 k2, .int .i64 k3, .int .i64 k4, .int .i64 k5, .int .i64 k6, .int .i64 k7, .int .i64 k8, .int .i64 k9, .int .i64 k10, .int .i64 k11, .int .i64 k12, .int .i64 k13, .int .i64 k14, .int .i64 k15, .slice cva cvn cvc, .slice csa csn csc, .slice cpa cpn cpc, .slice cda cdn cdc] 42 := B7'
  have B8 : Blk wx b8 #[.int .u8 q0, .bool q1, .int .u8 q2, .int .u8 q3, .int .u8 q4, .int .u8 q5, .int .u8 q6, .int .u8 q7, .int .u8 q8, .int .u8 q9, .int .u8 q10, .int .i64 q11, .int .i64 q12, .int .i64 q13, .int .i64 q14, .bool cl, .int .u8 e0, .int .u8 e1, .int .u8 e2, .int .u8 e3, .int .i64 e4, .int .u8 e5, .int .u8 e6, .int .i64 vx, .int .i64 fr, .int .u8 kd, .slice ia inn ic] 67 := B8'
  clear B7' B8'
  obtain ⟨_, _, e, -, -⟩ := id oD.slice
  cases e
  have hlow : ∀ k, (Value.slice cda dms.length cdc).ownBlock = some k → l4 ≤ k ∧ k < b7 := fun k hk => ⟨(oD.lt k hk).1, bD k hk⟩
  have hdn : dms.length ≤ 5 := by rw [pD.1]; exact hdl
  have y9 : Ext wx (wx.alloc (.cells #[.int .u8 q0, .bool q1, .int .u8 q2, .int .u8 q3, .int .u8 q4, .int .u8 q5, .int .u8 q6, .int .u8 q7, .int .u8 q8, .int .u8 q9, .int .u8 q10, .int .i64 q11, .int .i64 q12, .int .i64 q13, .int .i64 q14, .bool cl, .int .u8 e0, .int .u8 e1, .int .u8 e2, .int .u8 e3, .int .i64 e4, .int .u8 e5, .int .u8 e6, .int .i64 vx, .int .i64 fr, .int .u8 kd, .slice ia inn ic] 67)) := (Ext.refl wx).alloc _ _
  have o9 := (oD.mono hl4).ext y9
  have hcn : ∀ i u, (LD.cells (⟨⟨q0, q1, q2, q3, q4, q5, q6, q7, q8, q9, q10, q11, q12, q13, q14⟩, cl, ⟨e0, e1, e2, e3, e4, e5, e6⟩, vx, fr, kd, ⟨ia, inn, ic⟩⟩ : DrM))[i]? = some u → (wx.alloc (.cells #[.int .u8 q0, .bool q1, .int .u8 q2, .int .u8 q3, .int .u8 q4, .int .u8 q5, .int .u8 q6, .int .u8 q7, .int .u8 q8, .int .u8 q9, .int .u8 q10, .int .i64 q11, .int .i64 q12, .int .i64 q13, .int .i64 q14, .bool cl, .int .u8 e0, .int .u8 e1, .int .u8 e2, .int .u8 e3, .int .i64 e4, .int .u8 e5, .int .u8 e6, .int .i64 vx, .int .i64 fr, .int .u8 kd, .slice ia inn ic] 67)).cell? ⟨wx.heap.size, i, none⟩ = some u := fun i u hu => by
    rw [(Blk.new wx _ _).cell]
    have hu' : (#[.int .u8 q0, .bool q1, .int .u8 q2, .int .u8 q3, .int .u8 q4, .int .u8 q5, .int .u8 q6, .int .u8 q7, .int .u8 q8, .int .u8 q9, .int .u8 q10, .int .i64 q11, .int .i64 q12, .int .i64 q13, .int .i64 q14, .bool cl, .int .u8 e0, .int .u8 e1, .int .u8 e2, .int .u8 e3, .int .i64 e4, .int .u8 e5, .int .u8 e6, .int .i64 vx, .int .i64 fr, .int .u8 kd, .slice ia inn ic] : Array Value).toList[i]? = some u := hu
    simpa using hu'
  have B79 := B7.ext y9
  have hb7w := B7.lt
  have cB7 := B7.cell
  have cB79 := B79.cell
  have hl4x : w3.heap.size ≤ (wx.alloc (.cells #[.int .u8 q0, .bool q1, .int .u8 q2, .int .u8 q3, .int .u8 q4, .int .u8 q5, .int .u8 q6, .int .u8 q7, .int .u8 q8, .int .u8 q9, .int .u8 q10, .int .i64 q11, .int .i64 q12, .int .i64 q13, .int .i64 q14, .bool cl, .int .u8 e0, .int .u8 e1, .int .u8 e2, .int .u8 e3, .int .i64 e4, .int .u8 e5, .int .u8 e6, .int .i64 vx, .int .i64 fr, .int .u8 kd, .slice ia inn ic] 67)).heap.size := by rw [World.size_alloc]; have := B7.lt; omega
  go_wp2_with (first
    | ((with_reducible refine wpList_load_blk (op := ⟨some 129, _, _, _, _, _⟩) ?_ 67 (.tmp 8) ?_ b8 ?_ (z := _) (T := 67) B8 Try.underlying67 ?_ ?_ ?_); rfl; rfl; rfl; rfl; kernel_rfl)
    | (at_builtin; refine wpList_append_g1 LD rfl _ _ rfl w3.heap.size _ dms rfl o9 wx.heap.size 1 (⟨⟨q0, q1, q2, q3, q4, q5, q6, q7, q8, q9, q10, q11, q12, q13, q14⟩, cl, ⟨e0, e1, e2, e3, e4, e5, e6⟩, vx, fr, kd, ⟨ia, inn, ic⟩⟩ : DrM) rfl hcn (by omega) hl4x ?_)
    | fail)
  intro v10 w10 o10 A10 hk10
  obtain ⟨ao8, c8, rfl, -, -⟩ := o10.slice
  have nb : b7 ∉ (Value.slice cda dms.length cdc).ownBlock.toList := fun hin => by have := hlow _ (Option.mem_toList.1 hin); omega
  have B710 := B79.calm A10 nb
  have cB10 := B710.cell
  have fB10 := B710.frozen
  clear cB7 cB79 B7 B8
  simp only [List.length_append, List.length_cons, List.length_nil, Nat.zero_add] at o10 hk10 ⊢
  obtain ⟨dl, hdle⟩ : ∃ dl, dms.length + 1 = dl := ⟨_, rfl⟩
  rw [hdle] at o10 hk10 ⊢
  have HDLE := Lib.hid hdle
  clear hdle
  go_upto_region 45 with fail
  have kS : Calm (b7 :: (Value.slice cda dms.length cdc).ownBlock.toList) wx (w10.setCell ⟨b7, 21, none⟩ (.slice ao8 dl c8)) := ((y9.calm _).trans (A10.sub (fun b hb => List.mem_cons_of_mem _ hb))).trans ((calm_setP w10 b7 21 _).sub (fun b hb => by simp at hb; simp [hb]))
  have hne : ∀ k, (Value.slice ao8 dl c8).ownBlock = some k → k ∉ [b7] := fun k hk hin => by
    have e := List.mem_singleton.1 hin
    rcases hk10 k hk with h | h
    · have := hlow k h; omega
    · first | omega | (rw [World.size_alloc] at h; omega)
  have o11 := o10.calm (calm_setP w10 b7 21 (.slice ao8 dl c8)) hne
  have hO : ∀ b ∈ (b7 :: (Value.slice cda dms.length cdc).ownBlock.toList), w.heap.size ≤ b := fun b hb => by
    rcases List.mem_cons.1 hb with h | h
    · omega
    · have := hlow b (Option.mem_toList.1 h); omega
  have E11 := Ext.calm_trans Ex kS hO
  have B11 : Blk (w10.setCell ⟨b7, 21, none⟩ (.slice ao8 dl c8)) b7 #[.int .i64 cW, .int .i64 cH, .int .i64 k0, .int .i64 k1, .int .i64 k2, .int .i64 k3, .int .i64 k4, .int .i64 k5, .int .i64 k6, .int .i64 k7, .int .i64 k8, .int .i64 k9, .int .i64 k10, .int .i64 k11, .int .i64 k12, .int .i64 k13, .int .i64 k14, .int .i64 k15, .slice cva cvn cvc, .slice csa csn csc, .slice cpa cpn cpc, .slice ao8 dl c8] 42 := by simpa using B710.set 21 (.slice ao8 dl c8)
  obtain ⟨r1, r2, r3, r4⟩ := R.keep _ kS
  have hpr := DBh.push pD aD bD2 (Nat.le_refl b7) o11 kS hwf R.is r4
  generalize w10.setCell ⟨b7, 21, none⟩ (.slice ao8 dl c8) = w11 at *
  have R11 : ScrR w11 ⟨cW, cH, [k0, k1, k2, k3, k4, k5, k6, k7, k8, k9, k10, k11, k12, k13, k14, k15], ⟨cva, cvn, cvc⟩, ⟨csa, csn, csc⟩, ⟨cpa, cpn, cpc⟩, ⟨ao8, dl, c8⟩⟩ (fin false x' d') := ⟨R.W, R.H, R.mt, r1, r2, r3, hpr⟩
  have hff := fun k => fin_fit R.fit R.dfit (by omega) k
  have c12s := calm_setP w11 b7 21 (.slice none 0 0)
  have kS2 : Calm (b7 :: (Value.slice cda dms.length cdc).ownBlock.toList) wx (w11.setCell ⟨b7, 21, none⟩ (.slice none 0 0)) := kS.trans (c12s.sub (fun b hb => by simp at hb; simp [hb]))
  have E12 := Ext.calm_trans Ex kS2 hO
  have B12 : Blk (w11.setCell ⟨b7, 21, none⟩ (.slice none 0 0)) b7 #[.int .i64 cW, .int .i64 cH, .int .i64 k0, .int .i64 k1, .int .i64 k2, .int .i64 k3, .int .i64 k4, .int .i64 k5, .int .i64 k6, .int .i64 k7, .int .i64 k8, .int .i64 k9, .int .i64 k10, .int .i64 k11, .int .i64 k12, .int .i64 k13, .int .i64 k14, .int .i64 k15, .slice cva cvn cvc, .slice csa csn csc, .slice cpa cpn cpc, .slice none 0 0] 42 := by simpa using B11.set 21 (.slice none 0 0)
  obtain ⟨t1, t2, t3, -⟩ := R.keep _ kS2
  have R12 : ScrR (w11.setCell ⟨b7, 21, none⟩ (.slice none 0 0)) ⟨cW, cH, [k0, k1, k2, k3, k4, k5, k6, k7, k8, k9, k10, k11, k12, k13, k14, k15], ⟨cva, cvn, cvc⟩, ⟨csa, csn, csc⟩, ⟨cpa, cpn, cpc⟩, ⟨none, 0, 0⟩⟩ (fin true x' d') := ⟨R.W, R.H, R.mt, t1, t2, t3, DRd.nil _⟩
  have cB11 := B11.cell
  have fB11 := B11.frozen
  have hdlI : (dl : Int) = (x'.draws.length : Int) + 1 := by have := HDLE.out; have := pD.1; omega
  have HDI := Lib.hid hdlI
  clear R kS kS2 c12s r1 r2 r3 r4 t1 t2 t3 hpr o11 o10 hk10 hne hO hb7w B79 B710 cB10 fB10 A10 y9 o9 hcn Ex oD pD aD bD bD2 hlow nb hdlI
  by_cases h5 : z % 12 = 5
  · rw [decide_eq_true h5] at hchk
    have hchk : chkS (fin true x' d') = want := hchk
    go_upto_region 47 with fail
    generalize w11.setCell ⟨b7, 21, none⟩ (.slice none 0 0) = w12 at *
    have HR := Lib.hid R12
    have HP : Calls Try.prog 9 #[.agg #[.int .i64 cW, .int .i64 cH, .int .i64 k0, .int .i64 k1, .int .i64 k2, .int .i64 k3, .int .i64 k4, .int .i64 k5, .int .i64 k6, .int .i64 k7, .int .i64 k8, .int .i64 k9, .int .i64 k10, .int .i64 k11, .int .i64 k12, .int .i64 k13, .int .i64 k14, .int .i64 k15, .slice cva cvn cvc, .slice csa csn csc, .slice cpa cpn cpc, .slice none 0 0]] w12 fun e w' => ∃ v, e = .returned (.tuple #[v, .int .i64 want]) ∧ Ext w12 w' := by
      have := put11_any _ _ w12 R12 (hff true)
      rw [hchk] at this
      exact this.mono fun e w' ⟨v, h1, _, _, h2⟩ => ⟨v, h1, h2⟩
    have HC : ∀ u, Ext w12 u → Calls Try.prog 11 #[.agg #[.int .i64 cW, .int .i64 cH, .int .i64 k0, .int .i64 k1, .int .i64 k2, .int .i64 k3, .int .i64 k4, .int .i64 k5, .int .i64 k6, .int .i64 k7, .int .i64 k8, .int .i64 k9, .int .i64 k10, .int .i64 k11, .int .i64 k12, .int .i64 k13, .int .i64 k14, .int .i64 k15, .slice cva cvn cvc, .slice csa csn csc, .slice cpa cpn cpc, .slice none 0 0]] u fun e w' => e = .returned (.int .i64 want) ∧ Ext u w' := fun u hu => by
      have := checkS_any _ _ u (HR.out.ext hu) (hff true)
      rw [hchk] at this
      exact this
    have HPH := Lib.hid HP
    have HCH := Lib.hid HC
    have HFF := Lib.hid hff
    have HCK := Lib.hid hchk
    clear HP HC hff hchk R12 HR
    go_wp2_with (first
      | ((with_reducible refine wpList_load_blk (op := ⟨some 149, _, _, _, _, _⟩) ?_ 42 (.tmp 7) ?_ b7 ?_ (z := _) (T := 42) B12 Try.underlying42 ?_ ?_ ?_); rfl; rfl; rfl; rfl; kernel_rfl)
      | fail)
    refine HPH.out.mono ?_
    rintro e w11 ⟨v11, rfl, x11⟩
    have B11 := (B12).ext x11
    go_wp2_with (first
      | ((with_reducible refine wpList_load_blk (op := ⟨some 153, _, _, _, _, _⟩) ?_ 42 (.tmp 7) ?_ b7 ?_ (z := _) (T := 42) B11 Try.underlying42 ?_ ?_ ?_); rfl; rfl; rfl; rfl; kernel_rfl)
      | fail)
    refine (HCH.out _ x11).mono ?_
    rintro e w12 ⟨rfl, x12⟩
    have Ef := (E12.trans x11).trans x12
    go_wp2
    go_ret
    exact ⟨rfl, by first | exact Ef | (rw [hb0]; exact Ef)⟩
  by_cases h1 : z % 12 = 1
  · by_cases h0 : 0 < x'.draws.length
    · rw [decide_eq_false h5, decide_eq_true h1, decide_eq_true h0] at hchk
      have hchk : chkS (fin true x' d') = want := hchk
      have hI : (1 : Int) < (dl : Int) := by have := HDI.out; omega
      go_upto_region 47 with fail
      generalize w11.setCell ⟨b7, 21, none⟩ (.slice none 0 0) = w12 at *
      have HR := Lib.hid R12
      have HP : Calls Try.prog 9 #[.agg #[.int .i64 cW, .int .i64 cH, .int .i64 k0, .int .i64 k1, .int .i64 k2, .int .i64 k3, .int .i64 k4, .int .i64 k5, .int .i64 k6, .int .i64 k7, .int .i64 k8, .int .i64 k9, .int .i64 k10, .int .i64 k11, .int .i64 k12, .int .i64 k13, .int .i64 k14, .int .i64 k15, .slice cva cvn cvc, .slice csa csn csc, .slice cpa cpn cpc, .slice none 0 0]] w12 fun e w' => ∃ v, e = .returned (.tuple #[v, .int .i64 want]) ∧ Ext w12 w' := by
        have := put11_any _ _ w12 R12 (hff true)
        rw [hchk] at this
        exact this.mono fun e w' ⟨v, h1, _, _, h2⟩ => ⟨v, h1, h2⟩
      have HC : ∀ u, Ext w12 u → Calls Try.prog 11 #[.agg #[.int .i64 cW, .int .i64 cH, .int .i64 k0, .int .i64 k1, .int .i64 k2, .int .i64 k3, .int .i64 k4, .int .i64 k5, .int .i64 k6, .int .i64 k7, .int .i64 k8, .int .i64 k9, .int .i64 k10, .int .i64 k11, .int .i64 k12, .int .i64 k13, .int .i64 k14, .int .i64 k15, .slice cva cvn cvc, .slice csa csn csc, .slice cpa cpn cpc, .slice none 0 0]] u fun e w' => e = .returned (.int .i64 want) ∧ Ext u w' := fun u hu => by
        have := checkS_any _ _ u (HR.out.ext hu) (hff true)
        rw [hchk] at this
        exact this
      have HPH := Lib.hid HP
      have HCH := Lib.hid HC
      have HFF := Lib.hid hff
      have HCK := Lib.hid hchk
      clear HP HC hff hchk R12 HR
      go_wp2_with (first
        | ((with_reducible refine wpList_load_blk (op := ⟨some 149, _, _, _, _, _⟩) ?_ 42 (.tmp 7) ?_ b7 ?_ (z := _) (T := 42) B12 Try.underlying42 ?_ ?_ ?_); rfl; rfl; rfl; rfl; kernel_rfl)
        | fail)
      refine HPH.out.mono ?_
      rintro e w11 ⟨v11, rfl, x11⟩
      have B11 := (B12).ext x11
      go_wp2_with (first
        | ((with_reducible refine wpList_load_blk (op := ⟨some 153, _, _, _, _, _⟩) ?_ 42 (.tmp 7) ?_ b7 ?_ (z := _) (T := 42) B11 Try.underlying42 ?_ ?_ ?_); rfl; rfl; rfl; rfl; kernel_rfl)
        | fail)
      refine (HCH.out _ x11).mono ?_
      rintro e w12 ⟨rfl, x12⟩
      have Ef := (E12.trans x11).trans x12
      go_wp2
      go_ret
      exact ⟨rfl, by first | exact Ef | (rw [hb0]; exact Ef)⟩
    · rw [decide_eq_false h5, decide_eq_true h1, decide_eq_false h0] at hchk
      have hchk : chkS (fin false x' d') = want := hchk
      have hI : (dl : Int) ≤ 1 := by have := HDI.out; omega
      go_upto_region 47 with fail
      have HR := Lib.hid R11
      have HP : Calls Try.prog 9 #[.agg #[.int .i64 cW, .int .i64 cH, .int .i64 k0, .int .i64 k1, .int .i64 k2, .int .i64 k3, .int .i64 k4, .int .i64 k5, .int .i64 k6, .int .i64 k7, .int .i64 k8, .int .i64 k9, .int .i64 k10, .int .i64 k11, .int .i64 k12, .int .i64 k13, .int .i64 k14, .int .i64 k15, .slice cva cvn cvc, .slice csa csn csc, .slice cpa cpn cpc, .slice ao8 dl c8]] w11 fun e w' => ∃ v, e = .returned (.tuple #[v, .int .i64 want]) ∧ Ext w11 w' := by
        have := put11_any _ _ w11 R11 (hff false)
        rw [hchk] at this
        exact this.mono fun e w' ⟨v, h1, _, _, h2⟩ => ⟨v, h1, h2⟩
      have HC : ∀ u, Ext w11 u → Calls Try.prog 11 #[.agg #[.int .i64 cW, .int .i64 cH, .int .i64 k0, .int .i64 k1, .int .i64 k2, .int .i64 k3, .int .i64 k4, .int .i64 k5, .int .i64 k6, .int .i64 k7, .int .i64 k8, .int .i64 k9, .int .i64 k10, .int .i64 k11, .int .i64 k12, .int .i64 k13, .int .i64 k14, .int .i64 k15, .slice cva cvn cvc, .slice csa csn csc, .slice cpa cpn cpc, .slice ao8 dl c8]] u fun e w' => e = .returned (.int .i64 want) ∧ Ext u w' := fun u hu => by
        have := checkS_any _ _ u (HR.out.ext hu) (hff false)
        rw [hchk] at this
        exact this
      have HPH := Lib.hid HP
      have HCH := Lib.hid HC
      have HFF := Lib.hid hff
      have HCK := Lib.hid hchk
      clear HP HC hff hchk R11 HR
      go_wp2_with (first
        | ((with_reducible refine wpList_load_blk (op := ⟨some 149, _, _, _, _, _⟩) ?_ 42 (.tmp 7) ?_ b7 ?_ (z := _) (T := 42) B11 Try.underlying42 ?_ ?_ ?_); rfl; rfl; rfl; rfl; kernel_rfl)
        | fail)
      refine HPH.out.mono ?_
      rintro e w11 ⟨v11, rfl, x11⟩
      have B11 := (B11).ext x11
      go_wp2_with (first
        | ((with_reducible refine wpList_load_blk (op := ⟨some 153, _, _, _, _, _⟩) ?_ 42 (.tmp 7) ?_ b7 ?_ (z := _) (T := 42) B11 Try.underlying42 ?_ ?_ ?_); rfl; rfl; rfl; rfl; kernel_rfl)
        | fail)
      refine (HCH.out _ x11).mono ?_
      rintro e w12 ⟨rfl, x12⟩
      have Ef := (E11.trans x11).trans x12
      go_wp2
      go_ret
      exact ⟨rfl, by first | exact Ef | (rw [hb0]; exact Ef)⟩
  · rw [decide_eq_false h5, decide_eq_false h1] at hchk
    have hchk : chkS (fin false x' d') = want := hchk
    go_upto_region 47 with fail
    have HR := Lib.hid R11
    have HP : Calls Try.prog 9 #[.agg #[.int .i64 cW, .int .i64 cH, .int .i64 k0, .int .i64 k1, .int .i64 k2, .int .i64 k3, .int .i64 k4, .int .i64 k5, .int .i64 k6, .int .i64 k7, .int .i64 k8, .int .i64 k9, .int .i64 k10, .int .i64 k11, .int .i64 k12, .int .i64 k13, .int .i64 k14, .int .i64 k15, .slice cva cvn cvc, .slice csa csn csc, .slice cpa cpn cpc, .slice ao8 dl c8]] w11 fun e w' => ∃ v, e = .returned (.tuple #[v, .int .i64 want]) ∧ Ext w11 w' := by
      have := put11_any _ _ w11 R11 (hff false)
      rw [hchk] at this
      exact this.mono fun e w' ⟨v, h1, _, _, h2⟩ => ⟨v, h1, h2⟩
    have HC : ∀ u, Ext w11 u → Calls Try.prog 11 #[.agg #[.int .i64 cW, .int .i64 cH, .int .i64 k0, .int .i64 k1, .int .i64 k2, .int .i64 k3, .int .i64 k4, .int .i64 k5, .int .i64 k6, .int .i64 k7, .int .i64 k8, .int .i64 k9, .int .i64 k10, .int .i64 k11, .int .i64 k12, .int .i64 k13, .int .i64 k14, .int .i64 k15, .slice cva cvn cvc, .slice csa csn csc, .slice cpa cpn cpc, .slice ao8 dl c8]] u fun e w' => e = .returned (.int .i64 want) ∧ Ext u w' := fun u hu => by
      have := checkS_any _ _ u (HR.out.ext hu) (hff false)
      rw [hchk] at this
      exact this
    have HPH := Lib.hid HP
    have HCH := Lib.hid HC
    have HFF := Lib.hid hff
    have HCK := Lib.hid hchk
    clear HP HC hff hchk R11 HR
    go_wp2_with (first
      | ((with_reducible refine wpList_load_blk (op := ⟨some 149, _, _, _, _, _⟩) ?_ 42 (.tmp 7) ?_ b7 ?_ (z := _) (T := 42) B11 Try.underlying42 ?_ ?_ ?_); rfl; rfl; rfl; rfl; kernel_rfl)
      | fail)
    refine HPH.out.mono ?_
    rintro e w11 ⟨v11, rfl, x11⟩
    have B11 := (B11).ext x11
    go_wp2_with (first
      | ((with_reducible refine wpList_load_blk (op := ⟨some 153, _, _, _, _, _⟩) ?_ 42 (.tmp 7) ?_ b7 ?_ (z := _) (T := 42) B11 Try.underlying42 ?_ ?_ ?_); rfl; rfl; rfl; rfl; kernel_rfl)
      | fail)
    refine (HCH.out _ x11).mono ?_
    rintro e w12 ⟨rfl, x12⟩
    have Ef := (E11.trans x11).trans x12
    go_wp2
    go_ret
    exact ⟨rfl, by first | exact Ef | (rw [hb0]; exact Ef)⟩
theorem scriptChecks_row {w : World} (s : SScr) (vs : List VSm) (sh pa : List SlV) (ds : List DSm) (z n : Int) (Q : SScrQ w s vs sh pa ds) (hz : 0 ≤ z ∧ z ≤ 255) (hn : -9223372036854775808 ≤ n ∧ n ≤ 9223372036854775807) : Calls Try.prog 4 #[.agg s.v, .int .u8 z, .int .i64 n] w fun e w' => e = .returned (.bool true) ∧ Ext w w' := scriptChecks_main w s vs sh pa ds Q z n hz hn
end Go.Proofs.Ytbbfmlehddfneaa

