/-
  DERIVED. THE WALK of the law's Bytes: what a script's bytes are meant to be (made by mkscrbytes.py).
-/
import Derived.Test.YtbbfmlehddfneaaGreatPkBytD
import Derived.Test.YtbbfmlehddfneaaGreatPkBuf
import Derived.Test.YtbbfmlehddfneaaGreatPkPut
namespace Go.Proofs.YtbbfmlehddfneaaGreat
open Go.RowKit
set_option linter.unusedVariables false
set_option maxRecDepth 100000 in
set_option maxHeartbeats 4000000 in
theorem bytes11_any (s : ScrM) (x : Scr) (w : World) (hR : ScrR w s x) (hf : x.fit) (hck : chkS x = 0) : Calls Tryz.prog 11 #[.agg s.l.toArray] w fun e w' => ∃ v, e = .returned v ∧ Own w' w.heap.size v (encS x) ∧ Ext w w' := by
  have hg := chkS_good hck
  obtain ⟨W, H, m, ⟨va, vn, vc⟩, ⟨sa, sn, sc⟩, ⟨pa, pn, pc⟩, ⟨da, dn, dc⟩⟩ := s
  obtain ⟨W', H', m', V, Sh, Pa, Ds⟩ := x
  obtain ⟨e1, e2, e3, QV, QS, QP, QD⟩ := hR
  simp only at e1 e2 e3 QV QS QP QD
  subst e1 e2 e3
  obtain ⟨m0, m1, m2, m3, m4, m5, m6, m7, m8, m9, m10, m11, m12, m13, m14, m15, rfl⟩ := sixteen m hf.m16
  obtain ⟨_, _, e, -, -⟩ := QV.slice
  cases e
  obtain ⟨_, _, e⟩ := QS.slice
  cases e
  obtain ⟨_, _, e⟩ := QP.slice
  cases e
  obtain ⟨dms, D1, D2, D3⟩ := QD
  obtain ⟨_, _, e, -, -⟩ := D1.slice
  cases e
  obtain ⟨fW, fH, f16, fm, fv, fvl, fs, fsl, fp, fpl, fd, fdl⟩ := hf
  obtain ⟨gW, gH, gv, gd, gs, gp, gsp, gpp, gdd⟩ := hg
  simp only at fW fH f16 fm fv fvl fs fsl fp fpl fd fdl gW gH gv gd gs gp gsp gpp gdd
  obtain ⟨WN, rfl⟩ : ∃ n : Nat, W = n := ⟨W.toNat, by omega⟩
  obtain ⟨HN, rfl⟩ : ∃ n : Nat, H = n := ⟨H.toNat, by omega⟩
  have HM := Lib.hid fm
  have HQV := Lib.hid QV
  have HQS := Lib.hid QS
  have HQP := Lib.hid QP
  have HD1 := Lib.hid D1
  have HD2 := Lib.hid D2
  have HD3 := Lib.hid D3
  have HFV := Lib.hid fv
  have HFS := Lib.hid (fun p hp => (fs p hp).2)
  have HFP := Lib.hid (fun p hp => (fp p hp).2)
  have HGS := Lib.hid gsp
  have HGP := Lib.hid gpp
  have HDD := Lib.hid (fun d hd => (⟨fd d hd, gdd d hd⟩ : d.fit ∧ chkD Sh.length Pa.length V.length d = 0))
  have hdl : dms.length ≤ 32 := by omega
  have hvl := flat_len (e := encV) (b := 80) (l := V) (fun y hy => encV_len (fv y hy))
  have hsl := progs_len gs HFS.out gsp Sh.length
  have hpl := progs_len gp HFP.out gpp Pa.length
  rw [List.take_length] at hsl hpl
  have hsl' : (seqE enc Sh).length ≤ 1394 := by
    have h1 : (leb Sh.length).length ≤ 10 := leb_len10 (by omega)
    rw [seqE, List.length_append]
    omega
  have hpl' : (seqE enc Pa).length ≤ 1394 := by
    have h1 : (leb Pa.length).length ≤ 10 := leb_len10 (by omega)
    rw [seqE, List.length_append]
    omega
  have k1 : (leb WN).length ≤ 10 := leb_len10 (by omega)
  have k2 : (leb HN).length ≤ 10 := leb_len10 (by omega)
  have k3 : (leb V.length).length ≤ 10 := leb_len10 (by omega)
  have k4 : (leb dms.length).length ≤ 10 := leb_len10 (by omega)
  have hlp := leb_pos WN
  clear fm QV QS QP D1 D2 D3 fv fs fp gsp gpp fd gdd f16 hck
  change Calls Tryz.prog 11 #[.agg #[.int .i64 (WN : Int), .int .i64 (HN : Int), .int .i64 m0, .int .i64 m1, .int .i64 m2, .int .i64 m3, .int .i64 m4, .int .i64 m5, .int .i64 m6, .int .i64 m7, .int .i64 m8, .int .i64 m9, .int .i64 m10, .int .i64 m11, .int .i64 m12, .int .i64 m13, .int .i64 m14, .int .i64 m15, .slice va V.length vc, .slice sa Sh.length sc, .slice pa Pa.length pc, .slice da dms.length dc]] w _
  have x1 := (Ext.refl w).alloc #[.int .i64 (WN : Int), .int .i64 (HN : Int), .int .i64 m0, .int .i64 m1, .int .i64 m2, .int .i64 m3, .int .i64 m4, .int .i64 m5, .int .i64 m6, .int .i64 m7, .int .i64 m8, .int .i64 m9, .int .i64 m10, .int .i64 m11, .int .i64 m12, .int .i64 m13, .int .i64 m14, .int .i64 m15, .slice va V.length vc, .slice sa Sh.length sc, .slice pa Pa.length pc, .slice da dms.length dc] 38
  have B1 := Blk.new w #[.int .i64 (WN : Int), .int .i64 (HN : Int), .int .i64 m0, .int .i64 m1, .int .i64 m2, .int .i64 m3, .int .i64 m4, .int .i64 m5, .int .i64 m6, .int .i64 m7, .int .i64 m8, .int .i64 m9, .int .i64 m10, .int .i64 m11, .int .i64 m12, .int .i64 m13, .int .i64 m14, .int .i64 m15, .slice va V.length vc, .slice sa Sh.length sc, .slice pa Pa.length pc, .slice da dms.length dc] 38
  have hnw : IntKind.u64.wrap (WN : Int) = (WN : Int) := by rw [IntKind.wrap_u64]; omega
  have hix := fun u => idxM (.int .i64 m0) (.int .i64 m1) (.int .i64 m2) (.int .i64 m3) (.int .i64 m4) (.int .i64 m5) (.int .i64 m6) (.int .i64 m7) (.int .i64 m8) (.int .i64 m9) (.int .i64 m10) (.int .i64 m11) (.int .i64 m12) (.int .i64 m13) (.int .i64 m14) (.int .i64 m15) u
  go_enter Tryz.func11, Tryz.ntmps11
  go_upto_region 1 with fail
  generalize w.alloc (.cells #[.int .i64 (WN : Int), .int .i64 (HN : Int), .int .i64 m0, .int .i64 m1, .int .i64 m2, .int .i64 m3, .int .i64 m4, .int .i64 m5, .int .i64 m6, .int .i64 m7, .int .i64 m8, .int .i64 m9, .int .i64 m10, .int .i64 m11, .int .i64 m12, .int .i64 m13, .int .i64 m14, .int .i64 m15, .slice va V.length vc, .slice sa Sh.length sc, .slice pa Pa.length pc, .slice da dms.length dc] 38) = w1 at *
  generalize hb0 : w.heap.size = b0 at *
  have hz1 : b0 < w1.heap.size := B1.lt
  have hcv := Lib.run_convert_bytes_const (P := Tryz.prog) w1 40 5 #[.int .u8 65, .int .u8 90] 2 2 Tryz.underlying40 Tryz.underlying5
  have A1 := az_arr w1
  have y1 : Ext w1 (w1.alloc (.cells #[.int .u8 65, .int .u8 90] 5 (2, 3))) := ⟨(Ext.refl w1).bel.alloc (Nat.le_refl _) _⟩
  simp only [List.size_toArray, List.length_cons, List.length_nil, Nat.zero_add, Nat.reduceAdd] at hcv
  have B1' := B1.ext y1
  have cB1 := B1'.cell
  go_wp2_with fail
  refine (rcount_any WN _ (by omega)).mono ?_
  rintro e w2 ⟨vc2, rfl, o2, x2⟩
  have E2 := (x1.trans y1).trans x2
  have B2 := B1'.ext x2
  have A2 := A1.ext x2
  obtain ⟨g2, c2, rfl, hc2⟩ := Own.some' o2 hlp
  have cA2 : ∀ (j : Nat) (y : Int), [65, 90][j]? = some y → w2.cell? ⟨w1.heap.size, 0 + j, none⟩ = some (.int .u8 y) := fun j y hj => by
    obtain ⟨g, off, e0, -, hc⟩ := A2.at j (by match j, hj with | 0, _ => simp | 1, _ => simp | j + 2, hj => simp at hj)
    cases e0
    have := hc j (by match j, hj with | 0, _ => simp | 1, _ => simp | j + 2, hj => simp at hj)
    rw [this]
    simp [List.getD, hj]
  have hz2 := x2.size
  have hzy := y1.size
  clear cB1 B1 B1' A1 A2 hcv o2
  go_wp2_with (first
    | (at_builtin; refine wpList_append_const rfl _ _ rfl b0 w1.heap.size 2 [65, 90] rfl cA2 0 g2 c2 (leb WN) rfl hc2 (by simp; omega) (by simp; omega) (by omega) ?_)
    | fail)
  intro v3 w3 o3 x3 hk3
  have E3 := E2.trans x3
  have B3 := B2.ext x3
  obtain ⟨ao3, c3, rfl, -, -⟩ := o3.slice
  clear B2 cA2 hc2 x2 x3
  go_upto_region 2 with fail
  have y4 : Ext w3 (w3.alloc (.cells #[.slice ao3 (65 :: 90 :: leb WN).length c3] 40)) := (Ext.refl w3).alloc _ _
  have P4 : Buf (w3.alloc (.cells #[.slice ao3 (65 :: 90 :: leb WN).length c3] 40)) b0 w3.heap.size (65 :: 90 :: leb WN) (w3.heap.size :: (Value.slice ao3 (65 :: 90 :: leb WN).length c3).ownBlock.toList) :=
    ⟨_, Blk.new w3 _ _, o3.ext y4, by have := B3.lt; omega, rfl, fun k hk => by have := (o3.lt k hk).2; omega⟩
  have B4 := B3.ext y4
  have E4 := E3.trans y4
  have hn4 : b0 ∉ w3.heap.size :: (Value.slice ao3 (65 :: 90 :: leb WN).length c3).ownBlock.toList := fun h => by
    rcases List.mem_cons.1 h with h | h
    · have := B3.lt; omega
    · rw [hk3] at h; simp at h; have := E2.size; omega
  clear o3 hk3 B3 E3 y4 hzy hz2 E2 x1 y1
  generalize hF4 : (w3.heap.size :: (Value.slice ao3 (65 :: 90 :: leb WN).length c3).ownBlock.toList) = F4 at *
  generalize w3.alloc (.cells #[.slice ao3 (65 :: 90 :: leb WN).length c3] 40) = w4 at *
  clear hF4
  generalize w3.heap.size = p at *
  have hl4 : (65 :: 90 :: leb WN : List Int).length ≤ 12 := by simp; omega
  refine byt_r2 _ _ _ _ _ _ _ _ _ _ _ _ _ _ _ _ _ _ _ _ _ _ _ _ _ _ _ _ _ _ _ _ _ _ _ _ _ _ _ _ _ _ _ _ _ _ _ _ _ _ _ _ _ _ _ _ _ _ _ _ _ _ _ _ _ _ _ _ _ _ _ _ _ _ _ _ _ _ _ _ _ _ _ _ _ _ _ _ _ _ _ _ _ _ _ _ _ _ _ _ _ _ _ _ _ _ _ _ _ _ _ _ _ _ _ _ _ _ _ _ _ _ _ _ _ _ _ _ _ _ _ _ _ _ _ _ _ _ _ _ _ _ _ _ _ _ _ _ _ _ _ _ _ _ _ _ _ _ _ _ _ _ _ _ _ _ _ _ _ _ _ _ _ _ _ _ _ _ _ _ _ _ _ _ _ _ _ _ b0 _ _ _ _ _ _ _ _ _ _ _ _ _ _ _ _ _ _ _ _ _ HN _ _ _ _ _ P4 (by omega) (by omega) B4 hn4 ?_
  intro d28 d29 d30 d31 d32 d33 F5 w5 P5 s5
  have E5 := s5.ext E4 (fun b hb => by have := (P4.lt b hb).1; omega)
  have B5 := B4.calm s5.1 hn4
  have hn5 : b0 ∉ F5 := fun h => by rcases s5.2 _ h with h | h; exact hn4 h; (have := B4.lt; omega)
  clear P4 E4 B4 s5 hn4
  have cB5 := B5.cell
  generalize hpre : (65 :: 90 :: leb WN ++ leb HN : List Int) = pre at *
  have hl5 : pre.length ≤ 22 := by rw [← hpre]; simp; omega
  have HPR := Lib.hid hpre
  clear hpre
  have R5 := B5.mid 2 [.int .i64 m0, .int .i64 m1, .int .i64 m2, .int .i64 m3, .int .i64 m4, .int .i64 m5, .int .i64 m6, .int .i64 m7, .int .i64 m8, .int .i64 m9, .int .i64 m10, .int .i64 m11, .int .i64 m12, .int .i64 m13, .int .i64 m14, .int .i64 m15] rfl
  go_wp2_with (first
    | refine wpList_load_mid rfl 33 (.tmp 36) rfl b0 2 rfl [.int .i64 m0, .int .i64 m1, .int .i64 m2, .int .i64 m3, .int .i64 m4, .int .i64 m5, .int .i64 m6, .int .i64 m7, .int .i64 m8, .int .i64 m9, .int .i64 m10, .int .i64 m11, .int .i64 m12, .int .i64 m13, .int .i64 m14, .int .i64 m15] _ R5 Tryz.underlying33 rfl (by kernel_rfl) ?_
    | fail)
  clear R5 cB5
  refine wp_loop_rounds 5 ?_
  rw [rounds_succ]
  have X5 := Ext.refl w5
  have hsz5 := B5.lt
  go_wp2_with fail
  refine (bnums_any m0 m1 m2 m3 (HM.out _ (by simp)) (HM.out _ (by simp)) (HM.out _ (by simp)) (HM.out _ (by simp)) _ _ _ _ _ (P5.ext (by repeat (first | exact X5 | (refine Ext.setCell ?_ (by simp only; omega) _) | (refine Ext.setRow ?_ (by omega) _) | apply Ext.alloc))) (by omega)).mono ?_
  rintro e w6 ⟨rfl, F6, P6, s6'⟩
  have s6 := (Step.of_ext (F := F5) (by repeat (first | exact X5 | (refine Ext.setCell ?_ (by simp only; omega) _) | (refine Ext.setRow ?_ (by omega) _) | apply Ext.alloc))).trans s6'
  have hv6 : ([m0, m1, m2, m3].flatMap encZ).length ≤ 40 := by
    have := flat_len (e := encZ) (b := 10) (l := [m0, m1, m2, m3]) (fun y hy => encZ_len (HM.out y (by simp at hy; rcases hy with rfl | rfl | rfl | rfl <;> simp)))
    simpa using this
  have E6 := s6.ext E5 (fun b hb => by have := (P5.lt b hb).1; omega)
  have B6 := B5.calm s6.1 hn5
  have hn6 : b0 ∉ F6 := fun h => by rcases s6.2 _ h with h | h; exact hn5 h; (have := B5.lt; omega)
  clear P5 E5 B5 s6 hn5
  have cB6 := B6.cell
  clear X5 hsz5 s6' cB6
  go_wp2
  rw [rounds_succ]
  have X6 := Ext.refl w6
  have hsz6 := B6.lt
  go_wp2_with fail
  refine (bnums_any m4 m5 m6 m7 (HM.out _ (by simp)) (HM.out _ (by simp)) (HM.out _ (by simp)) (HM.out _ (by simp)) _ _ _ _ _ (P6.ext (by repeat (first | exact X6 | (refine Ext.setCell ?_ (by simp only; omega) _) | (refine Ext.setRow ?_ (by omega) _) | apply Ext.alloc))) (by simp only [List.length_append]; omega)).mono ?_
  rintro e w7 ⟨rfl, F7, P7, s7'⟩
  have s7 := (Step.of_ext (F := F6) (by repeat (first | exact X6 | (refine Ext.setCell ?_ (by simp only; omega) _) | (refine Ext.setRow ?_ (by omega) _) | apply Ext.alloc))).trans s7'
  have hv7 : ([m4, m5, m6, m7].flatMap encZ).length ≤ 40 := by
    have := flat_len (e := encZ) (b := 10) (l := [m4, m5, m6, m7]) (fun y hy => encZ_len (HM.out y (by simp at hy; rcases hy with rfl | rfl | rfl | rfl <;> simp)))
    simpa using this
  have E7 := s7.ext E6 (fun b hb => by have := (P6.lt b hb).1; omega)
  have B7 := B6.calm s7.1 hn6
  have hn7 : b0 ∉ F7 := fun h => by rcases s7.2 _ h with h | h; exact hn6 h; (have := B6.lt; omega)
  clear P6 E6 B6 s7 hn6
  have cB7 := B7.cell
  clear X6 hsz6 s7' cB7
  go_wp2
  rw [rounds_succ]
  have X7 := Ext.refl w7
  have hsz7 := B7.lt
  go_wp2_with fail
  refine (bnums_any m8 m9 m10 m11 (HM.out _ (by simp)) (HM.out _ (by simp)) (HM.out _ (by simp)) (HM.out _ (by simp)) _ _ _ _ _ (P7.ext (by repeat (first | exact X7 | (refine Ext.setCell ?_ (by simp only; omega) _) | (refine Ext.setRow ?_ (by omega) _) | apply Ext.alloc))) (by simp only [List.length_append]; omega)).mono ?_
  rintro e w8 ⟨rfl, F8, P8, s8'⟩
  have s8 := (Step.of_ext (F := F7) (by repeat (first | exact X7 | (refine Ext.setCell ?_ (by simp only; omega) _) | (refine Ext.setRow ?_ (by omega) _) | apply Ext.alloc))).trans s8'
  have hv8 : ([m8, m9, m10, m11].flatMap encZ).length ≤ 40 := by
    have := flat_len (e := encZ) (b := 10) (l := [m8, m9, m10, m11]) (fun y hy => encZ_len (HM.out y (by simp at hy; rcases hy with rfl | rfl | rfl | rfl <;> simp)))
    simpa using this
  have E8 := s8.ext E7 (fun b hb => by have := (P7.lt b hb).1; omega)
  have B8 := B7.calm s8.1 hn7
  have hn8 : b0 ∉ F8 := fun h => by rcases s8.2 _ h with h | h; exact hn7 h; (have := B7.lt; omega)
  clear P7 E7 B7 s8 hn7
  have cB8 := B8.cell
  clear X7 hsz7 s8' cB8
  go_wp2
  rw [rounds_succ]
  have X8 := Ext.refl w8
  have hsz8 := B8.lt
  go_wp2_with fail
  refine (bnums_any m12 m13 m14 m15 (HM.out _ (by simp)) (HM.out _ (by simp)) (HM.out _ (by simp)) (HM.out _ (by simp)) _ _ _ _ _ (P8.ext (by repeat (first | exact X8 | (refine Ext.setCell ?_ (by simp only; omega) _) | (refine Ext.setRow ?_ (by omega) _) | apply Ext.alloc))) (by simp only [List.length_append]; omega)).mono ?_
  rintro e w9 ⟨rfl, F9, P9, s9'⟩
  have s9 := (Step.of_ext (F := F8) (by repeat (first | exact X8 | (refine Ext.setCell ?_ (by simp only; omega) _) | (refine Ext.setRow ?_ (by omega) _) | apply Ext.alloc))).trans s9'
  have hv9 : ([m12, m13, m14, m15].flatMap encZ).length ≤ 40 := by
    have := flat_len (e := encZ) (b := 10) (l := [m12, m13, m14, m15]) (fun y hy => encZ_len (HM.out y (by simp at hy; rcases hy with rfl | rfl | rfl | rfl <;> simp)))
    simpa using this
  have E9 := s9.ext E8 (fun b hb => by have := (P8.lt b hb).1; omega)
  have B9 := B8.calm s9.1 hn8
  have hn9 : b0 ∉ F9 := fun h => by rcases s9.2 _ h with h | h; exact hn8 h; (have := B8.lt; omega)
  clear P8 E8 B8 s9 hn8
  have cB9 := B9.cell
  clear X8 hsz8 s9' cB9
  go_wp2
  rw [rounds_succ]
  generalize hpre2 : (pre ++ [m0, m1, m2, m3].flatMap encZ ++ [m4, m5, m6, m7].flatMap encZ ++ [m8, m9, m10, m11].flatMap encZ ++ [m12, m13, m14, m15].flatMap encZ : List Int) = pre2 at *
  have hl9 : pre2.length ≤ 182 := by rw [← hpre2]; simp only [List.length_append]; omega
  have HPR2 := Lib.hid hpre2
  clear hpre2
  have cB9 := B9.cell
  go_wp2_with fail
  refine (bcount_any V.length (by omega) _ _ _ _ _ P9 (by omega)).mono ?_
  rintro e w10 ⟨rfl, F10, P10, s10⟩
  have E10 := s10.ext E9 (fun b hb => by have := (P9.lt b hb).1; omega)
  have B10 := B9.calm s10.1 hn9
  have hn10 : b0 ∉ F10 := fun h => by rcases s10.2 _ h with h | h; exact hn9 h; (have := B9.lt; omega)
  clear P9 E9 B9 s10 hn9
  have cB10 := B10.cell
  go_upto_block 2 with fail
  refine byt_b2 _ _ _ _ _ _ _ _ _ _ _ _ _ _ _ _ _ _ _ _ _ _ _ _ _ _ _ _ _ _ _ _ _ _ _ _ _ _ _ _ _ _ _ _ _ _ _ _ _ _ _ _ _ _ _ _ _ _ _ _ _ _ _ _ _ _ _ _ _ _ _ _ _ _ _ _ _ _ _ _ _ _ _ _ _ _ _ _ _ _ _ _ _ _ _ _ _ _ _ _ _ _ _ _ _ _ _ _ _ _ _ _ _ _ _ _ _ _ _ _ _ _ _ _ _ _ _ _ _ _ _ _ _ _ _ _ _ _ _ _ _ _ _ _ _ _ _ _ _ _ _ _ _ _ _ _ _ _ _ _ _ _ _ _ _ _ _ _ _ _ _ _ _ _ _ _ _ _ _ _ _ _ _ _ _ w va vc V _ _ _ _ _ P10 (by simp only [List.length_append]; omega) (by omega) E10 HQV.out HFV.out gv ?_
  intro d9 d53 d54 d55 d56 d57 d58 d59 d60 d61 d62 d63 d64 d65 F11 w11 P11 s11
  have E11 := s11.ext E10 (fun b hb => by have := (P10.lt b hb).1; omega)
  have B11 := B10.calm s11.1 hn10
  have hn11 : b0 ∉ F11 := fun h => by rcases s11.2 _ h with h | h; exact hn10 h; (have := B10.lt; omega)
  clear P10 E10 B10 s11 hn10
  have cB11 := B11.cell
  generalize hpre3 : (pre2 ++ leb V.length ++ V.flatMap encV : List Int) = pre3 at *
  have hl11 : pre3.length ≤ 6000 := by rw [← hpre3]; simp only [List.length_append]; omega
  have HPR3 := Lib.hid hpre3
  clear hpre3
  go_upto_block 4 with fail
  have y12 : Ext w11 (w11.alloc (.cells #[.slice sa Sh.length sc, .slice pa Pa.length pc] 35)) := (Ext.refl w11).alloc _ _
  have P12 := P11.ext y12
  have B12 := B11.ext y12
  have E12 := E11.trans y12
  have G12 := Blk.new w11 #[.slice sa Sh.length sc, .slice pa Pa.length pc] 35
  have hg12 : w11.heap.size ∉ F11 := fun h => by have := (P11.lt _ h).2; omega
  clear P11 B11 E11 y12 cB11
  generalize w11.alloc (.cells #[.slice sa Sh.length sc, .slice pa Pa.length pc] 35) = w12 at *
  generalize w11.heap.size = g7 at *
  refine byt_b4 _ _ _ _ _ _ _ _ _ _ _ _ _ _ _ _ _ _ _ _ _ _ _ _ _ _ _ _ _ _ _ _ _ _ _ _ _ _ _ _ _ _ _ _ _ _ _ _ _ _ _ _ _ _ _ _ _ _ _ _ _ _ _ _ _ _ _ _ _ _ _ _ _ _ _ _ _ _ _ _ _ _ _ _ _ _ _ _ _ _ _ _ _ _ _ _ _ _ _ _ _ _ _ _ _ _ _ _ _ _ _ _ _ _ _ _ _ _ _ _ _ _ _ _ _ _ _ _ _ _ _ _ _ _ _ _ _ _ _ _ _ _ _ _ _ _ _ _ _ _ _ _ _ _ _ _ _ _ _ _ _ _ _ _ _ _ _ _ _ _ _ _ _ _ _ _ _ _ _ _ _ _ _ _ _ w g7 sa pa sc pc Sh Pa _ _ _ _ _ P12 (by omega) (by omega) E12 G12 hg12 HQS.out HQP.out HFS.out HFP.out HGS.out HGP.out gs gp ?_
  intro d11 d13 d15 d72 d73 d74 d75 d76 d77 d78 d79 d80 d81 d82 d83 d84 d85 d86 d87 d88 d89 d90 d91 d92 d93 d94 d95 d96 d97 d98 d99 d100 d101 d102 d103 d104 d105 d106 d107 d108 d109 d110 d111 d112 d113 d114 F13 w13 P13 s13
  have E13 := s13.ext E12 (fun b hb => by have := (P12.lt b hb).1; omega)
  have B13 := B12.calm s13.1 hn11
  have hn13 : b0 ∉ F13 := fun h => by rcases s13.2 _ h with h | h; exact hn11 h; (have := B12.lt; omega)
  clear P12 E12 B12 s13 hn11
  have cB13 := B13.cell
  have cB13 := B13.cell
  go_wp2_with fail
  refine (bcount_any dms.length (by omega) _ _ _ _ _ P13 (by simp only [List.length_append]; omega)).mono ?_
  rintro e w14 ⟨rfl, F14, P14, s14⟩
  have E14 := s14.ext E13 (fun b hb => by have := (P13.lt b hb).1; omega)
  have B14 := B13.calm s14.1 hn13
  have hn14 : b0 ∉ F14 := fun h => by rcases s14.2 _ h with h | h; exact hn13 h; (have := B13.lt; omega)
  clear P13 E13 B13 s14 hn13
  have cB14 := B14.cell
  go_upto_block 10 with fail
  refine byt_b10 _ _ _ _ _ _ _ _ _ _ _ _ _ _ _ _ _ _ _ _ _ _ _ _ _ _ _ _ _ _ _ _ _ _ _ _ _ _ _ _ _ _ _ _ _ _ _ _ _ _ _ _ _ _ _ _ _ _ _ _ _ _ _ _ _ _ _ _ _ _ _ _ _ _ _ _ _ _ _ _ _ _ _ _ _ _ _ _ _ _ _ _ _ _ _ _ _ _ _ _ _ _ _ _ _ _ _ _ _ _ _ _ _ _ _ _ _ _ _ _ _ _ _ _ _ _ _ _ _ _ _ _ _ _ _ _ _ _ _ _ _ _ _ _ _ _ _ _ _ _ _ _ _ _ _ _ _ _ _ _ _ _ _ _ _ _ _ _ _ _ _ _ _ _ _ _ _ _ _ _ _ _ _ _ _ w da dc dms Ds Sh.length Pa.length V.length _ _ _ _ _ P14 (by simp only [List.length_append]; omega) (by omega) E14 HD1.out HD2.out HD3.out HDD.out (by omega) (by omega) (by omega) hdl ?_
  intro d17 d18 d20 d123 d124 d125 d126 d127 d128 d129 d130 d131 d132 d133 d134 d135 d136 d137 d138 d139 d140 d141 d142 d143 d144 d145 d146 d147 d148 d149 d150 d151 d152 d153 d154 d155 d156 d157 d158 d159 d160 d161 d162 d163 d164 d165 d166 d167 d168 d169 d170 d171 d172 d173 d174 d175 d176 d177 d178 d179 d180 d181 d182 d183 d184 d185 d186 d187 d188 F15 w15 P15 s15
  have E15 := s15.ext E14 (fun b hb => by have := (P14.lt b hb).1; omega)
  have B15 := B14.calm s15.1 hn14
  have hn15 : b0 ∉ F15 := fun h => by rcases s15.2 _ h with h | h; exact hn14 h; (have := B14.lt; omega)
  clear P14 E14 B14 s15 hn14
  have cB15 := B15.cell
  have hsame : pre3 ++ (seqE enc Sh ++ seqE enc Pa) ++ leb dms.length ++ Ds.flatMap encD = encS ⟨(WN : Int), (HN : Int), [m0, m1, m2, m3, m4, m5, m6, m7, m8, m9, m10, m11, m12, m13, m14, m15], V, Sh, Pa, Ds⟩ := by
    rw [← HPR3.out, ← HPR2.out, ← HPR.out, HD2.out]
    simp [encS, seqE, encN]
  rw [hsame] at P15
  clear hsame
  obtain ⟨vv, Bv, ov, -, -, -⟩ := P15
  generalize hbs : encS ⟨(WN : Int), (HN : Int), [m0, m1, m2, m3, m4, m5, m6, m7, m8, m9, m10, m11, m12, m13, m14, m15], V, Sh, Pa, Ds⟩ = bs at *
  have HBS := Lib.hid hbs
  clear hbs
  obtain ⟨aov, cv, rfl, -, -⟩ := ov.slice
  have cV := Bv.cell
  clear cB15 B15 hn15 Bv
  go_wp2
  go_ret
  exact ⟨_, rfl, by rw [hb0, HBS.out]; exact ov, E15⟩
end Go.Proofs.YtbbfmlehddfneaaGreat

