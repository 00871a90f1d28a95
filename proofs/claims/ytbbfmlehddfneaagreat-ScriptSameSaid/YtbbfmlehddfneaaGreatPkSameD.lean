/-
  DERIVED. Layer 11 (script): Same (made by mkscrsame.py).
-/
import Derived.Test.YtbbfmlehddfneaaGreatPkSameC
namespace Go.Proofs.YtbbfmlehddfneaaGreat
open Go.RowKit
set_option linter.unusedVariables false
/-- whether two scripts are the same -/
def sameS (x y : Scr) : Bool := decide (x.W = y.W) && (decide (x.H = y.H) && (decide (x.m = y.m) && (decide (x.verts = y.verts) && (decide (x.sh = y.sh) && (decide (x.pa = y.pa) && decide (x.draws.map nrm = y.draws.map nrm))))))
set_option maxRecDepth 100000 in
set_option maxHeartbeats 4000000 in
theorem same_any (s t : ScrM) (x y : Scr) (w : World) (hR : ScrR w s x) (hR2 : ScrR w t y) (hf : x.fit) (hf2 : y.fit) : Calls Tryz.prog 12 #[.agg s.l.toArray, .agg t.l.toArray] w fun e w' => e = .returned (.bool (sameS x y)) ∧ Ext w w' := by
  obtain ⟨a_W, a_H, m, ⟨a_va, vn, a_vc⟩, ⟨a_sa, sn, a_sc⟩, ⟨a_pa, pn, a_pc⟩, ⟨a_da, dn, a_dc⟩⟩ := s
  obtain ⟨W', H', m', a_V, a_S, a_P, a_D⟩ := x
  obtain ⟨e1, e2, e3, QV, QS, QP, QD⟩ := hR
  simp only at e1 e2 e3 QV QS QP QD
  subst e1 e2 e3
  obtain ⟨a_m0, a_m1, a_m2, a_m3, a_m4, a_m5, a_m6, a_m7, a_m8, a_m9, a_m10, a_m11, a_m12, a_m13, a_m14, a_m15, rfl⟩ := sixteen m hf.m16
  obtain ⟨b_W, b_H, m, ⟨b_va, vn2, b_vc⟩, ⟨b_sa, sn2, b_sc⟩, ⟨b_pa, pn2, b_pc⟩, ⟨b_da, dn2, b_dc⟩⟩ := t
  obtain ⟨W', H', m', b_V, b_S, b_P, b_D⟩ := y
  obtain ⟨e1, e2, e3, UV, US, UP, UD⟩ := hR2
  simp only at e1 e2 e3 UV US UP UD
  subst e1 e2 e3
  obtain ⟨b_m0, b_m1, b_m2, b_m3, b_m4, b_m5, b_m6, b_m7, b_m8, b_m9, b_m10, b_m11, b_m12, b_m13, b_m14, b_m15, rfl⟩ := sixteen m hf2.m16
  obtain ⟨_, _, e, -, -⟩ := QV.slice
  cases e
  obtain ⟨_, _, e⟩ := QS.slice
  cases e
  obtain ⟨_, _, e⟩ := QP.slice
  cases e
  obtain ⟨_, _, e⟩ := QD.slice
  cases e
  obtain ⟨_, _, e, -, -⟩ := UV.slice
  cases e
  obtain ⟨_, _, e⟩ := US.slice
  cases e
  obtain ⟨_, _, e⟩ := UP.slice
  cases e
  obtain ⟨_, _, e⟩ := UD.slice
  cases e
  have hV := fun u (hu : Ext w u) => eqVerts_any u _ _ a_V b_V (QV.ext hu) (UV.ext hu) hf.vl hf2.vl
  have hS := fun u (hu : Ext w u) => eqProgs_any u _ _ a_S b_S (QS.ext hu) (US.ext hu) (fun p hp => (hf.s p hp).1) (fun p hp => (hf2.s p hp).1) hf.sl hf2.sl
  have hP := fun u (hu : Ext w u) => eqProgs_any u _ _ a_P b_P (QP.ext hu) (UP.ext hu) (fun p hp => (hf.p p hp).1) (fun p hp => (hf2.p p hp).1) hf.pl hf2.pl
  have hD := fun u (hu : Ext w u) => eqDraws_any u _ _ a_D b_D (QD.ext hu) (UD.ext hu) (fun d hd => (hf.d d hd).most) (fun d hd => (hf2.d d hd).most) hf.dl hf2.dl
  change Calls Tryz.prog 12 #[.agg #[.int .i64 a_W, .int .i64 a_H, .int .i64 a_m0, .int .i64 a_m1, .int .i64 a_m2, .int .i64 a_m3, .int .i64 a_m4, .int .i64 a_m5, .int .i64 a_m6, .int .i64 a_m7, .int .i64 a_m8, .int .i64 a_m9, .int .i64 a_m10, .int .i64 a_m11, .int .i64 a_m12, .int .i64 a_m13, .int .i64 a_m14, .int .i64 a_m15, .slice a_va a_V.length a_vc, .slice a_sa a_S.length a_sc, .slice a_pa a_P.length a_pc, .slice a_da a_D.length a_dc], .agg #[.int .i64 b_W, .int .i64 b_H, .int .i64 b_m0, .int .i64 b_m1, .int .i64 b_m2, .int .i64 b_m3, .int .i64 b_m4, .int .i64 b_m5, .int .i64 b_m6, .int .i64 b_m7, .int .i64 b_m8, .int .i64 b_m9, .int .i64 b_m10, .int .i64 b_m11, .int .i64 b_m12, .int .i64 b_m13, .int .i64 b_m14, .int .i64 b_m15, .slice b_va b_V.length b_vc, .slice b_sa b_S.length b_sc, .slice b_pa b_P.length b_pc, .slice b_da b_D.length b_dc]] w _
  have key : sameS (⟨a_W, a_H, [a_m0, a_m1, a_m2, a_m3, a_m4, a_m5, a_m6, a_m7, a_m8, a_m9, a_m10, a_m11, a_m12, a_m13, a_m14, a_m15], a_V, a_S, a_P, a_D⟩ : Scr) (⟨b_W, b_H, [b_m0, b_m1, b_m2, b_m3, b_m4, b_m5, b_m6, b_m7, b_m8, b_m9, b_m10, b_m11, b_m12, b_m13, b_m14, b_m15], b_V, b_S, b_P, b_D⟩ : Scr) = (decide (a_W = b_W) && (decide (a_H = b_H) && (decide ([a_m0, a_m1, a_m2, a_m3, a_m4, a_m5, a_m6, a_m7, a_m8, a_m9, a_m10, a_m11, a_m12, a_m13, a_m14, a_m15] = [b_m0, b_m1, b_m2, b_m3, b_m4, b_m5, b_m6, b_m7, b_m8, b_m9, b_m10, b_m11, b_m12, b_m13, b_m14, b_m15]) && (decide (a_V = b_V) && (decide (a_S = b_S) && (decide (a_P = b_P) && decide (a_D.map nrm = b_D.map nrm))))))) := rfl
  have HK := Lib.hid key
  clear key hf hf2 QV QS QP QD UV US UP UD
  have hM := fun u => eqM16 a_m0 a_m1 a_m2 a_m3 a_m4 a_m5 a_m6 a_m7 a_m8 a_m9 a_m10 a_m11 a_m12 a_m13 a_m14 a_m15 b_m0 b_m1 b_m2 b_m3 b_m4 b_m5 b_m6 b_m7 b_m8 b_m9 b_m10 b_m11 b_m12 b_m13 b_m14 b_m15 u
  obtain ⟨c3, h3⟩ : ∃ c, decide ([a_m0, a_m1, a_m2, a_m3, a_m4, a_m5, a_m6, a_m7, a_m8, a_m9, a_m10, a_m11, a_m12, a_m13, a_m14, a_m15] = [b_m0, b_m1, b_m2, b_m3, b_m4, b_m5, b_m6, b_m7, b_m8, b_m9, b_m10, b_m11, b_m12, b_m13, b_m14, b_m15]) = c := ⟨_, rfl⟩
  obtain ⟨c4, h4⟩ : ∃ c, decide (a_V = b_V) = c := ⟨_, rfl⟩
  obtain ⟨c5, h5⟩ : ∃ c, decide (a_S = b_S) = c := ⟨_, rfl⟩
  obtain ⟨c6, h6⟩ : ∃ c, decide (a_P = b_P) = c := ⟨_, rfl⟩
  obtain ⟨c7, h7⟩ : ∃ c, decide (a_D.map nrm = b_D.map nrm) = c := ⟨_, rfl⟩
  rw [h3] at hM
  rw [h4] at hV
  rw [h5] at hS
  rw [h6] at hP
  rw [h7] at hD
  have HH : Hid (sameS (⟨a_W, a_H, [a_m0, a_m1, a_m2, a_m3, a_m4, a_m5, a_m6, a_m7, a_m8, a_m9, a_m10, a_m11, a_m12, a_m13, a_m14, a_m15], a_V, a_S, a_P, a_D⟩ : Scr) (⟨b_W, b_H, [b_m0, b_m1, b_m2, b_m3, b_m4, b_m5, b_m6, b_m7, b_m8, b_m9, b_m10, b_m11, b_m12, b_m13, b_m14, b_m15], b_V, b_S, b_P, b_D⟩ : Scr) = (decide (a_W = b_W) && (decide (a_H = b_H) && (c3 && (c4 && (c5 && (c6 && c7))))))) := Lib.hid (by rw [HK.out, h3, h4, h5, h6, h7])
  clear HK h3 h4 h5 h6 h7
  have hx1 := ((Ext.refl w).alloc #[.int .i64 a_W, .int .i64 a_H, .int .i64 a_m0, .int .i64 a_m1, .int .i64 a_m2, .int .i64 a_m3, .int .i64 a_m4, .int .i64 a_m5, .int .i64 a_m6, .int .i64 a_m7, .int .i64 a_m8, .int .i64 a_m9, .int .i64 a_m10, .int .i64 a_m11, .int .i64 a_m12, .int .i64 a_m13, .int .i64 a_m14, .int .i64 a_m15, .slice a_va a_V.length a_vc, .slice a_sa a_S.length a_sc, .slice a_pa a_P.length a_pc, .slice a_da a_D.length a_dc] 38).alloc #[.int .i64 b_W, .int .i64 b_H, .int .i64 b_m0, .int .i64 b_m1, .int .i64 b_m2, .int .i64 b_m3, .int .i64 b_m4, .int .i64 b_m5, .int .i64 b_m6, .int .i64 b_m7, .int .i64 b_m8, .int .i64 b_m9, .int .i64 b_m10, .int .i64 b_m11, .int .i64 b_m12, .int .i64 b_m13, .int .i64 b_m14, .int .i64 b_m15, .slice b_va b_V.length b_vc, .slice b_sa b_S.length b_sc, .slice b_pa b_P.length b_pc, .slice b_da b_D.length b_dc] 38
  have B1 := (Blk.new w #[.int .i64 a_W, .int .i64 a_H, .int .i64 a_m0, .int .i64 a_m1, .int .i64 a_m2, .int .i64 a_m3, .int .i64 a_m4, .int .i64 a_m5, .int .i64 a_m6, .int .i64 a_m7, .int .i64 a_m8, .int .i64 a_m9, .int .i64 a_m10, .int .i64 a_m11, .int .i64 a_m12, .int .i64 a_m13, .int .i64 a_m14, .int .i64 a_m15, .slice a_va a_V.length a_vc, .slice a_sa a_S.length a_sc, .slice a_pa a_P.length a_pc, .slice a_da a_D.length a_dc] 38).alloc (.cells #[.int .i64 b_W, .int .i64 b_H, .int .i64 b_m0, .int .i64 b_m1, .int .i64 b_m2, .int .i64 b_m3, .int .i64 b_m4, .int .i64 b_m5, .int .i64 b_m6, .int .i64 b_m7, .int .i64 b_m8, .int .i64 b_m9, .int .i64 b_m10, .int .i64 b_m11, .int .i64 b_m12, .int .i64 b_m13, .int .i64 b_m14, .int .i64 b_m15, .slice b_va b_V.length b_vc, .slice b_sa b_S.length b_sc, .slice b_pa b_P.length b_pc, .slice b_da b_D.length b_dc] 38)
  have B2 := Blk.new' (w := w.alloc (.cells #[.int .i64 a_W, .int .i64 a_H, .int .i64 a_m0, .int .i64 a_m1, .int .i64 a_m2, .int .i64 a_m3, .int .i64 a_m4, .int .i64 a_m5, .int .i64 a_m6, .int .i64 a_m7, .int .i64 a_m8, .int .i64 a_m9, .int .i64 a_m10, .int .i64 a_m11, .int .i64 a_m12, .int .i64 a_m13, .int .i64 a_m14, .int .i64 a_m15, .slice a_va a_V.length a_vc, .slice a_sa a_S.length a_sc, .slice a_pa a_P.length a_pc, .slice a_da a_D.length a_dc] 38)) (b := w.heap.size + 1) (by simp) #[.int .i64 b_W, .int .i64 b_H, .int .i64 b_m0, .int .i64 b_m1, .int .i64 b_m2, .int .i64 b_m3, .int .i64 b_m4, .int .i64 b_m5, .int .i64 b_m6, .int .i64 b_m7, .int .i64 b_m8, .int .i64 b_m9, .int .i64 b_m10, .int .i64 b_m11, .int .i64 b_m12, .int .i64 b_m13, .int .i64 b_m14, .int .i64 b_m15, .slice b_va b_V.length b_vc, .slice b_sa b_S.length b_sc, .slice b_pa b_P.length b_pc, .slice b_da b_D.length b_dc] 38
  go_enter Tryz.func12, Tryz.ntmps12
  go_upto_region 1 with fail
  generalize (w.alloc (.cells #[.int .i64 a_W, .int .i64 a_H, .int .i64 a_m0, .int .i64 a_m1, .int .i64 a_m2, .int .i64 a_m3, .int .i64 a_m4, .int .i64 a_m5, .int .i64 a_m6, .int .i64 a_m7, .int .i64 a_m8, .int .i64 a_m9, .int .i64 a_m10, .int .i64 a_m11, .int .i64 a_m12, .int .i64 a_m13, .int .i64 a_m14, .int .i64 a_m15, .slice a_va a_V.length a_vc, .slice a_sa a_S.length a_sc, .slice a_pa a_P.length a_pc, .slice a_da a_D.length a_dc] 38)).alloc (.cells #[.int .i64 b_W, .int .i64 b_H, .int .i64 b_m0, .int .i64 b_m1, .int .i64 b_m2, .int .i64 b_m3, .int .i64 b_m4, .int .i64 b_m5, .int .i64 b_m6, .int .i64 b_m7, .int .i64 b_m8, .int .i64 b_m9, .int .i64 b_m10, .int .i64 b_m11, .int .i64 b_m12, .int .i64 b_m13, .int .i64 b_m14, .int .i64 b_m15, .slice b_va b_V.length b_vc, .slice b_sa b_S.length b_sc, .slice b_pa b_P.length b_pc, .slice b_da b_D.length b_dc] 38) = w1 at *
  generalize hb0 : w.heap.size = b0 at *
  have R1 := B1.mid 2 [.int .i64 a_m0, .int .i64 a_m1, .int .i64 a_m2, .int .i64 a_m3, .int .i64 a_m4, .int .i64 a_m5, .int .i64 a_m6, .int .i64 a_m7, .int .i64 a_m8, .int .i64 a_m9, .int .i64 a_m10, .int .i64 a_m11, .int .i64 a_m12, .int .i64 a_m13, .int .i64 a_m14, .int .i64 a_m15] rfl
  have R2 := B2.mid 2 [.int .i64 b_m0, .int .i64 b_m1, .int .i64 b_m2, .int .i64 b_m3, .int .i64 b_m4, .int .i64 b_m5, .int .i64 b_m6, .int .i64 b_m7, .int .i64 b_m8, .int .i64 b_m9, .int .i64 b_m10, .int .i64 b_m11, .int .i64 b_m12, .int .i64 b_m13, .int .i64 b_m14, .int .i64 b_m15] rfl
  have cB1 := B1.cell
  have cB2 := B2.cell
  by_cases k1 : a_W = b_W
  · by_cases k2 : a_H = b_H
    · have HW : Hid (decide (a_W = b_W) = true ∧ decide (a_H = b_H) = true) := Lib.hid ⟨by simp [k1], by simp [k2]⟩
      cases c3
      · go_wp2_with (first
      | refine wpList_load_mid rfl 33 (.tmp 18) rfl b0 2 rfl [.int .i64 a_m0, .int .i64 a_m1, .int .i64 a_m2, .int .i64 a_m3, .int .i64 a_m4, .int .i64 a_m5, .int .i64 a_m6, .int .i64 a_m7, .int .i64 a_m8, .int .i64 a_m9, .int .i64 a_m10, .int .i64 a_m11, .int .i64 a_m12, .int .i64 a_m13, .int .i64 a_m14, .int .i64 a_m15] _ R1 Tryz.underlying33 rfl (by kernel_rfl) ?_
      | refine wpList_load_mid rfl 33 (.tmp 20) rfl (b0 + 1) 2 rfl [.int .i64 b_m0, .int .i64 b_m1, .int .i64 b_m2, .int .i64 b_m3, .int .i64 b_m4, .int .i64 b_m5, .int .i64 b_m6, .int .i64 b_m7, .int .i64 b_m8, .int .i64 b_m9, .int .i64 b_m10, .int .i64 b_m11, .int .i64 b_m12, .int .i64 b_m13, .int .i64 b_m14, .int .i64 b_m15] _ R2 Tryz.underlying33 rfl (by kernel_rfl) ?_
      | fail)
        go_ret
        exact ⟨by rw [HH.out]; simp, hx1⟩
      · go_wp2_with (first
      | refine wpList_load_mid rfl 33 (.tmp 18) rfl b0 2 rfl [.int .i64 a_m0, .int .i64 a_m1, .int .i64 a_m2, .int .i64 a_m3, .int .i64 a_m4, .int .i64 a_m5, .int .i64 a_m6, .int .i64 a_m7, .int .i64 a_m8, .int .i64 a_m9, .int .i64 a_m10, .int .i64 a_m11, .int .i64 a_m12, .int .i64 a_m13, .int .i64 a_m14, .int .i64 a_m15] _ R1 Tryz.underlying33 rfl (by kernel_rfl) ?_
      | refine wpList_load_mid rfl 33 (.tmp 20) rfl (b0 + 1) 2 rfl [.int .i64 b_m0, .int .i64 b_m1, .int .i64 b_m2, .int .i64 b_m3, .int .i64 b_m4, .int .i64 b_m5, .int .i64 b_m6, .int .i64 b_m7, .int .i64 b_m8, .int .i64 b_m9, .int .i64 b_m10, .int .i64 b_m11, .int .i64 b_m12, .int .i64 b_m13, .int .i64 b_m14, .int .i64 b_m15] _ R2 Tryz.underlying33 rfl (by kernel_rfl) ?_
      | fail)
        refine (hV _ hx1).mono ?_
        rintro e w2 ⟨rfl, x2⟩
        have e2 := hx1.trans x2
        have cB3 := (B1.ext x2).cell
        have cB4 := (B2.ext x2).cell
        have B3 := B1.ext x2
        have B4 := B2.ext x2
        clear B1 B2 cB1 cB2 R1 R2 hx1 x2
        cases c4
        · go_wp2
          go_ret
          exact ⟨by rw [HH.out]; simp, e2⟩
        · go_wp2_with fail
          refine (hS _ e2).mono ?_
          rintro e w3 ⟨rfl, x3⟩
          have e3 := e2.trans x3
          have B5 := B3.ext x3
          have B6 := B4.ext x3
          have cB5 := B5.cell
          have cB6 := B6.cell
          clear B3 B4 cB3 cB4 e2 x3
          cases c5
          · go_wp2
            go_ret
            exact ⟨by rw [HH.out]; simp, e3⟩
          · go_wp2_with fail
            refine (hP _ e3).mono ?_
            rintro e w4 ⟨rfl, x4⟩
            have e4 := e3.trans x4
            have B7 := B5.ext x4
            have B8 := B6.ext x4
            have cB7 := B7.cell
            have cB8 := B8.cell
            clear B5 B6 cB5 cB6 e3 x4
            cases c6
            · go_wp2
              go_ret
              exact ⟨by rw [HH.out]; simp, e4⟩
            · go_wp2_with fail
              refine (hD _ e4).mono ?_
              rintro e w5 ⟨rfl, x5⟩
              have e5 := e4.trans x5
              go_wp2
              go_ret
              exact ⟨by rw [HH.out, HW.out.1, HW.out.2]; rfl, e5⟩
    · have HW : Hid (decide (a_H = b_H) = false) := Lib.hid (by simp [k2])
      go_wp2
      go_ret
      exact ⟨by rw [HH.out, HW.out]; simp, hx1⟩
  · have HW : Hid (decide (a_W = b_W) = false) := Lib.hid (by simp [k1])
    go_wp2
    go_ret
    exact ⟨by rw [HH.out, HW.out]; simp, hx1⟩
end Go.Proofs.YtbbfmlehddfneaaGreat

