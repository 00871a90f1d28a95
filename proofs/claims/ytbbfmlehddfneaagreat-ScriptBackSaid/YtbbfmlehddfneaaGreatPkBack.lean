/-
  DERIVED. THE WALK of ScriptBack (made by mkscrback.py).
-/
import Derived.Test.YtbbfmlehddfneaaGreatPkBackR
namespace Go.Proofs.YtbbfmlehddfneaaGreat
open Go.RowKit
set_option linter.unusedVariables false
theorem ScrM.ones (m : ScrM) : m.l.toArray.all (·.oneCell') = true := by
  simp only [List.all_toArray, List.all_eq_true]
  intro u hu
  simp [ScrM.l] at hu
  rcases hu with rfl | rfl | ⟨y, _, rfl⟩ | rfl | rfl | rfl | rfl <;> rfl
theorem sameS_self (x : Scr) : sameS x x = true := by simp [sameS]
set_option maxRecDepth 100000 in
set_option maxHeartbeats 4000000 in
theorem scriptBack_main (w : World) (s : SScr) (vs : List VSm) (sh pa : List SlV) (ds : List DSm) (Q : SScrQ w s vs sh pa ds) : Calls Tryz.prog 3 #[.agg s.v] w fun e w' => e = .returned (.bool true) ∧ Ext w w' := by
  have hL := fun u (hu : Ext w u) => light_any u s vs sh pa ds (Q.ext hu)
  have hS := fun u (hu : Ext w u) hl Ls Lp hs hp LX hd => script11_any u s vs sh pa ds (Q.ext hu) hl Ls Lp hs hp LX hd
  obtain ⟨Ls, hCs⟩ := conts_of Q.sq
  obtain ⟨Lp, hCp⟩ := conts_of Q.pq
  obtain ⟨LX, hCd⟩ := dconts_of Q.dq
  have SG := scriptF_ok Q hCs hCp hCd
  have hS := fun u (hu : Ext w u) hl => hS u hu hl Ls Lp (hCs.ext hu) (hCp.ext hu) LX (hCd.ext hu)
  generalize scriptF s vs Ls Lp ds LX = x at *
  clear hCs hCp hCd Q
  obtain ⟨wd, ht, t0, t1, t2, t3, ⟨va, vn, vc⟩, ⟨sa, sn, sc⟩, ⟨pa', pn, pc⟩, ⟨da, dn, dc⟩⟩ := s
  have x1 := (Ext.refl w).alloc #[.int .u8 wd, .int .u8 ht, .int .i16 t0, .int .i16 t1, .int .i16 t2, .int .i16 t3, .slice va vn vc, .slice sa sn sc, .slice pa' pn pc, .slice da dn dc] 28
  have B1 := Blk.new w #[.int .u8 wd, .int .u8 ht, .int .i16 t0, .int .i16 t1, .int .i16 t2, .int .i16 t3, .slice va vn vc, .slice sa sn sc, .slice pa' pn pc, .slice da dn dc] 28
  go_enter Tryz.func3, Tryz.ntmps3
  go_upto_region 1 with fail
  generalize w.alloc (.cells #[.int .u8 wd, .int .u8 ht, .int .i16 t0, .int .i16 t1, .int .i16 t2, .int .i16 t3, .slice va vn vc, .slice sa sn sc, .slice pa' pn pc, .slice da dn dc] 28) = w1 at *
  generalize hb0 : w.heap.size = b0 at *
  go_wp2_with fail
  refine (awake11_any _).mono ?_
  rintro e w2 ⟨rfl, x2⟩
  have B2 := B1.ext x2
  have E2 := x1.trans x2
  clear B1 x1 x2
  go_wp2_with (first
    | ((with_reducible refine wpList_load_blk (op := ⟨some 10, _, _, _, _, _⟩) ?_ 28 (.tmp 1) ?_ b0 ?_ (z := _) (T := 28) B2 Tryz.underlying28 ?_ ?_ ?_); rfl; rfl; rfl; rfl; kernel_rfl)
    | fail)
  refine (hL _ E2).mono ?_
  rintro e w3 ⟨rfl, x3⟩
  have B3 := B2.ext x3
  have E3 := E2.trans x3
  clear B2 E2 x3 hL
  cases hl : lightB vs sh pa ds
  · go_wp2
    go_ret
    exact ⟨rfl, E3⟩
  have hS := hS _ E3 hl
  clear hl
  go_wp2_with (first
    | ((with_reducible refine wpList_load_blk (op := ⟨some 13, _, _, _, _, _⟩) ?_ 28 (.tmp 1) ?_ b0 ?_ (z := _) (T := 28) B3 Tryz.underlying28 ?_ ?_ ?_); rfl; rfl; rfl; rfl; kernel_rfl)
    | fail)
  refine hS.mono ?_
  rintro e w5 ⟨m, rfl, SA, x5⟩
  have E5 := E3.trans x5
  clear hS B3 E3 x5
  have hl22 : m.l.length = 22 := by simp [ScrM.l, SA.m, SG.rd.r0.fit.m16]
  have hone := m.ones
  have Bz := Blk.new w5 #[.int .i64 0, .int .i64 0, .int .i64 0, .int .i64 0, .int .i64 0, .int .i64 0, .int .i64 0, .int .i64 0, .int .i64 0, .int .i64 0, .int .i64 0, .int .i64 0, .int .i64 0, .int .i64 0, .int .i64 0, .int .i64 0, .int .i64 0, .int .i64 0, .slice none 0 0, .slice none 0 0, .slice none 0 0, .slice none 0 0] 38
  have X6 := Bz.setRow m.l.toArray
  have y6 : Ext w5 ((w5.alloc (.cells #[.int .i64 0, .int .i64 0, .int .i64 0, .int .i64 0, .int .i64 0, .int .i64 0, .int .i64 0, .int .i64 0, .int .i64 0, .int .i64 0, .int .i64 0, .int .i64 0, .int .i64 0, .int .i64 0, .int .i64 0, .int .i64 0, .int .i64 0, .int .i64 0, .slice none 0 0, .slice none 0 0, .slice none 0 0, .slice none 0 0] 38)).setRow w5.heap.size m.l.toArray) := ((Ext.refl w5).alloc _ _).setRow (Nat.le_refl _) _
  have SR := SA.rd SG.rd.r0.wf
  have SR6 := SR.ext y6
  have E6 := E5.trans y6
  go_upto_region 6 with (first
    | ((with_reducible refine wpList_store_blk (op := ⟨none, .store 38 (.tmp 3) (.tmp 14), _, _, _, _⟩) ?_ 38 (.tmp 3) (.tmp 14) ?_ w5.heap.size ?_ (cs := m.l.toArray) ?_ (z := #[.int .i64 0, .int .i64 0, .int .i64 0, .int .i64 0, .int .i64 0, .int .i64 0, .int .i64 0, .int .i64 0, .int .i64 0, .int .i64 0, .int .i64 0, .int .i64 0, .int .i64 0, .int .i64 0, .int .i64 0, .int .i64 0, .int .i64 0, .int .i64 0, .slice none 0 0, .slice none 0 0, .slice none 0 0, .slice none 0 0]) (T := 38) ?_ ?_ ?_ ?_ ?_); rfl; rfl; rfl; rfl; exact Bz; (rw [List.size_toArray, hl22]; kernel_rfl); exact hone; (simp [hl22]))
    | fail)
  clear Bz y6 E5 SA SR
  generalize (w5.alloc (.cells #[.int .i64 0, .int .i64 0, .int .i64 0, .int .i64 0, .int .i64 0, .int .i64 0, .int .i64 0, .int .i64 0, .int .i64 0, .int .i64 0, .int .i64 0, .int .i64 0, .int .i64 0, .int .i64 0, .int .i64 0, .int .i64 0, .int .i64 0, .int .i64 0, .slice none 0 0, .slice none 0 0, .slice none 0 0, .slice none 0 0] 38)).setRow w5.heap.size m.l.toArray = w6 at *
  generalize w5.heap.size = b3 at *
  have hchk := SG.chk
  have hfit := SG.rd.r0.fit
  have hP := fun u (hu : Ext w6 u) => put11_any m x u (SR6.ext hu) hfit
  have hC := fun u (hu : Ext w6 u) => checkS_any m x u (SR6.ext hu) hfit
  have hBy := fun u (hu : Ext w6 u) => bytes11_any m x u (SR6.ext hu) hfit hchk
  rw [hchk] at hP hC
  have HP := Lib.hid hP
  have HC := Lib.hid hC
  have HB := Lib.hid hBy
  clear hP hC hBy
  have hone' := hone
  go_wp2_with (first
    | ((with_reducible refine wpList_load_blk (op := ⟨some 16, _, _, _, _, _⟩) ?_ 38 (.tmp 3) ?_ b3 ?_ (z := _) (T := 38) X6 Tryz.underlying38 ?_ ?_ ?_); rfl; rfl; rfl; rfl; (rw [List.size_toArray, hl22]; kernel_rfl))
    | fail)
  refine (HP.out _ (Ext.refl w6)).mono ?_
  rintro e w7 ⟨vb, rfl, o7, -, x7⟩
  have o7 := o7 trivial
  have E7 := E6.trans x7
  have A7 := o7.arr (encS_bytes hfit (chkS_good hchk))
  have hfew := SG.few
  obtain ⟨ao, c, rfl, -, -⟩ := o7.slice
  go_upto_region 7 with fail
  go_wp2_with fail
  refine (take11_any _ _ (encS x) A7 (by omega)).mono ?_
  rintro e w8 ⟨m2, x', err, rfl, x8, hr⟩
  have hx : err = 0 ∧ ScrAt w8 w7.heap.size m2 x ∧ x' = x := by
    rcases hr with ⟨h1, h2, h3, h4, h5, -⟩ | ⟨h1, h2, h3⟩
    · have := encS_inj SG.rd.ok h3.ok h5
      subst this
      exact ⟨h1, h2, rfl⟩
    · rcases h3 with h3 | h3
      · omega
      · exact absurd rfl (h3 x SG.rd hchk)
  obtain ⟨rfl, SA2, rfl⟩ := hx
  clear hr
  have hl22b : m2.l.length = 22 := by simp [ScrM.l, SA2.m, SG.rd.r0.fit.m16]
  have hone2 := m2.ones
  have SR8 := SA2.rd SG.rd.r0.wf
  have E8 := E7.trans x8
  have X8 := (X6.ext x7).ext x8
  have o8 := o7.ext x8
  have Bz := Blk.new w8 #[.int .i64 0, .int .i64 0, .int .i64 0, .int .i64 0, .int .i64 0, .int .i64 0, .int .i64 0, .int .i64 0, .int .i64 0, .int .i64 0, .int .i64 0, .int .i64 0, .int .i64 0, .int .i64 0, .int .i64 0, .int .i64 0, .int .i64 0, .int .i64 0, .slice none 0 0, .slice none 0 0, .slice none 0 0, .slice none 0 0] 38
  have Y9 := Bz.setRow m2.l.toArray
  have y9 : Ext w8 ((w8.alloc (.cells #[.int .i64 0, .int .i64 0, .int .i64 0, .int .i64 0, .int .i64 0, .int .i64 0, .int .i64 0, .int .i64 0, .int .i64 0, .int .i64 0, .int .i64 0, .int .i64 0, .int .i64 0, .int .i64 0, .int .i64 0, .int .i64 0, .int .i64 0, .int .i64 0, .slice none 0 0, .slice none 0 0, .slice none 0 0, .slice none 0 0] 38)).setRow w8.heap.size m2.l.toArray) := ((Ext.refl w8).alloc _ _).setRow (Nat.le_refl _) _
  clear A7 SA2
  go_upto_region 8 with (first
    | ((with_reducible refine wpList_store_blk (op := ⟨none, .store 38 (.tmp 6) (.tmp 23), _, _, _, _⟩) ?_ 38 (.tmp 6) (.tmp 23) ?_ w8.heap.size ?_ (cs := m2.l.toArray) ?_ (z := #[.int .i64 0, .int .i64 0, .int .i64 0, .int .i64 0, .int .i64 0, .int .i64 0, .int .i64 0, .int .i64 0, .int .i64 0, .int .i64 0, .int .i64 0, .int .i64 0, .int .i64 0, .int .i64 0, .int .i64 0, .int .i64 0, .int .i64 0, .int .i64 0, .slice none 0 0, .slice none 0 0, .slice none 0 0, .slice none 0 0]) (T := 38) ?_ ?_ ?_ ?_ ?_); rfl; rfl; rfl; rfl; exact Bz; (rw [List.size_toArray, hl22b]; kernel_rfl); exact hone2; (simp [hl22b]))
    | fail)
  have E9 := E8.trans y9
  have X9 := X8.ext y9
  have o9 := o8.ext y9
  have SR9 := SR8.ext y9
  have x69 := (x7.trans x8).trans y9
  clear Bz E8 X8 o8 SR8 y9
  generalize (w8.alloc (.cells #[.int .i64 0, .int .i64 0, .int .i64 0, .int .i64 0, .int .i64 0, .int .i64 0, .int .i64 0, .int .i64 0, .int .i64 0, .int .i64 0, .int .i64 0, .int .i64 0, .int .i64 0, .int .i64 0, .int .i64 0, .int .i64 0, .int .i64 0, .int .i64 0, .slice none 0 0, .slice none 0 0, .slice none 0 0, .slice none 0 0] 38)).setRow w8.heap.size m2.l.toArray = w9 at *
  generalize w8.heap.size = b6 at *
  refine scrback_r8 _ _ _ _ _ _ _ _ _ _ _ _ _ _ _ _ _ _ _ _ _ _ _ _ _ _ _ _ _ _ _ _ _ _ _ _ _ _ _ _ _ _ _ _ b3 b6 _ _ _ _ (by rw [List.size_toArray, hl22]) (by rw [List.size_toArray, hl22b]) (encS x') w9 X9 Y9 o9 (fun u hu => HC.out u (x69.trans hu)) (fun u hu => HB.out u (x69.trans hu)) (fun u hu => ?_) ?_
  · have := same_any m m2 x' x' u (SR6.ext (x69.trans hu)) (SR9.ext hu) hfit hfit
    rw [sameS_self] at this
    exact this
  · intro c25 c26 c27 c28 c29 c30 c31 c32 c33 c34 c35 c36 c37 c38 c39 c40 c41 c42 c43 c44 c45 c46 c47 c48 w10 x10
    go_wp2
    go_ret
    exact ⟨rfl, E9.trans x10⟩
theorem scriptBack_row {w : World} (s : SScr) (vs : List VSm) (sh pa : List SlV) (ds : List DSm) (Q : SScrQ w s vs sh pa ds) : Calls Tryz.prog 3 #[.agg s.v] w fun e w' => e = .returned (.bool true) ∧ Ext w w' := scriptBack_main w s vs sh pa ds Q
end Go.Proofs.YtbbfmlehddfneaaGreat

