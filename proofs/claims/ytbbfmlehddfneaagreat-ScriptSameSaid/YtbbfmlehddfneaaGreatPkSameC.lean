/-
  DERIVED. Layer 11 (script): Same: slices of vertices (made by mkscrsame.py). · Layer 11 (script): Same: slices of programs and of draws (made by mkscrsame.py).
-/
import Derived.Test.YtbbfmlehddfneaaGreatPkSameB
namespace Go.Proofs.YtbbfmlehddfneaaGreat
open Go.RowKit
set_option linter.unusedVariables false
set_option maxRecDepth 100000 in
set_option maxHeartbeats 2000000 in
theorem eqVerts_any (w : World) (v q : Value) (l m : List V8) (hl : PArrG LV w v l) (hm : PArrG LV w q m) (hll : l.length ≤ 1000000) (hlm : m.length ≤ 1000000) : Calls Tryz.prog 34 #[v, q, .func (.func 35) #[] #[]] w fun e w' => e = .returned (.bool (decide (l = m))) ∧ Ext w w' := by
  have A := hl
  have B := hm
  obtain ⟨ao, cc, rfl, -⟩ := hl
  obtain ⟨bo, dd, rfl, -⟩ := hm
  have hlI : (l.length : Int) ≤ 1000000 := by omega
  go_enter Tryz.func34, Tryz.ntmps34
  by_cases hne : l.length = m.length
  · have HNE := Lib.hid hne
    have hneI : (l.length : Int) = (m.length : Int) := by omega
    have hneb : ((l.length : Int) != (m.length : Int)) = false := by simp [hneI]
    clear hne
    go_wp2_with fail
    go_loopg [17] l.length (fun n0 iv wx => ∃ (j : Nat), j + n0 = l.length ∧ iv = .int .i64 j ∧ (l).take j = (m).take j ∧ Ext w wx)
    case atStart => exact ⟨0, by omega, by simp, by simp, Ext.refl _⟩
    case round =>
      obtain ⟨j, hjk, rfl, hz, e1⟩ := hrel
      have HZ := Lib.hid hz
      clear hz
      by_cases hj : j < l.length
      · have hjI : (j : Int) < (l.length : Int) := by omega
        have hjm : j < m.length := by have := HNE.out; omega
        have hjmI : (j : Int) < (m.length : Int) := by omega
        obtain ⟨g, off, x, e0, -, hlj, hc⟩ := (A.ext e1).nth j hj
        cases e0
        obtain ⟨g2, off2, y, e0, -, hmj, hd⟩ := (B.ext e1).nth j hjm
        cases e0
        have HJ := Lib.hid hlj
        have HK := Lib.hid hmj
        clear hlj hmj
        have R3 : wr.rangeAt g (off + j * 8) x.l := hc
        have Bz1 := Blk.new wr #[.int .i64 0, .int .i64 0, .int .i64 0, .int .i64 0, .int .i64 0, .int .i64 0, .int .i64 0, .int .i64 0] 51
        have B1 := Bz1.setRow x.l.toArray
        have y2 : Ext wr ((wr.alloc (.cells #[.int .i64 0, .int .i64 0, .int .i64 0, .int .i64 0, .int .i64 0, .int .i64 0, .int .i64 0, .int .i64 0] 51)).setRow wr.heap.size x.l.toArray) := ((Ext.refl wr).alloc _ _).setRow (Nat.le_refl _) _
        have R4 : ((wr.alloc (.cells #[.int .i64 0, .int .i64 0, .int .i64 0, .int .i64 0, .int .i64 0, .int .i64 0, .int .i64 0, .int .i64 0] 51)).setRow wr.heap.size x.l.toArray).rangeAt g2 (off2 + j * 8) y.l := fun i u hi => y2.old (hd i u hi)
        have hs2 : ((wr.alloc (.cells #[.int .i64 0, .int .i64 0, .int .i64 0, .int .i64 0, .int .i64 0, .int .i64 0, .int .i64 0, .int .i64 0] 51)).setRow wr.heap.size x.l.toArray).heap.size = wr.heap.size + 1 := by rw [size_setRow]; simp
        have Bz2 := Blk.new' (w := ((wr.alloc (.cells #[.int .i64 0, .int .i64 0, .int .i64 0, .int .i64 0, .int .i64 0, .int .i64 0, .int .i64 0, .int .i64 0] 51)).setRow wr.heap.size x.l.toArray)) (b := wr.heap.size + 1) hs2.symm #[.int .i64 0, .int .i64 0, .int .i64 0, .int .i64 0, .int .i64 0, .int .i64 0, .int .i64 0, .int .i64 0] 51
        have B2 := Bz2.setRow y.l.toArray
        have y3 : Ext ((wr.alloc (.cells #[.int .i64 0, .int .i64 0, .int .i64 0, .int .i64 0, .int .i64 0, .int .i64 0, .int .i64 0, .int .i64 0] 51)).setRow wr.heap.size x.l.toArray) (((((wr.alloc (.cells #[.int .i64 0, .int .i64 0, .int .i64 0, .int .i64 0, .int .i64 0, .int .i64 0, .int .i64 0, .int .i64 0] 51)).setRow wr.heap.size x.l.toArray).alloc (.cells #[.int .i64 0, .int .i64 0, .int .i64 0, .int .i64 0, .int .i64 0, .int .i64 0, .int .i64 0, .int .i64 0] 51))).setRow (wr.heap.size + 1) y.l.toArray) := ((Ext.refl _).alloc _ _).setRow (Nat.le_of_eq hs2) _
        have B1' := B1.ext y3
        have e3 := (e1.trans y2).trans y3
        have hone : x.l.toArray.all (·.oneCell') = true := by
          simp only [List.all_toArray, List.all_eq_true]
          exact LV.one _
        have hone2 : y.l.toArray.all (·.oneCell') = true := by
          simp only [List.all_toArray, List.all_eq_true]
          exact LV.one _
        have hzl : x.l.length = 8 := rfl
        have hzl2 : y.l.length = 8 := rfl
        clear hc hd
        go_wp2_with (first
          | refine wpList_load_mid rfl 51 (.tmp 20) rfl g (off + j * 8) rfl x.l _ R3 Tryz.underlying51 rfl (by kernel_rfl) ?_
          | refine wpList_load_mid rfl 51 (.tmp 24) rfl g2 (off2 + j * 8) rfl y.l _ R4 Tryz.underlying51 rfl (by kernel_rfl) ?_
          | ((with_reducible refine wpList_store_blk (op := ⟨none, .store 51 (.tmp 8) (.tmp 21), _, _, _, _⟩) ?_ 51 (.tmp 8) (.tmp 21) ?_ wr.heap.size ?_ (cs := x.l.toArray) ?_ (z := #[.int .i64 0, .int .i64 0, .int .i64 0, .int .i64 0, .int .i64 0, .int .i64 0, .int .i64 0, .int .i64 0]) (T := 51) ?_ ?_ ?_ ?_ ?_); rfl; rfl; rfl; rfl; exact Bz1; (rw [List.size_toArray, hzl]; kernel_rfl); exact hone; rfl)
          | ((with_reducible refine wpList_store_blk (op := ⟨none, .store 51 (.tmp 9) (.tmp 25), _, _, _, _⟩) ?_ 51 (.tmp 9) (.tmp 25) ?_ _ ?_ (cs := y.l.toArray) ?_ (z := #[.int .i64 0, .int .i64 0, .int .i64 0, .int .i64 0, .int .i64 0, .int .i64 0, .int .i64 0, .int .i64 0]) (T := 51) Bz2 ?_ ?_ ?_ ?_); rfl; rfl; rfl; rfl; (rw [List.size_toArray, hzl2]; kernel_rfl); exact hone2; rfl)
          | ((with_reducible refine wpList_load_blk (op := ⟨some 27, _, _, _, _, _⟩) ?_ 51 (.tmp 8) ?_ wr.heap.size ?_ (z := x.l.toArray) (T := 51) B1' Tryz.underlying51 ?_ ?_ ?_); rfl; rfl; rfl; rfl; (rw [List.size_toArray, hzl]; kernel_rfl))
          | ((with_reducible refine wpList_load_blk (op := ⟨some 28, _, _, _, _, _⟩) ?_ 51 (.tmp 9) ?_ _ ?_ (z := y.l.toArray) (T := 51) B2 Tryz.underlying51 ?_ ?_ ?_); rfl; rfl; rfl; rfl; (rw [List.size_toArray, hzl2]; kernel_rfl))
          | fail)
        refine (sameVertex_any _ x y).mono ?_
        rintro e w4 ⟨rfl, x4⟩
        have e4 := e3.trans x4
        by_cases hyz : x = y
        · have hd1 : decide (x = y) = true := by simp [hyz]
          rw [hd1]
          have HYZ := Lib.hid hyz
          clear hyz hd1
          go_wp2
          go_roundg (gk - 1)
          case measure => omega
          case rel => exact ⟨j + 1, by omega, by simp, by rw [List.take_add_one, List.take_add_one, HJ.out, HK.out, HZ.out, HYZ.out], e4⟩
        · have hd1 : decide (x = y) = false := by simp [hyz]
          rw [hd1]
          have hF : decide (l = m) = false := by
            simp only [decide_eq_false_iff_not]
            intro h
            have h1 := HJ.out
            rw [h, HK.out] at h1
            exact hyz (Option.some.inj h1).symm
          have HF := Lib.hid hF
          clear hF hyz hd1
          go_wp2
          go_ret
          exact ⟨by rw [HF.out]; rfl, e4⟩
      · obtain rfl : j = l.length := by omega
        have hT : decide (l = m) = true := by
          have h1 := HZ.out
          rw [List.take_of_length_le (by exact Nat.le_refl _), List.take_of_length_le (by rw [HNE.out]; exact Nat.le_refl _)] at h1
          simpa using h1
        have HT := Lib.hid hT
        clear hT
        go_wp2
        go_ret
        exact ⟨by rw [HT.out]; rfl, e1⟩
  · have hF : decide (l = m) = false := by
      simp only [decide_eq_false_iff_not]
      intro h
      exact hne (by rw [h])
    have hneI : ¬ (l.length : Int) = (m.length : Int) := by omega
    rw [hF]
    go_wp2
    go_ret
    exact ⟨rfl, Ext.refl _⟩
end Go.Proofs.YtbbfmlehddfneaaGreat

namespace Go.Proofs.YtbbfmlehddfneaaGreat
open Go.RowKit
set_option linter.unusedVariables false
set_option maxRecDepth 100000 in
set_option maxHeartbeats 2000000 in
theorem eqProgs_any (w : World) (v q : Value) (P1 P2 : List (List In)) (hR1 : PRd w v P1) (hR2 : PRd w q P2) (o1 : ∀ p ∈ P1, p.length ≤ 1000000) (o2 : ∀ p ∈ P2, p.length ≤ 1000000) (hl1 : P1.length ≤ 1000000) (hl2 : P2.length ≤ 1000000) : Calls Tryz.prog 36 #[v, q, .func (.func 37) #[] #[]] w fun e w' => e = .returned (.bool (decide (P1 = P2))) ∧ Ext w w' := by
  obtain ⟨l, A, g1, f1⟩ := hR1
  obtain ⟨m, B, g2, f2⟩ := hR2
  obtain ⟨ao, cc, rfl, -⟩ := A.slice
  obtain ⟨bo, dd, rfl, -⟩ := B.slice
  have hll : l.length ≤ 1000000 := by omega
  have hlm : m.length ≤ 1000000 := by omega
  have G1 := Lib.hid g1
  have G2 := Lib.hid g2
  have F1 := Lib.hid f1
  have F2 := Lib.hid f2
  clear g1 g2 f1 f2
  have hlI : (l.length : Int) ≤ 1000000 := by omega
  go_enter Tryz.func36, Tryz.ntmps36
  by_cases hne : l.length = m.length
  · have HNE := Lib.hid hne
    have hneI : (l.length : Int) = (m.length : Int) := by omega
    have hneb : ((l.length : Int) != (m.length : Int)) = false := by simp [hneI]
    clear hne
    go_wp2_with fail
    go_loopg [17] l.length (fun n0 iv wx => ∃ (j : Nat), j + n0 = l.length ∧ iv = .int .i64 j ∧ (P1).take j = (P2).take j ∧ Ext w wx)
    case atStart => exact ⟨0, by omega, by simp, by simp, Ext.refl _⟩
    case round =>
      obtain ⟨j, hjk, rfl, hz, e1⟩ := hrel
      have HZ := Lib.hid hz
      clear hz
      by_cases hj : j < l.length
      · have hjI : (j : Int) < (l.length : Int) := by omega
        have hjm : j < m.length := by have := HNE.out; omega
        have hjmI : (j : Int) < (m.length : Int) := by omega
        obtain ⟨g, off, x, e0, -, hlj, hc⟩ := (A.ext e1).nth j hj
        cases e0
        obtain ⟨g2, off2, y, e0, -, hmj, hd⟩ := (B.ext e1).nth j hjm
        cases e0
        obtain ⟨kx, hkx, pA, -⟩ := F1.out j x hlj
        obtain ⟨ky, hky, pB, -⟩ := F2.out j y hmj
        have HJ := Lib.hid hkx
        have HK := Lib.hid hky
        have hk1 := o1 kx (List.mem_of_getElem? hkx)
        have hk2 := o2 ky (List.mem_of_getElem? hky)
        have c0 := hc 0 _ rfl
        have d0 := hd 0 _ rfl
        obtain ⟨xa, xn, xc⟩ := x
        obtain ⟨ya, yn, yc⟩ := y
        simp only [LP, SlV.v, Nat.mul_one, Nat.add_zero] at c0 d0
        have e3 := e1
        clear hlj hmj hkx hky hc hd
        go_wp2_with fail
        refine (samePrograms_any _ _ _ kx ky (pA.ext e1) (pB.ext e1) hk1 hk2).mono ?_
        rintro e w4 ⟨rfl, x4⟩
        have e4 := e3.trans x4
        by_cases hyz : kx = ky
        · have hd1 : decide (kx = ky) = true := by simp [hyz]
          rw [hd1]
          have HYZ := Lib.hid hyz
          clear hyz hd1
          go_wp2
          go_roundg (gk - 1)
          case measure => omega
          case rel => exact ⟨j + 1, by omega, by simp, by rw [List.take_add_one, List.take_add_one, HJ.out, HK.out, HZ.out, HYZ.out], e4⟩
        · have hd1 : decide (kx = ky) = false := by simp [hyz]
          rw [hd1]
          have hF : decide (P1 = P2) = false := by
            simp only [decide_eq_false_iff_not]
            intro h
            have h1 := HJ.out
            rw [h, HK.out] at h1
            exact hyz (Option.some.inj h1).symm
          have HF := Lib.hid hF
          clear hF hyz hd1
          go_wp2
          go_ret
          exact ⟨by rw [HF.out]; rfl, e4⟩
      · obtain rfl : j = l.length := by omega
        have hT : decide (P1 = P2) = true := by
          have h1 := HZ.out
          rw [List.take_of_length_le (by rw [G1.out]; exact Nat.le_refl _), List.take_of_length_le (by rw [HNE.out, G2.out]; exact Nat.le_refl _)] at h1
          simpa using h1
        have HT := Lib.hid hT
        clear hT
        go_wp2
        go_ret
        exact ⟨by rw [HT.out]; rfl, e1⟩
  · have hF : decide (P1 = P2) = false := by
      simp only [decide_eq_false_iff_not]
      intro h
      exact hne (by rw [G1.out, G2.out, h])
    have hneI : ¬ (l.length : Int) = (m.length : Int) := by omega
    rw [hF]
    go_wp2
    go_ret
    exact ⟨rfl, Ext.refl _⟩
set_option maxRecDepth 100000 in
set_option maxHeartbeats 2000000 in
theorem eqDraws_any (w : World) (v q : Value) (D1 D2 : List Dr) (hR1 : DRd w v D1) (hR2 : DRd w q D2) (o1 : ∀ d ∈ D1, d.idx.length ≤ 1000000) (o2 : ∀ d ∈ D2, d.idx.length ≤ 1000000) (hl1 : D1.length ≤ 1000000) (hl2 : D2.length ≤ 1000000) : Calls Tryz.prog 38 #[v, q, .func (.func 39) #[] #[]] w fun e w' => e = .returned (.bool (decide (D1.map nrm = D2.map nrm))) ∧ Ext w w' := by
  obtain ⟨l, A, g1, f1⟩ := hR1
  obtain ⟨m, B, g2, f2⟩ := hR2
  obtain ⟨ao, cc, rfl, -⟩ := A.slice
  obtain ⟨bo, dd, rfl, -⟩ := B.slice
  have hll : l.length ≤ 1000000 := by omega
  have hlm : m.length ≤ 1000000 := by omega
  have G1 := Lib.hid g1
  have G2 := Lib.hid g2
  have F1 := Lib.hid f1
  have F2 := Lib.hid f2
  clear g1 g2 f1 f2
  have hlI : (l.length : Int) ≤ 1000000 := by omega
  go_enter Tryz.func38, Tryz.ntmps38
  by_cases hne : l.length = m.length
  · have HNE := Lib.hid hne
    have hneI : (l.length : Int) = (m.length : Int) := by omega
    have hneb : ((l.length : Int) != (m.length : Int)) = false := by simp [hneI]
    clear hne
    go_wp2_with fail
    go_loopg [17] l.length (fun n0 iv wx => ∃ (j : Nat), j + n0 = l.length ∧ iv = .int .i64 j ∧ (D1.map nrm).take j = (D2.map nrm).take j ∧ Ext w wx)
    case atStart => exact ⟨0, by omega, by simp, by simp, Ext.refl _⟩
    case round =>
      obtain ⟨j, hjk, rfl, hz, e1⟩ := hrel
      have HZ := Lib.hid hz
      clear hz
      by_cases hj : j < l.length
      · have hjI : (j : Int) < (l.length : Int) := by omega
        have hjm : j < m.length := by have := HNE.out; omega
        have hjmI : (j : Int) < (m.length : Int) := by omega
        obtain ⟨g, off, x, e0, -, hlj, hc⟩ := (A.ext e1).nth j hj
        cases e0
        obtain ⟨g2, off2, y, e0, -, hmj, hd⟩ := (B.ext e1).nth j hjm
        cases e0
        obtain ⟨d1, hkx, im1, pA⟩ := F1.out j x hlj
        obtain ⟨d2, hky, im2, pB⟩ := F2.out j y hmj
        have HJ := Lib.hid (show (D1.map nrm)[j]? = some (nrm d1) by rw [List.getElem?_map, hkx]; rfl)
        have HK := Lib.hid (show (D2.map nrm)[j]? = some (nrm d2) by rw [List.getElem?_map, hky]; rfl)
        have hk1 := o1 d1 (List.mem_of_getElem? hkx)
        have hk2 := o2 d2 (List.mem_of_getElem? hky)
        have hcall := fun u (hu : Ext w u) => sameDraw_any u x y d1 d2 im1 im2 (pA.ext hu) (pB.ext hu) hk1 hk2
        clear hlj hmj hkx hky
        have R3 : wr.rangeAt g (off + j * 27) x.l := hc
        have Bz1 := Blk.new wr #[.int .u8 0, .bool false, .int .u8 0, .int .u8 0, .int .u8 0, .int .u8 0, .int .u8 0, .int .u8 0, .int .u8 0, .int .u8 0, .int .u8 0, .int .i64 0, .int .i64 0, .int .i64 0, .int .i64 0, .bool false, .int .u8 0, .int .u8 0, .int .u8 0, .int .u8 0, .int .i64 0, .int .u8 0, .int .u8 0, .int .i64 0, .int .i64 0, .int .u8 0, .slice none 0 0] 71
        have B1 := Bz1.setRow x.l.toArray
        have y2 : Ext wr ((wr.alloc (.cells #[.int .u8 0, .bool false, .int .u8 0, .int .u8 0, .int .u8 0, .int .u8 0, .int .u8 0, .int .u8 0, .int .u8 0, .int .u8 0, .int .u8 0, .int .i64 0, .int .i64 0, .int .i64 0, .int .i64 0, .bool false, .int .u8 0, .int .u8 0, .int .u8 0, .int .u8 0, .int .i64 0, .int .u8 0, .int .u8 0, .int .i64 0, .int .i64 0, .int .u8 0, .slice none 0 0] 71)).setRow wr.heap.size x.l.toArray) := ((Ext.refl wr).alloc _ _).setRow (Nat.le_refl _) _
        have R4 : ((wr.alloc (.cells #[.int .u8 0, .bool false, .int .u8 0, .int .u8 0, .int .u8 0, .int .u8 0, .int .u8 0, .int .u8 0, .int .u8 0, .int .u8 0, .int .u8 0, .int .i64 0, .int .i64 0, .int .i64 0, .int .i64 0, .bool false, .int .u8 0, .int .u8 0, .int .u8 0, .int .u8 0, .int .i64 0, .int .u8 0, .int .u8 0, .int .i64 0, .int .i64 0, .int .u8 0, .slice none 0 0] 71)).setRow wr.heap.size x.l.toArray).rangeAt g2 (off2 + j * 27) y.l := fun i u hi => y2.old (hd i u hi)
        have hs2 : ((wr.alloc (.cells #[.int .u8 0, .bool false, .int .u8 0, .int .u8 0, .int .u8 0, .int .u8 0, .int .u8 0, .int .u8 0, .int .u8 0, .int .u8 0, .int .u8 0, .int .i64 0, .int .i64 0, .int .i64 0, .int .i64 0, .bool false, .int .u8 0, .int .u8 0, .int .u8 0, .int .u8 0, .int .i64 0, .int .u8 0, .int .u8 0, .int .i64 0, .int .i64 0, .int .u8 0, .slice none 0 0] 71)).setRow wr.heap.size x.l.toArray).heap.size = wr.heap.size + 1 := by rw [size_setRow]; simp
        have Bz2 := Blk.new' (w := ((wr.alloc (.cells #[.int .u8 0, .bool false, .int .u8 0, .int .u8 0, .int .u8 0, .int .u8 0, .int .u8 0, .int .u8 0, .int .u8 0, .int .u8 0, .int .u8 0, .int .i64 0, .int .i64 0, .int .i64 0, .int .i64 0, .bool false, .int .u8 0, .int .u8 0, .int .u8 0, .int .u8 0, .int .i64 0, .int .u8 0, .int .u8 0, .int .i64 0, .int .i64 0, .int .u8 0, .slice none 0 0] 71)).setRow wr.heap.size x.l.toArray)) (b := wr.heap.size + 1) hs2.symm #[.int .u8 0, .bool false, .int .u8 0, .int .u8 0, .int .u8 0, .int .u8 0, .int .u8 0, .int .u8 0, .int .u8 0, .int .u8 0, .int .u8 0, .int .i64 0, .int .i64 0, .int .i64 0, .int .i64 0, .bool false, .int .u8 0, .int .u8 0, .int .u8 0, .int .u8 0, .int .i64 0, .int .u8 0, .int .u8 0, .int .i64 0, .int .i64 0, .int .u8 0, .slice none 0 0] 71
        have B2 := Bz2.setRow y.l.toArray
        have y3 : Ext ((wr.alloc (.cells #[.int .u8 0, .bool false, .int .u8 0, .int .u8 0, .int .u8 0, .int .u8 0, .int .u8 0, .int .u8 0, .int .u8 0, .int .u8 0, .int .u8 0, .int .i64 0, .int .i64 0, .int .i64 0, .int .i64 0, .bool false, .int .u8 0, .int .u8 0, .int .u8 0, .int .u8 0, .int .i64 0, .int .u8 0, .int .u8 0, .int .i64 0, .int .i64 0, .int .u8 0, .slice none 0 0] 71)).setRow wr.heap.size x.l.toArray) (((((wr.alloc (.cells #[.int .u8 0, .bool false, .int .u8 0, .int .u8 0, .int .u8 0, .int .u8 0, .int .u8 0, .int .u8 0, .int .u8 0, .int .u8 0, .int .u8 0, .int .i64 0, .int .i64 0, .int .i64 0, .int .i64 0, .bool false, .int .u8 0, .int .u8 0, .int .u8 0, .int .u8 0, .int .i64 0, .int .u8 0, .int .u8 0, .int .i64 0, .int .i64 0, .int .u8 0, .slice none 0 0] 71)).setRow wr.heap.size x.l.toArray).alloc (.cells #[.int .u8 0, .bool false, .int .u8 0, .int .u8 0, .int .u8 0, .int .u8 0, .int .u8 0, .int .u8 0, .int .u8 0, .int .u8 0, .int .u8 0, .int .i64 0, .int .i64 0, .int .i64 0, .int .i64 0, .bool false, .int .u8 0, .int .u8 0, .int .u8 0, .int .u8 0, .int .i64 0, .int .u8 0, .int .u8 0, .int .i64 0, .int .i64 0, .int .u8 0, .slice none 0 0] 71))).setRow (wr.heap.size + 1) y.l.toArray) := ((Ext.refl _).alloc _ _).setRow (Nat.le_of_eq hs2) _
        have B1' := B1.ext y3
        have e3 := (e1.trans y2).trans y3
        have hone : x.l.toArray.all (·.oneCell') = true := by
          simp only [List.all_toArray, List.all_eq_true]
          exact LD.one _
        have hone2 : y.l.toArray.all (·.oneCell') = true := by
          simp only [List.all_toArray, List.all_eq_true]
          exact LD.one _
        have hzl : x.l.length = 27 := rfl
        have hzl2 : y.l.length = 27 := rfl
        clear hc hd
        generalize x.l = xl at *
        generalize y.l = yl at *
        go_wp2_with (first
          | refine wpList_load_mid rfl 71 (.tmp 20) rfl g (off + j * 27) rfl xl _ R3 Tryz.underlying71 rfl (by kernel_rfl) ?_
          | refine wpList_load_mid rfl 71 (.tmp 24) rfl g2 (off2 + j * 27) rfl yl _ R4 Tryz.underlying71 rfl (by kernel_rfl) ?_
          | ((with_reducible refine wpList_store_blk (op := ⟨none, .store 71 (.tmp 8) (.tmp 21), _, _, _, _⟩) ?_ 71 (.tmp 8) (.tmp 21) ?_ wr.heap.size ?_ (cs := xl.toArray) ?_ (z := #[.int .u8 0, .bool false, .int .u8 0, .int .u8 0, .int .u8 0, .int .u8 0, .int .u8 0, .int .u8 0, .int .u8 0, .int .u8 0, .int .u8 0, .int .i64 0, .int .i64 0, .int .i64 0, .int .i64 0, .bool false, .int .u8 0, .int .u8 0, .int .u8 0, .int .u8 0, .int .i64 0, .int .u8 0, .int .u8 0, .int .i64 0, .int .i64 0, .int .u8 0, .slice none 0 0]) (T := 71) ?_ ?_ ?_ ?_ ?_); rfl; rfl; rfl; rfl; exact Bz1; (rw [List.size_toArray, hzl]; kernel_rfl); exact hone; (simp [hzl]))
          | ((with_reducible refine wpList_store_blk (op := ⟨none, .store 71 (.tmp 9) (.tmp 25), _, _, _, _⟩) ?_ 71 (.tmp 9) (.tmp 25) ?_ _ ?_ (cs := yl.toArray) ?_ (z := #[.int .u8 0, .bool false, .int .u8 0, .int .u8 0, .int .u8 0, .int .u8 0, .int .u8 0, .int .u8 0, .int .u8 0, .int .u8 0, .int .u8 0, .int .i64 0, .int .i64 0, .int .i64 0, .int .i64 0, .bool false, .int .u8 0, .int .u8 0, .int .u8 0, .int .u8 0, .int .i64 0, .int .u8 0, .int .u8 0, .int .i64 0, .int .i64 0, .int .u8 0, .slice none 0 0]) (T := 71) Bz2 ?_ ?_ ?_ ?_); rfl; rfl; rfl; rfl; (rw [List.size_toArray, hzl2]; kernel_rfl); exact hone2; (simp [hzl2]))
          | ((with_reducible refine wpList_load_blk (op := ⟨some 27, _, _, _, _, _⟩) ?_ 71 (.tmp 8) ?_ wr.heap.size ?_ (z := xl.toArray) (T := 71) B1' Tryz.underlying71 ?_ ?_ ?_); rfl; rfl; rfl; rfl; (rw [List.size_toArray, hzl]; kernel_rfl))
          | ((with_reducible refine wpList_load_blk (op := ⟨some 28, _, _, _, _, _⟩) ?_ 71 (.tmp 9) ?_ _ ?_ (z := yl.toArray) (T := 71) B2 Tryz.underlying71 ?_ ?_ ?_); rfl; rfl; rfl; rfl; (rw [List.size_toArray, hzl2]; kernel_rfl))
          | fail)
        refine (hcall _ e3).mono ?_
        rintro e w4 ⟨rfl, x4⟩
        have e4 := e3.trans x4
        by_cases hyz : nrm d1 = nrm d2
        · have hd1 : decide (nrm d1 = nrm d2) = true := by simp [hyz]
          rw [hd1]
          have HYZ := Lib.hid hyz
          clear hyz hd1
          go_wp2
          go_roundg (gk - 1)
          case measure => omega
          case rel => exact ⟨j + 1, by omega, by simp, by rw [List.take_add_one, List.take_add_one, HJ.out, HK.out, HZ.out, HYZ.out], e4⟩
        · have hd1 : decide (nrm d1 = nrm d2) = false := by simp [hyz]
          rw [hd1]
          have hF : decide (D1.map nrm = D2.map nrm) = false := by
            simp only [decide_eq_false_iff_not]
            intro h
            have h1 := HJ.out
            rw [h, HK.out] at h1
            exact hyz (Option.some.inj h1).symm
          have HF := Lib.hid hF
          clear hF hyz hd1
          go_wp2
          go_ret
          exact ⟨by rw [HF.out]; rfl, e4⟩
      · obtain rfl : j = l.length := by omega
        have hT : decide (D1.map nrm = D2.map nrm) = true := by
          have h1 := HZ.out
          rw [List.take_of_length_le (by rw [List.length_map, G1.out]; exact Nat.le_refl _), List.take_of_length_le (by rw [List.length_map, HNE.out, G2.out]; exact Nat.le_refl _)] at h1
          simpa using h1
        have HT := Lib.hid hT
        clear hT
        go_wp2
        go_ret
        exact ⟨by rw [HT.out]; rfl, e1⟩
  · have hF : decide (D1.map nrm = D2.map nrm) = false := by
      simp only [decide_eq_false_iff_not]
      intro h
      exact hne (by have := congrArg List.length h; simp only [List.length_map] at this; rw [G1.out, G2.out, this])
    have hneI : ¬ (l.length : Int) = (m.length : Int) := by omega
    rw [hF]
    go_wp2
    go_ret
    exact ⟨rfl, Ext.refl _⟩
end Go.Proofs.YtbbfmlehddfneaaGreat

