/-
  DERIVED. Layer 11 (script): Same: a draw (made by mkscrsame.py).
-/
import Derived.Test.YtbbfmlehddfneaaGreatPkSame
namespace Go.Proofs.YtbbfmlehddfneaaGreat
open Go.RowKit
set_option linter.unusedVariables false
/-- what counts of a draw -/
def nrm (d : Dr) : Dr := if d.clears then ⟨d.st, true, d.cl, 0, 0, 0, []⟩ else ⟨d.st, false, ⟨0, 0, 0, 0, 0, 0, 0⟩, d.vx, d.fr, d.kind, d.idx⟩
theorem nrm_ok {d : Dr} (h : d.ok) : nrm d = d := by
  obtain ⟨st, cl, c, vx, fr, k, ix⟩ := d
  cases cl
  · obtain ⟨rfl, -, -, -, -⟩ := h.tri rfl
    rfl
  · obtain ⟨h1, h2, h3, h4, -⟩ := h.clear rfl
    simp only at h1 h2 h3 h4
    subst h1 h2 h3 h4
    rfl
set_option maxRecDepth 100000 in
set_option maxHeartbeats 2000000 in
theorem sameDraw_any (w : World) (m m' : DrM) (d e : Dr) (hm : m.is d) (hn : m'.is e) (hA : Arr w .i64 m.ix.v d.idx) (hB : Arr w .i64 m'.ix.v e.idx) (hll : d.idx.length ≤ 1000000) (hlm : e.idx.length ≤ 1000000) : Calls Tryz.prog 39 #[.agg m.l.toArray, .agg m'.l.toArray] w fun f w' => f = .returned (.bool (decide (nrm d = nrm e))) ∧ Ext w w' := by
  obtain ⟨⟨a_dep, a_wr, a_ste, a_ref, a_msk, a_fai, a_hid, a_pas, a_ble, a_cha, a_cul, a_x0, a_y0, a_x1, a_y1⟩, a_clears, ⟨a_r, a_g, a_b, a_a, a_cdep, a_sten, a_want⟩, a_vx, a_fr, a_kind, ⟨a_xa, a_xn, a_xc⟩⟩ := m
  obtain ⟨st, clears', cl, vx', fr', kind', a_idx⟩ := d
  obtain ⟨h1, h2, h3, h4, h5, h6⟩ := hm
  simp only at h1 h2 h3 h4 h5 h6 hA hll
  subst h1 h2 h3 h4 h5 h6
  obtain ⟨⟨b_dep, b_wr, b_ste, b_ref, b_msk, b_fai, b_hid, b_pas, b_ble, b_cha, b_cul, b_x0, b_y0, b_x1, b_y1⟩, b_clears, ⟨b_r, b_g, b_b, b_a, b_cdep, b_sten, b_want⟩, b_vx, b_fr, b_kind, ⟨b_xa, b_xn, b_xc⟩⟩ := m'
  obtain ⟨st, clears', cl, vx', fr', kind', b_idx⟩ := e
  obtain ⟨h1, h2, h3, h4, h5, h6⟩ := hn
  simp only at h1 h2 h3 h4 h5 h6 hB hlm
  subst h1 h2 h3 h4 h5 h6
  have HA := Lib.hid hA
  have HB := Lib.hid hB
  obtain ⟨⟨_, _, e, -⟩, -, -⟩ := hA
  cases e
  obtain ⟨⟨_, _, e, -⟩, -, -⟩ := hB
  cases e
  change Calls Tryz.prog 39 #[.agg #[.int .u8 a_dep, .bool a_wr, .int .u8 a_ste, .int .u8 a_ref, .int .u8 a_msk, .int .u8 a_fai, .int .u8 a_hid, .int .u8 a_pas, .int .u8 a_ble, .int .u8 a_cha, .int .u8 a_cul, .int .i64 a_x0, .int .i64 a_y0, .int .i64 a_x1, .int .i64 a_y1, .bool a_clears, .int .u8 a_r, .int .u8 a_g, .int .u8 a_b, .int .u8 a_a, .int .i64 a_cdep, .int .u8 a_sten, .int .u8 a_want, .int .i64 a_vx, .int .i64 a_fr, .int .u8 a_kind, .slice a_xa a_idx.length a_xc], .agg #[.int .u8 b_dep, .bool b_wr, .int .u8 b_ste, .int .u8 b_ref, .int .u8 b_msk, .int .u8 b_fai, .int .u8 b_hid, .int .u8 b_pas, .int .u8 b_ble, .int .u8 b_cha, .int .u8 b_cul, .int .i64 b_x0, .int .i64 b_y0, .int .i64 b_x1, .int .i64 b_y1, .bool b_clears, .int .u8 b_r, .int .u8 b_g, .int .u8 b_b, .int .u8 b_a, .int .i64 b_cdep, .int .u8 b_sten, .int .u8 b_want, .int .i64 b_vx, .int .i64 b_fr, .int .u8 b_kind, .slice b_xa b_idx.length b_xc]] w _
  have hx1 := ((Ext.refl w).alloc #[.int .u8 a_dep, .bool a_wr, .int .u8 a_ste, .int .u8 a_ref, .int .u8 a_msk, .int .u8 a_fai, .int .u8 a_hid, .int .u8 a_pas, .int .u8 a_ble, .int .u8 a_cha, .int .u8 a_cul, .int .i64 a_x0, .int .i64 a_y0, .int .i64 a_x1, .int .i64 a_y1, .bool a_clears, .int .u8 a_r, .int .u8 a_g, .int .u8 a_b, .int .u8 a_a, .int .i64 a_cdep, .int .u8 a_sten, .int .u8 a_want, .int .i64 a_vx, .int .i64 a_fr, .int .u8 a_kind, .slice a_xa a_idx.length a_xc] 71).alloc #[.int .u8 b_dep, .bool b_wr, .int .u8 b_ste, .int .u8 b_ref, .int .u8 b_msk, .int .u8 b_fai, .int .u8 b_hid, .int .u8 b_pas, .int .u8 b_ble, .int .u8 b_cha, .int .u8 b_cul, .int .i64 b_x0, .int .i64 b_y0, .int .i64 b_x1, .int .i64 b_y1, .bool b_clears, .int .u8 b_r, .int .u8 b_g, .int .u8 b_b, .int .u8 b_a, .int .i64 b_cdep, .int .u8 b_sten, .int .u8 b_want, .int .i64 b_vx, .int .i64 b_fr, .int .u8 b_kind, .slice b_xa b_idx.length b_xc] 71
  have B1 := (Blk.new w #[.int .u8 a_dep, .bool a_wr, .int .u8 a_ste, .int .u8 a_ref, .int .u8 a_msk, .int .u8 a_fai, .int .u8 a_hid, .int .u8 a_pas, .int .u8 a_ble, .int .u8 a_cha, .int .u8 a_cul, .int .i64 a_x0, .int .i64 a_y0, .int .i64 a_x1, .int .i64 a_y1, .bool a_clears, .int .u8 a_r, .int .u8 a_g, .int .u8 a_b, .int .u8 a_a, .int .i64 a_cdep, .int .u8 a_sten, .int .u8 a_want, .int .i64 a_vx, .int .i64 a_fr, .int .u8 a_kind, .slice a_xa a_idx.length a_xc] 71).alloc (.cells #[.int .u8 b_dep, .bool b_wr, .int .u8 b_ste, .int .u8 b_ref, .int .u8 b_msk, .int .u8 b_fai, .int .u8 b_hid, .int .u8 b_pas, .int .u8 b_ble, .int .u8 b_cha, .int .u8 b_cul, .int .i64 b_x0, .int .i64 b_y0, .int .i64 b_x1, .int .i64 b_y1, .bool b_clears, .int .u8 b_r, .int .u8 b_g, .int .u8 b_b, .int .u8 b_a, .int .i64 b_cdep, .int .u8 b_sten, .int .u8 b_want, .int .i64 b_vx, .int .i64 b_fr, .int .u8 b_kind, .slice b_xa b_idx.length b_xc] 71)
  have B2 := Blk.new' (w := w.alloc (.cells #[.int .u8 a_dep, .bool a_wr, .int .u8 a_ste, .int .u8 a_ref, .int .u8 a_msk, .int .u8 a_fai, .int .u8 a_hid, .int .u8 a_pas, .int .u8 a_ble, .int .u8 a_cha, .int .u8 a_cul, .int .i64 a_x0, .int .i64 a_y0, .int .i64 a_x1, .int .i64 a_y1, .bool a_clears, .int .u8 a_r, .int .u8 a_g, .int .u8 a_b, .int .u8 a_a, .int .i64 a_cdep, .int .u8 a_sten, .int .u8 a_want, .int .i64 a_vx, .int .i64 a_fr, .int .u8 a_kind, .slice a_xa a_idx.length a_xc] 71)) (b := w.heap.size + 1) (by simp) #[.int .u8 b_dep, .bool b_wr, .int .u8 b_ste, .int .u8 b_ref, .int .u8 b_msk, .int .u8 b_fai, .int .u8 b_hid, .int .u8 b_pas, .int .u8 b_ble, .int .u8 b_cha, .int .u8 b_cul, .int .i64 b_x0, .int .i64 b_y0, .int .i64 b_x1, .int .i64 b_y1, .bool b_clears, .int .u8 b_r, .int .u8 b_g, .int .u8 b_b, .int .u8 b_a, .int .i64 b_cdep, .int .u8 b_sten, .int .u8 b_want, .int .i64 b_vx, .int .i64 b_fr, .int .u8 b_kind, .slice b_xa b_idx.length b_xc] 71
  have hS := fun u => eqSt2 ⟨a_dep, a_wr, a_ste, a_ref, a_msk, a_fai, a_hid, a_pas, a_ble, a_cha, a_cul, a_x0, a_y0, a_x1, a_y1⟩ ⟨b_dep, b_wr, b_ste, b_ref, b_msk, b_fai, b_hid, b_pas, b_ble, b_cha, b_cul, b_x0, b_y0, b_x1, b_y1⟩ u
  have hC := fun u => eqCl2 ⟨a_r, a_g, a_b, a_a, a_cdep, a_sten, a_want⟩ ⟨b_r, b_g, b_b, b_a, b_cdep, b_sten, b_want⟩ u
  dsimp only [Stt.v, Clr.l] at hS hC
  obtain ⟨c1, hc1⟩ : ∃ c, decide ((⟨a_dep, a_wr, a_ste, a_ref, a_msk, a_fai, a_hid, a_pas, a_ble, a_cha, a_cul, a_x0, a_y0, a_x1, a_y1⟩ : Stt) = ⟨b_dep, b_wr, b_ste, b_ref, b_msk, b_fai, b_hid, b_pas, b_ble, b_cha, b_cul, b_x0, b_y0, b_x1, b_y1⟩) = c := ⟨_, rfl⟩
  obtain ⟨c2, hc2⟩ : ∃ c, decide ((⟨a_r, a_g, a_b, a_a, a_cdep, a_sten, a_want⟩ : Clr) = ⟨b_r, b_g, b_b, b_a, b_cdep, b_sten, b_want⟩) = c := ⟨_, rfl⟩
  rw [hc1] at hS
  rw [hc2] at hC
  have H1 := Lib.hid hc1
  have H2 := Lib.hid hc2
  clear hc1 hc2
  go_enter Tryz.func39, Tryz.ntmps39
  go_upto_region 1 with fail
  generalize (w.alloc (.cells #[.int .u8 a_dep, .bool a_wr, .int .u8 a_ste, .int .u8 a_ref, .int .u8 a_msk, .int .u8 a_fai, .int .u8 a_hid, .int .u8 a_pas, .int .u8 a_ble, .int .u8 a_cha, .int .u8 a_cul, .int .i64 a_x0, .int .i64 a_y0, .int .i64 a_x1, .int .i64 a_y1, .bool a_clears, .int .u8 a_r, .int .u8 a_g, .int .u8 a_b, .int .u8 a_a, .int .i64 a_cdep, .int .u8 a_sten, .int .u8 a_want, .int .i64 a_vx, .int .i64 a_fr, .int .u8 a_kind, .slice a_xa a_idx.length a_xc] 71)).alloc (.cells #[.int .u8 b_dep, .bool b_wr, .int .u8 b_ste, .int .u8 b_ref, .int .u8 b_msk, .int .u8 b_fai, .int .u8 b_hid, .int .u8 b_pas, .int .u8 b_ble, .int .u8 b_cha, .int .u8 b_cul, .int .i64 b_x0, .int .i64 b_y0, .int .i64 b_x1, .int .i64 b_y1, .bool b_clears, .int .u8 b_r, .int .u8 b_g, .int .u8 b_b, .int .u8 b_a, .int .i64 b_cdep, .int .u8 b_sten, .int .u8 b_want, .int .i64 b_vx, .int .i64 b_fr, .int .u8 b_kind, .slice b_xa b_idx.length b_xc] 71) = w1 at *
  generalize hb0 : w.heap.size = b0 at *
  have R1 := B1.mid 0 [.int .u8 a_dep, .bool a_wr, .int .u8 a_ste, .int .u8 a_ref, .int .u8 a_msk, .int .u8 a_fai, .int .u8 a_hid, .int .u8 a_pas, .int .u8 a_ble, .int .u8 a_cha, .int .u8 a_cul, .int .i64 a_x0, .int .i64 a_y0, .int .i64 a_x1, .int .i64 a_y1] rfl
  have R2 := B2.mid 0 [.int .u8 b_dep, .bool b_wr, .int .u8 b_ste, .int .u8 b_ref, .int .u8 b_msk, .int .u8 b_fai, .int .u8 b_hid, .int .u8 b_pas, .int .u8 b_ble, .int .u8 b_cha, .int .u8 b_cul, .int .i64 b_x0, .int .i64 b_y0, .int .i64 b_x1, .int .i64 b_y1] rfl
  have R3 := B1.mid 16 [.int .u8 a_r, .int .u8 a_g, .int .u8 a_b, .int .u8 a_a, .int .i64 a_cdep, .int .u8 a_sten, .int .u8 a_want] rfl
  have R4 := B2.mid 16 [.int .u8 b_r, .int .u8 b_g, .int .u8 b_b, .int .u8 b_a, .int .i64 b_cdep, .int .u8 b_sten, .int .u8 b_want] rfl
  have cB1 := B1.cell
  have cB2 := B2.cell
  cases c1
  · have hF : decide (nrm ⟨⟨a_dep, a_wr, a_ste, a_ref, a_msk, a_fai, a_hid, a_pas, a_ble, a_cha, a_cul, a_x0, a_y0, a_x1, a_y1⟩, a_clears, ⟨a_r, a_g, a_b, a_a, a_cdep, a_sten, a_want⟩, a_vx, a_fr, a_kind, a_idx⟩ = nrm ⟨⟨b_dep, b_wr, b_ste, b_ref, b_msk, b_fai, b_hid, b_pas, b_ble, b_cha, b_cul, b_x0, b_y0, b_x1, b_y1⟩, b_clears, ⟨b_r, b_g, b_b, b_a, b_cdep, b_sten, b_want⟩, b_vx, b_fr, b_kind, b_idx⟩) = false := by
      rw [decide_eq_false_iff_not]
      intro h
      have h0 := of_decide_eq_false H1.out
      apply h0
      have h1 := congrArg Dr.st h
      unfold nrm at h1
      cases a_clears <;> cases b_clears <;> exact h1
    have HF := Lib.hid hF
    clear hF
    go_wp2_with (first
      | refine wpList_load_mid rfl 64 (.tmp 5) rfl b0 0 rfl [.int .u8 a_dep, .bool a_wr, .int .u8 a_ste, .int .u8 a_ref, .int .u8 a_msk, .int .u8 a_fai, .int .u8 a_hid, .int .u8 a_pas, .int .u8 a_ble, .int .u8 a_cha, .int .u8 a_cul, .int .i64 a_x0, .int .i64 a_y0, .int .i64 a_x1, .int .i64 a_y1] _ R1 Tryz.underlying64 rfl (by kernel_rfl) ?_
      | refine wpList_load_mid rfl 64 (.tmp 7) rfl (b0 + 1) 0 rfl [.int .u8 b_dep, .bool b_wr, .int .u8 b_ste, .int .u8 b_ref, .int .u8 b_msk, .int .u8 b_fai, .int .u8 b_hid, .int .u8 b_pas, .int .u8 b_ble, .int .u8 b_cha, .int .u8 b_cul, .int .i64 b_x0, .int .i64 b_y0, .int .i64 b_x1, .int .i64 b_y1] _ R2 Tryz.underlying64 rfl (by kernel_rfl) ?_
      | fail)
    go_ret
    exact ⟨by rw [HF.out]; rfl, hx1⟩
  · have hst := of_decide_eq_true H1.out
    have HST := Lib.hid hst
    clear hst
    cases a_clears <;> cases b_clears
    · -- triangles both
      have hI := fun u (hu : Ext w u) => eqInts_any u _ _ a_idx b_idx (HA.out.ext hu) (HB.out.ext hu) hll hlm
      obtain ⟨c3, hc3⟩ : ∃ c, decide (a_idx = b_idx) = c := ⟨_, rfl⟩
      rw [hc3] at hI
      have H3 := Lib.hid hc3
      clear hc3
      have key : decide (nrm ⟨⟨a_dep, a_wr, a_ste, a_ref, a_msk, a_fai, a_hid, a_pas, a_ble, a_cha, a_cul, a_x0, a_y0, a_x1, a_y1⟩, false, ⟨a_r, a_g, a_b, a_a, a_cdep, a_sten, a_want⟩, a_vx, a_fr, a_kind, a_idx⟩ = nrm ⟨⟨b_dep, b_wr, b_ste, b_ref, b_msk, b_fai, b_hid, b_pas, b_ble, b_cha, b_cul, b_x0, b_y0, b_x1, b_y1⟩, false, ⟨b_r, b_g, b_b, b_a, b_cdep, b_sten, b_want⟩, b_vx, b_fr, b_kind, b_idx⟩) = (decide (a_kind = b_kind) && (decide (a_vx = b_vx) && (decide (a_fr = b_fr) && c3))) := by
        rw [← H3.out, Bool.eq_iff_iff]
        simp only [Bool.and_eq_true, decide_eq_true_eq]
        unfold nrm
        simp only [Bool.false_eq_true, if_false]
        rw [HST.out]
        constructor
        · intro h
          injection h with _ _ _ e1 e2 e3 e4
          exact ⟨e3, e1, e2, e4⟩
        · rintro ⟨rfl, rfl, rfl, rfl⟩
          rfl
      have HK := Lib.hid key
      clear key
      by_cases k1 : a_kind = b_kind
      · by_cases k2 : a_vx = b_vx
        · by_cases k3 : a_fr = b_fr
          · subst k1 k2 k3
            go_wp2_with (first
              | refine wpList_load_mid rfl 64 (.tmp 5) rfl b0 0 rfl [.int .u8 a_dep, .bool a_wr, .int .u8 a_ste, .int .u8 a_ref, .int .u8 a_msk, .int .u8 a_fai, .int .u8 a_hid, .int .u8 a_pas, .int .u8 a_ble, .int .u8 a_cha, .int .u8 a_cul, .int .i64 a_x0, .int .i64 a_y0, .int .i64 a_x1, .int .i64 a_y1] _ R1 Tryz.underlying64 rfl (by kernel_rfl) ?_
              | refine wpList_load_mid rfl 64 (.tmp 7) rfl (b0 + 1) 0 rfl [.int .u8 b_dep, .bool b_wr, .int .u8 b_ste, .int .u8 b_ref, .int .u8 b_msk, .int .u8 b_fai, .int .u8 b_hid, .int .u8 b_pas, .int .u8 b_ble, .int .u8 b_cha, .int .u8 b_cul, .int .i64 b_x0, .int .i64 b_y0, .int .i64 b_x1, .int .i64 b_y1] _ R2 Tryz.underlying64 rfl (by kernel_rfl) ?_
              | fail)
            refine (hI _ hx1).mono ?_
            rintro e w4 ⟨rfl, x4⟩
            go_wp2
            go_ret
            exact ⟨by rw [HK.out]; simp, hx1.trans x4⟩
          · subst k1 k2
            go_wp2_with (first
              | refine wpList_load_mid rfl 64 (.tmp 5) rfl b0 0 rfl [.int .u8 a_dep, .bool a_wr, .int .u8 a_ste, .int .u8 a_ref, .int .u8 a_msk, .int .u8 a_fai, .int .u8 a_hid, .int .u8 a_pas, .int .u8 a_ble, .int .u8 a_cha, .int .u8 a_cul, .int .i64 a_x0, .int .i64 a_y0, .int .i64 a_x1, .int .i64 a_y1] _ R1 Tryz.underlying64 rfl (by kernel_rfl) ?_
              | refine wpList_load_mid rfl 64 (.tmp 7) rfl (b0 + 1) 0 rfl [.int .u8 b_dep, .bool b_wr, .int .u8 b_ste, .int .u8 b_ref, .int .u8 b_msk, .int .u8 b_fai, .int .u8 b_hid, .int .u8 b_pas, .int .u8 b_ble, .int .u8 b_cha, .int .u8 b_cul, .int .i64 b_x0, .int .i64 b_y0, .int .i64 b_x1, .int .i64 b_y1] _ R2 Tryz.underlying64 rfl (by kernel_rfl) ?_
              | fail)
            go_ret
            exact ⟨by rw [HK.out]; simp [k3], hx1⟩
        · subst k1
          go_wp2_with (first
            | refine wpList_load_mid rfl 64 (.tmp 5) rfl b0 0 rfl [.int .u8 a_dep, .bool a_wr, .int .u8 a_ste, .int .u8 a_ref, .int .u8 a_msk, .int .u8 a_fai, .int .u8 a_hid, .int .u8 a_pas, .int .u8 a_ble, .int .u8 a_cha, .int .u8 a_cul, .int .i64 a_x0, .int .i64 a_y0, .int .i64 a_x1, .int .i64 a_y1] _ R1 Tryz.underlying64 rfl (by kernel_rfl) ?_
            | refine wpList_load_mid rfl 64 (.tmp 7) rfl (b0 + 1) 0 rfl [.int .u8 b_dep, .bool b_wr, .int .u8 b_ste, .int .u8 b_ref, .int .u8 b_msk, .int .u8 b_fai, .int .u8 b_hid, .int .u8 b_pas, .int .u8 b_ble, .int .u8 b_cha, .int .u8 b_cul, .int .i64 b_x0, .int .i64 b_y0, .int .i64 b_x1, .int .i64 b_y1] _ R2 Tryz.underlying64 rfl (by kernel_rfl) ?_
            | fail)
          go_ret
          exact ⟨by rw [HK.out]; simp [k2], hx1⟩
      · go_wp2_with (first
          | refine wpList_load_mid rfl 64 (.tmp 5) rfl b0 0 rfl [.int .u8 a_dep, .bool a_wr, .int .u8 a_ste, .int .u8 a_ref, .int .u8 a_msk, .int .u8 a_fai, .int .u8 a_hid, .int .u8 a_pas, .int .u8 a_ble, .int .u8 a_cha, .int .u8 a_cul, .int .i64 a_x0, .int .i64 a_y0, .int .i64 a_x1, .int .i64 a_y1] _ R1 Tryz.underlying64 rfl (by kernel_rfl) ?_
          | refine wpList_load_mid rfl 64 (.tmp 7) rfl (b0 + 1) 0 rfl [.int .u8 b_dep, .bool b_wr, .int .u8 b_ste, .int .u8 b_ref, .int .u8 b_msk, .int .u8 b_fai, .int .u8 b_hid, .int .u8 b_pas, .int .u8 b_ble, .int .u8 b_cha, .int .u8 b_cul, .int .i64 b_x0, .int .i64 b_y0, .int .i64 b_x1, .int .i64 b_y1] _ R2 Tryz.underlying64 rfl (by kernel_rfl) ?_
          | fail)
        go_ret
        exact ⟨by rw [HK.out]; simp [k1], hx1⟩
    · have hF : decide (nrm ⟨⟨a_dep, a_wr, a_ste, a_ref, a_msk, a_fai, a_hid, a_pas, a_ble, a_cha, a_cul, a_x0, a_y0, a_x1, a_y1⟩, false, ⟨a_r, a_g, a_b, a_a, a_cdep, a_sten, a_want⟩, a_vx, a_fr, a_kind, a_idx⟩ = nrm ⟨⟨b_dep, b_wr, b_ste, b_ref, b_msk, b_fai, b_hid, b_pas, b_ble, b_cha, b_cul, b_x0, b_y0, b_x1, b_y1⟩, true, ⟨b_r, b_g, b_b, b_a, b_cdep, b_sten, b_want⟩, b_vx, b_fr, b_kind, b_idx⟩) = false := by
        rw [decide_eq_false_iff_not]
        intro h
        have h1 := congrArg Dr.clears h
        simp [nrm] at h1
      have HF := Lib.hid hF
      clear hF
      go_wp2_with (first
        | refine wpList_load_mid rfl 64 (.tmp 5) rfl b0 0 rfl [.int .u8 a_dep, .bool a_wr, .int .u8 a_ste, .int .u8 a_ref, .int .u8 a_msk, .int .u8 a_fai, .int .u8 a_hid, .int .u8 a_pas, .int .u8 a_ble, .int .u8 a_cha, .int .u8 a_cul, .int .i64 a_x0, .int .i64 a_y0, .int .i64 a_x1, .int .i64 a_y1] _ R1 Tryz.underlying64 rfl (by kernel_rfl) ?_
        | refine wpList_load_mid rfl 64 (.tmp 7) rfl (b0 + 1) 0 rfl [.int .u8 b_dep, .bool b_wr, .int .u8 b_ste, .int .u8 b_ref, .int .u8 b_msk, .int .u8 b_fai, .int .u8 b_hid, .int .u8 b_pas, .int .u8 b_ble, .int .u8 b_cha, .int .u8 b_cul, .int .i64 b_x0, .int .i64 b_y0, .int .i64 b_x1, .int .i64 b_y1] _ R2 Tryz.underlying64 rfl (by kernel_rfl) ?_
        | fail)
      go_ret
      exact ⟨by rw [HF.out]; rfl, hx1⟩
    · have hF : decide (nrm ⟨⟨a_dep, a_wr, a_ste, a_ref, a_msk, a_fai, a_hid, a_pas, a_ble, a_cha, a_cul, a_x0, a_y0, a_x1, a_y1⟩, true, ⟨a_r, a_g, a_b, a_a, a_cdep, a_sten, a_want⟩, a_vx, a_fr, a_kind, a_idx⟩ = nrm ⟨⟨b_dep, b_wr, b_ste, b_ref, b_msk, b_fai, b_hid, b_pas, b_ble, b_cha, b_cul, b_x0, b_y0, b_x1, b_y1⟩, false, ⟨b_r, b_g, b_b, b_a, b_cdep, b_sten, b_want⟩, b_vx, b_fr, b_kind, b_idx⟩) = false := by
        rw [decide_eq_false_iff_not]
        intro h
        have h1 := congrArg Dr.clears h
        simp [nrm] at h1
      have HF := Lib.hid hF
      clear hF
      go_wp2_with (first
        | refine wpList_load_mid rfl 64 (.tmp 5) rfl b0 0 rfl [.int .u8 a_dep, .bool a_wr, .int .u8 a_ste, .int .u8 a_ref, .int .u8 a_msk, .int .u8 a_fai, .int .u8 a_hid, .int .u8 a_pas, .int .u8 a_ble, .int .u8 a_cha, .int .u8 a_cul, .int .i64 a_x0, .int .i64 a_y0, .int .i64 a_x1, .int .i64 a_y1] _ R1 Tryz.underlying64 rfl (by kernel_rfl) ?_
        | refine wpList_load_mid rfl 64 (.tmp 7) rfl (b0 + 1) 0 rfl [.int .u8 b_dep, .bool b_wr, .int .u8 b_ste, .int .u8 b_ref, .int .u8 b_msk, .int .u8 b_fai, .int .u8 b_hid, .int .u8 b_pas, .int .u8 b_ble, .int .u8 b_cha, .int .u8 b_cul, .int .i64 b_x0, .int .i64 b_y0, .int .i64 b_x1, .int .i64 b_y1] _ R2 Tryz.underlying64 rfl (by kernel_rfl) ?_
        | fail)
      go_ret
      exact ⟨by rw [HF.out]; rfl, hx1⟩
    · have hF : decide (nrm ⟨⟨a_dep, a_wr, a_ste, a_ref, a_msk, a_fai, a_hid, a_pas, a_ble, a_cha, a_cul, a_x0, a_y0, a_x1, a_y1⟩, true, ⟨a_r, a_g, a_b, a_a, a_cdep, a_sten, a_want⟩, a_vx, a_fr, a_kind, a_idx⟩ = nrm ⟨⟨b_dep, b_wr, b_ste, b_ref, b_msk, b_fai, b_hid, b_pas, b_ble, b_cha, b_cul, b_x0, b_y0, b_x1, b_y1⟩, true, ⟨b_r, b_g, b_b, b_a, b_cdep, b_sten, b_want⟩, b_vx, b_fr, b_kind, b_idx⟩) = c2 := by
        rw [← H2.out, Bool.eq_iff_iff]
        simp only [decide_eq_true_eq]
        unfold nrm
        simp only [if_true]
        rw [HST.out]
        constructor
        · intro h
          injection h
        · intro h
          rw [h]
      have HF := Lib.hid hF
      clear hF
      go_wp2_with (first
        | refine wpList_load_mid rfl 64 (.tmp 5) rfl b0 0 rfl [.int .u8 a_dep, .bool a_wr, .int .u8 a_ste, .int .u8 a_ref, .int .u8 a_msk, .int .u8 a_fai, .int .u8 a_hid, .int .u8 a_pas, .int .u8 a_ble, .int .u8 a_cha, .int .u8 a_cul, .int .i64 a_x0, .int .i64 a_y0, .int .i64 a_x1, .int .i64 a_y1] _ R1 Tryz.underlying64 rfl (by kernel_rfl) ?_
        | refine wpList_load_mid rfl 64 (.tmp 7) rfl (b0 + 1) 0 rfl [.int .u8 b_dep, .bool b_wr, .int .u8 b_ste, .int .u8 b_ref, .int .u8 b_msk, .int .u8 b_fai, .int .u8 b_hid, .int .u8 b_pas, .int .u8 b_ble, .int .u8 b_cha, .int .u8 b_cul, .int .i64 b_x0, .int .i64 b_y0, .int .i64 b_x1, .int .i64 b_y1] _ R2 Tryz.underlying64 rfl (by kernel_rfl) ?_
        | refine wpList_load_mid rfl 67 (.tmp 19) rfl b0 16 rfl [.int .u8 a_r, .int .u8 a_g, .int .u8 a_b, .int .u8 a_a, .int .i64 a_cdep, .int .u8 a_sten, .int .u8 a_want] _ R3 Tryz.underlying67 rfl (by kernel_rfl) ?_
        | refine wpList_load_mid rfl 67 (.tmp 21) rfl (b0 + 1) 16 rfl [.int .u8 b_r, .int .u8 b_g, .int .u8 b_b, .int .u8 b_a, .int .i64 b_cdep, .int .u8 b_sten, .int .u8 b_want] _ R4 Tryz.underlying67 rfl (by kernel_rfl) ?_
        | fail)
      go_ret
      exact ⟨by rw [HF.out]; rfl, hx1⟩
end Go.Proofs.YtbbfmlehddfneaaGreat

