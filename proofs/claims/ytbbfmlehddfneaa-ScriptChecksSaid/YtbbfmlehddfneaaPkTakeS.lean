/-
  DERIVED. Layer 11 (script): Take (made by mkscrtake.py). · Layer 11's law, in plain numbers: the script by small numbers may be, can be read, and has few bytes. · Layer 11 (script): the law's Awake (made by mkscraw.py).
-/
import Derived.Test.YtbbfmlehddfneaaPkReadB
import Derived.Test.YtbbfmlehddfneaaPkWire
import Derived.Test.YtbbfmlehddfneaaPkPut
namespace Go.Proofs.Ytbbfmlehddfneaa
open Go.RowKit
set_option linter.unusedVariables false
theorem results_blk2 {P : Program} {w : World} {fn : Func} {t t2 : Tmp} {ty : TypeId} (h : fn.results = #[.cell t ty, .tmp t2]) {tmps : Array Value} {b : Nat} {u : Value} (ht : tmps.getD t undef = .pointer (some ⟨b, 0, none⟩)) (hu2 : tmps.getD t2 undef = u) {z : Array Value} {T : TypeId} (hB : Blk w b z T)
    {d : TypeDesc} (hu : P.underlying ty = some d) (hd : d.isRow = true) (hi : (P.info? ty).map (·.size) = some z.size) : (results fn tmps).run P w = .ok (.tuple #[.agg z, u]) w := by
  have hl := run_loadVar_mid (P := P) w b 0 ty z.toList d hB.range hu hd (by simpa using hi)
  have ht' : tmps[t]?.getD undef = .pointer (some ⟨b, 0, none⟩) := by simpa using ht
  have hu' : tmps[t2]?.getD undef = u := by simpa using hu2
  simp [results, h, ht', hu', asAddr, hl]
theorem ScrAt.mono {w : World} {lo lo' : Nat} {s : ScrM} {x : Scr} (h : ScrAt w lo s x) (hl : lo' ≤ lo) : ScrAt w lo' s x := by
  obtain ⟨a, b, c, h1, l2, h2, l3, h3, l4, k1, k2, k3, k4, n1, n2, n3, n4, n5, n6, n6', n7⟩ := h
  exact ⟨a, b, c, h1, l2, h2, l3, h3, l4, ⟨k1.1.mono hl, k1.2⟩, k2, k3, k4, by omega, n2, n3, n4, n5, n6, n6', n7⟩
theorem Scr.rd0.wf {x : Scr} (h : x.rd0) : ∀ d ∈ x.draws, ∀ y ∈ d.idx, (Lit.int .i64 y).wf = true := fun d hd y hy => by
  have := (h.dd d hd).big.2.2 y hy
  exact wf64 (by unfold I64; omega)
theorem Scr.rd.ok {x : Scr} (h : x.rd) : x.ok := ⟨h.r0.W, h.r0.H, h.r0.fit.m16, fun d hd => (h.r0.dd d hd).ok⟩
theorem pf_R {x y : Scr} {r s : List Int} (hx : x.rd) (hy : y.rd) (h : encR x ++ r = encR y ++ s) : x = y ∧ r = s :=
  pf_s x y r s hx.ok hy.ok (by rw [encS_R, encS_R]; simp [h])
instance : Inhabited Scr := ⟨⟨0, 0, [], [], [], [], []⟩⟩
theorem ScrAt.low {w w' : World} {lo : Nat} {s : ScrM} {x : Scr} {O : List Nat} (h : ScrAt w lo s x) (c : Calm O w w') (hO : ∀ b ∈ O, b < lo) : ScrAt w' lo s x := by
  obtain ⟨a, b, c', h1, l2, h2, l3, h3, l4, k1, k2, k3, k4, n1, n2, n3, n4, n5, n6, n6', n7⟩ := h
  have hs := c.size
  have hl4 : lo ≤ l4 := by omega
  exact ⟨a, b, c', h1, l2, h2, l3, h3, l4, k1.calm c (fun g hg => .inl (hO g hg)), k2.calm c (fun g hg => .inl (by have := hO g hg; omega)), k3.calm c (fun g hg => .inl (by have := hO g hg; omega)), k4.calm c (fun g hg => .inl (by have := hO g hg; omega)), n1, n2, n3, n4, n5, n6, n6', by omega⟩
def ScrM.nul : ScrM := ⟨0, 0, [0, 0, 0, 0, 0, 0, 0, 0, 0, 0, 0, 0, 0, 0, 0, 0], SlV.nil, SlV.nil, SlV.nil, SlV.nil⟩
/-- what the end of the reading and Check say, against what was read -/
theorem take_yes {b l : List Int} {x : Scr} {k err : Int} {k' : Nat} (h2 : b.take 2 = [65, 90]) (hl : l = b.drop 2) (hr : Rd encR Scr.rd l 0 0 x k' err) (he : firstE [if err = 0 ∧ k' < l.length then 15 else err, chkS x] = 0) : x.rd ∧ chkS x = 0 ∧ b = encS x := by
  have h0 := firstE_zero.1 he
  have a := h0 _ (List.mem_cons_self ..)
  have c := h0 (chkS x) (by simp)
  have herr : err = 0 := by
    split at a
    · cases a
    · exact a
  subst herr
  have hk : ¬ k' < l.length := fun h => by simp [h] at a
  obtain ⟨-, hp, hd⟩ := hr.ok
  rw [List.drop_zero, List.drop_eq_nil_of_le (Nat.le_of_not_lt hk), List.append_nil] at hd
  refine ⟨hp, c, ?_⟩
  rw [encS_R, ← hd, hl]
  have := List.take_append_drop 2 b
  rw [h2] at this
  exact this.symm
theorem take_no {b l : List Int} {x : Scr} {err : Int} {k' : Nat} (hl : l = b.drop 2) (hr : Rd encR Scr.rd l 0 0 x k' err) (he : firstE [if err = 0 ∧ k' < l.length then 15 else err, chkS x] ≠ 0) : ∀ y : Scr, y.rd → chkS y = 0 → b ≠ encS y := by
  intro y hy hc hb
  have hl2 : l = encR y := by rw [hl, hb, encS_R]; rfl
  rcases hr with ⟨-, rfl, hx, hd⟩ | ⟨h1, h2⟩
  · rw [List.drop_zero, hl2] at hd
    obtain ⟨rfl, hk⟩ := pf_R (r := []) hy hx (by simpa using hd)
    refine he (firstE_zero.2 fun e hm => ?_)
    have hk2 : l.length ≤ k' := by
      rw [← hl2] at hk
      exact List.drop_eq_nil_iff.1 hk.symm
    simp only [List.mem_cons, List.not_mem_nil, or_false] at hm
    rcases hm with rfl | rfl
    · rw [if_neg (by omega)]
    · exact hc
  · rcases h2 with h2 | h2
    · exact h2 rfl
    · exact h2 y [] hy (by rw [List.drop_zero, List.append_nil]; exact hl2)
set_option maxRecDepth 100000 in
set_option maxHeartbeats 4000000 in
theorem take11_any (w : World) (v : Value) (b : List Int) (hA : Arr w .u8 v b) (hb : b.length ≤ 100000) : Calls Try.prog 10 #[v] w fun e w' => ∃ (s : ScrM) (x : Scr) (err : Int), e = .returned (.tuple #[.agg s.l.toArray, .int .i64 err]) ∧ Ext w w' ∧ ((err = 0 ∧ ScrAt w' w.heap.size s x ∧ x.rd ∧ chkS x = 0 ∧ b = encS x ∧ b.length ≤ 20000) ∨ (err ≠ 0 ∧ s = ScrM.nul ∧ (20000 < b.length ∨ ∀ y : Scr, y.rd → chkS y = 0 → b ≠ encS y))) := by
  have hbI : (b.length : Int) ≤ 100000 := by omega
  have x1 := (Ext.refl w).alloc #[.int .i64 0, .int .i64 0, .int .i64 0, .int .i64 0, .int .i64 0, .int .i64 0, .int .i64 0, .int .i64 0, .int .i64 0, .int .i64 0, .int .i64 0, .int .i64 0, .int .i64 0, .int .i64 0, .int .i64 0, .int .i64 0, .int .i64 0, .int .i64 0, .slice none 0 0, .slice none 0 0, .slice none 0 0, .slice none 0 0] 42
  have B1 := Blk.new w #[.int .i64 0, .int .i64 0, .int .i64 0, .int .i64 0, .int .i64 0, .int .i64 0, .int .i64 0, .int .i64 0, .int .i64 0, .int .i64 0, .int .i64 0, .int .i64 0, .int .i64 0, .int .i64 0, .int .i64 0, .int .i64 0, .int .i64 0, .int .i64 0, .slice none 0 0, .slice none 0 0, .slice none 0 0, .slice none 0 0] 42
  have A1 := hA.ext x1
  obtain ⟨⟨ao, cc, rfl, -⟩, -, -⟩ := hA
  go_enter Try.func10, Try.ntmps10
  go_upto_region 1 with fail
  generalize w.alloc (.cells #[.int .i64 0, .int .i64 0, .int .i64 0, .int .i64 0, .int .i64 0, .int .i64 0, .int .i64 0, .int .i64 0, .int .i64 0, .int .i64 0, .int .i64 0, .int .i64 0, .int .i64 0, .int .i64 0, .int .i64 0, .int .i64 0, .int .i64 0, .int .i64 0, .slice none 0 0, .slice none 0 0, .slice none 0 0, .slice none 0 0] 42) = w1 at *
  generalize hb0 : w.heap.size = b0 at *
  have hb1 := B1.lt
  by_cases hlen : 20000 < b.length
  · have hlenI : (20000 : Int) < (b.length : Int) := by omega
    have K := B1
    have eK := x1.setRow (g := b0) (by omega) #[.int .i64 0, .int .i64 0, .int .i64 0, .int .i64 0, .int .i64 0, .int .i64 0, .int .i64 0, .int .i64 0, .int .i64 0, .int .i64 0, .int .i64 0, .int .i64 0, .int .i64 0, .int .i64 0, .int .i64 0, .int .i64 0, .int .i64 0, .int .i64 0, .slice none 0 0, .slice none 0 0, .slice none 0 0, .slice none 0 0]
    have HL := Lib.hid hlen
    clear hlen
    go_wp2_with (first
      | ((with_reducible refine wpList_store_blk (op := ⟨none, .store 42 (.tmp 2) (.tmp 12), _, _, _, _⟩) ?_ 42 (.tmp 2) (.tmp 12) ?_ b0 ?_ (cs := #[.int .i64 0, .int .i64 0, .int .i64 0, .int .i64 0, .int .i64 0, .int .i64 0, .int .i64 0, .int .i64 0, .int .i64 0, .int .i64 0, .int .i64 0, .int .i64 0, .int .i64 0, .int .i64 0, .int .i64 0, .int .i64 0, .int .i64 0, .int .i64 0, .slice none 0 0, .slice none 0 0, .slice none 0 0, .slice none 0 0]) ?_ (z := #[.int .i64 0, .int .i64 0, .int .i64 0, .int .i64 0, .int .i64 0, .int .i64 0, .int .i64 0, .int .i64 0, .int .i64 0, .int .i64 0, .int .i64 0, .int .i64 0, .int .i64 0, .int .i64 0, .int .i64 0, .int .i64 0, .int .i64 0, .int .i64 0, .slice none 0 0, .slice none 0 0, .slice none 0 0, .slice none 0 0]) (T := 42) ?_ ?_ ?_ ?_ ?_); rfl; rfl; rfl; rfl; exact K; kernel_rfl; kernel_rfl; kernel_rfl)
      | fail)
    refine bodyPost_ret (v := .tuple #[.agg #[.int .i64 0, .int .i64 0, .int .i64 0, .int .i64 0, .int .i64 0, .int .i64 0, .int .i64 0, .int .i64 0, .int .i64 0, .int .i64 0, .int .i64 0, .int .i64 0, .int .i64 0, .int .i64 0, .int .i64 0, .int .i64 0, .int .i64 0, .int .i64 0, .slice none 0 0, .slice none 0 0, .slice none 0 0, .slice none 0 0], .int .i64 6]) (results_blk2 (b := b0) (t := 2) (ty := 42) (t2 := 3) rfl rfl rfl (K.setRow _) Try.underlying42 rfl (by kernel_rfl)) rfl ?_
    exact ⟨ScrM.nul, default, 6, rfl, eK, .inr ⟨by decide, rfl, .inl HL.out⟩⟩
  · have hlenI : ¬ (20000 : Int) < (b.length : Int) := by omega
    have HL := Lib.hid hlen
    clear hlen
    have hcv := Lib.run_convert_bytes_const (P := Try.prog) w1 29 5 #[.int .u8 65, .int .u8 90] 2 2 Try.underlying29 Try.underlying5
    simp only [List.size_toArray, List.length_cons, List.length_nil, Nat.zero_add, Nat.reduceAdd] at hcv
    have C1 := az_arr w1
    have y1 : Ext w1 (w1.alloc (.cells #[.int .u8 65, .int .u8 90] 5 (2, 3))) := ⟨(Ext.refl w1).bel.alloc (Nat.le_refl _) _⟩
    have A2 := A1.ext y1
    have B2 := B1.ext y1
    have x2 := x1.trans y1
    go_wp2_with fail
    refine (cutPrefix_any _ _ _ b [65, 90] A2 C1 (by omega) (by simp) (by simp)).mono ?_
    rintro e w3 ⟨y3, u, hu⟩
    have K := B2.ext y3
    have x3 := x2.trans y3
    clear A1 A2 B1 B2 C1 hcv y1 y3 x1 x2
    rcases hu with ⟨h2, rfl, AU⟩ | ⟨h2, rfl⟩
    · have H2 := Lib.hid h2
      clear h2
      simp only [List.length_cons, List.length_nil, Nat.zero_add, Nat.reduceAdd] at AU H2
      have hdl : (b.drop 2).length < 1000000 := by simp; omega
      obtain ⟨l, hl⟩ : ∃ l, l = b.drop 2 := ⟨_, rfl⟩
      rw [← hl] at AU hdl
      have HLD := Lib.hid hl
      clear hl
      go_wp2_with fail
      refine (rd_read _ _ l AU hdl).mono ?_
      rintro e w4 ⟨p, F, rfl, R4, y4⟩
      have x4 := x3.trans y4
      have K4 := K.ext y4
      have hFb : ∀ g ∈ F, w.heap.size ≤ g := fun g hg => Nat.le_trans x3.size (R4.lt g hg).1
      have hn4 : b0 ∉ F := fun hg => by have := (R4.lt _ hg).1; have := K.lt; omega
      clear K AU y4 x3
      go_wp2_with fail
      refine (decoded_any _ _ _ _ _ _ _ R4).mono ?_
      rintro e w5 ⟨s, x, k5, e5, rfl, S5, hr0, R5, c5, hrd⟩
      have K4lt := K4.lt
      have K5 := K4.calm c5 hn4
      have x5 : Ext w w5 := Ext.calm_trans x4 c5 hFb
      have hz5 := x4.size
      clear R4 K4 x4 c5
      have HRD := Lib.hid hrd
      have HR0 := Lib.hid hr0
      have S5' := S5
      have hb04 : b0 < w4.heap.size := K4lt
      have sm := S5.m
      have SR := S5.rd hr0.wf
      clear hrd hr0 S5
      have hm16 : s.m.length = 16 := by rw [sm]; exact HR0.out.fit.m16
      clear sm
      have hC := fun u (hu : Ext w5 u) => checkS_any s x u (SR.ext hu) HR0.out.fit
      obtain ⟨W, H, m, ⟨va, vn, vc⟩, ⟨sa, sn, sc⟩, ⟨pa, pn, pc⟩, ⟨da, dn, dc⟩⟩ := s
      obtain ⟨m0, m1, m2, m3, m4, m5, m6, m7, m8, m9, m10, m11, m12, m13, m14, m15, rfl⟩ := sixteen m hm16
      clear hm16 SR
      change ∀ u, Ext w5 u → Calls Try.prog 11 #[.agg #[.int .i64 W, .int .i64 H, .int .i64 m0, .int .i64 m1, .int .i64 m2, .int .i64 m3, .int .i64 m4, .int .i64 m5, .int .i64 m6, .int .i64 m7, .int .i64 m8, .int .i64 m9, .int .i64 m10, .int .i64 m11, .int .i64 m12, .int .i64 m13, .int .i64 m14, .int .i64 m15, .slice va vn vc, .slice sa sn sc, .slice pa pn pc, .slice da dn dc]] u _ at hC
      have Bz := Blk.new w5 #[.int .i64 0, .int .i64 0, .int .i64 0, .int .i64 0, .int .i64 0, .int .i64 0, .int .i64 0, .int .i64 0, .int .i64 0, .int .i64 0, .int .i64 0, .int .i64 0, .int .i64 0, .int .i64 0, .int .i64 0, .int .i64 0, .int .i64 0, .int .i64 0, .slice none 0 0, .slice none 0 0, .slice none 0 0, .slice none 0 0] 42
      have B7 := Bz.setRow #[.int .i64 W, .int .i64 H, .int .i64 m0, .int .i64 m1, .int .i64 m2, .int .i64 m3, .int .i64 m4, .int .i64 m5, .int .i64 m6, .int .i64 m7, .int .i64 m8, .int .i64 m9, .int .i64 m10, .int .i64 m11, .int .i64 m12, .int .i64 m13, .int .i64 m14, .int .i64 m15, .slice va vn vc, .slice sa sn sc, .slice pa pn pc, .slice da dn dc]
      have y7 : Ext w5 ((w5.alloc (.cells #[.int .i64 0, .int .i64 0, .int .i64 0, .int .i64 0, .int .i64 0, .int .i64 0, .int .i64 0, .int .i64 0, .int .i64 0, .int .i64 0, .int .i64 0, .int .i64 0, .int .i64 0, .int .i64 0, .int .i64 0, .int .i64 0, .int .i64 0, .int .i64 0, .slice none 0 0, .slice none 0 0, .slice none 0 0, .slice none 0 0] 42)).setRow w5.heap.size #[.int .i64 W, .int .i64 H, .int .i64 m0, .int .i64 m1, .int .i64 m2, .int .i64 m3, .int .i64 m4, .int .i64 m5, .int .i64 m6, .int .i64 m7, .int .i64 m8, .int .i64 m9, .int .i64 m10, .int .i64 m11, .int .i64 m12, .int .i64 m13, .int .i64 m14, .int .i64 m15, .slice va vn vc, .slice sa sn sc, .slice pa pn pc, .slice da dn dc]) := ((Ext.refl w5).alloc _ _).setRow (Nat.le_refl _) _
      have K7 := K5.ext y7
      have R7 := R5.ext y7
      have S7 := S5'.ext y7
      have x7 := x5.trans y7
      have hbk := K5.lt
      clear K5 R5 S5' x5
      go_upto_region 8 with (first
        | ((with_reducible refine wpList_store_blk (op := ⟨none, .store 42 (.tmp 7) (.tmp 26), _, _, _, _⟩) ?_ 42 (.tmp 7) (.tmp 26) ?_ w5.heap.size ?_ (cs := #[.int .i64 W, .int .i64 H, .int .i64 m0, .int .i64 m1, .int .i64 m2, .int .i64 m3, .int .i64 m4, .int .i64 m5, .int .i64 m6, .int .i64 m7, .int .i64 m8, .int .i64 m9, .int .i64 m10, .int .i64 m11, .int .i64 m12, .int .i64 m13, .int .i64 m14, .int .i64 m15, .slice va vn vc, .slice sa sn sc, .slice pa pn pc, .slice da dn dc]) ?_ (z := #[.int .i64 0, .int .i64 0, .int .i64 0, .int .i64 0, .int .i64 0, .int .i64 0, .int .i64 0, .int .i64 0, .int .i64 0, .int .i64 0, .int .i64 0, .int .i64 0, .int .i64 0, .int .i64 0, .int .i64 0, .int .i64 0, .int .i64 0, .int .i64 0, .slice none 0 0, .slice none 0 0, .slice none 0 0, .slice none 0 0]) (T := 42) ?_ ?_ ?_ ?_ ?_); rfl; rfl; rfl; rfl; exact Bz; kernel_rfl; kernel_rfl; kernel_rfl)
        | fail)
      clear Bz
      generalize (w5.alloc (.cells #[.int .i64 0, .int .i64 0, .int .i64 0, .int .i64 0, .int .i64 0, .int .i64 0, .int .i64 0, .int .i64 0, .int .i64 0, .int .i64 0, .int .i64 0, .int .i64 0, .int .i64 0, .int .i64 0, .int .i64 0, .int .i64 0, .int .i64 0, .int .i64 0, .slice none 0 0, .slice none 0 0, .slice none 0 0, .slice none 0 0] 42)).setRow w5.heap.size #[.int .i64 W, .int .i64 H, .int .i64 m0, .int .i64 m1, .int .i64 m2, .int .i64 m3, .int .i64 m4, .int .i64 m5, .int .i64 m6, .int .i64 m7, .int .i64 m8, .int .i64 m9, .int .i64 m10, .int .i64 m11, .int .i64 m12, .int .i64 m13, .int .i64 m14, .int .i64 m15, .slice va vn vc, .slice sa sn sc, .slice pa pn pc, .slice da dn dc] = w7 at *
      generalize hb7 : w5.heap.size = b7 at *
      have qE := fun u (hu : Ext w7 u) => rd_end u _ _ _ _ _ _ (R7.ext hu)
      have hev : ∃ ev, (if e5 = 0 ∧ k5 < l.length then 15 else e5) = ev := ⟨_, rfl⟩
      obtain ⟨ev, hev⟩ := hev
      rw [hev] at qE
      obtain ⟨cx, hcx⟩ : ∃ cx, chkS x = cx := ⟨_, rfl⟩
      rw [hcx] at hC
      have HEV := Lib.hid hev
      have HCX := Lib.hid hcx
      clear hev hcx R7
      apply wp_region_tail 3 [false, false, false, false, true, true, true] [31, 32, 8] [] _ (by kernel_rfl) (by kernel_rfl) (by kernel_rfl)
      case H =>
        intro y hy
        have hne : Nonempty (Wx y) := ⟨⟨y, Ext.refl y⟩⟩
        have qB := fun (z : Wx y) => (B7.calm hy (by simp)).ext z.ext
        have E4 := fun (z : Wx y) => hy.ext.trans z.ext
        simp only [eraseM, Act.put]
        repeat (first
          | (go_big_quiet_want; (with_reducible refine quiet_load_blk (op := ⟨some 29, _, _, _, _, _⟩) 42 (.tmp 7) ?_ b7 ?_ (z := #[.int .i64 W, .int .i64 H, .int .i64 m0, .int .i64 m1, .int .i64 m2, .int .i64 m3, .int .i64 m4, .int .i64 m5, .int .i64 m6, .int .i64 m7, .int .i64 m8, .int .i64 m9, .int .i64 m10, .int .i64 m11, .int .i64 m12, .int .i64 m13, .int .i64 m14, .int .i64 m15, .slice va vn vc, .slice sa sn sc, .slice pa pn pc, .slice da dn dc]) (T := 42) ?_ Try.underlying42 ?_ ?_ ?_); rfl; rfl; exact (fun u hu => by obtain ⟨y, rfl⟩ := hu; exact qB y); rfl; kernel_rfl; simp only [Act.put, List.setIfInBounds_toArray, List.set_cons_succ, List.set_cons_zero]; go_big_quiet_on)
          | go_big_quiet_step ((first | (go_at_call 23; with_reducible exact calm_qt (qE _ (E4 _))) | (go_at_call 11; with_reducible exact calm_of (hC _ (y7.trans (E4 _)))))))
        exact wpQuiet_nil rfl
      case hF => rfl
      case T =>
        change tailW _ _ _ _ [_, _, _] _ _
        refine fun u z hc => ?_
        have A := lit_cells u 32 [ev, cx]
        refine gives_value (u' := u.alloc (.cells ([ev, cx].map (Value.int .i64)).toArray 32)) (v := .slice (some ⟨u.heap.size, 0, none⟩) 2 2) ?_ ⟨hc.trans (((Ext.refl u).alloc _ _).calm []), fun u2 z2 hc2 => ?_⟩
        · simp [go_sem]
        · refine gives_enter (f := 22) (args := #[.slice (some ⟨u.heap.size, 0, none⟩) 2 2]) (by simp [go_sem]) (cmpOr_cells u2 _ [ev, cx] (A.ext z2) (by simp)) ?_
          rintro e w8 ⟨rfl, z4⟩
          refine ⟨_, rfl, hc2.trans (z4.calm []), fun u3 z3 hc3 => ?_⟩
          obtain ⟨r, hr⟩ : ∃ r, firstE [ev, cx] = r := ⟨_, rfl⟩
          rw [hr]
          have HR := Lib.hid hr
          clear hr
          refine gives_value (u' := u3) (v := .int .i64 r) (by simp [go_sem]) ⟨hc3, fun u4 z5 hc4 => ?_⟩
          have K := K7.ext hc4.ext
          have S8 := S7.ext hc4.ext
          have x8 := x7.trans hc4.ext
          have B8 := B7.ext hc4.ext
          have hfin := HR.out
          rw [← HEV.out, ← HCX.out] at hfin
          clear K7 S7 x7 B7 hC qE hc hc2 hc3 hc4 A z z2 z3 z4 z5
          simp only [Act.put, List.setIfInBounds_toArray, List.set_cons_succ, List.set_cons_zero]
          by_cases h0 : r = 0
          · subst h0
            obtain ⟨a1, a2, a3⟩ := take_yes (k := 0) H2.out HLD.out HRD.out hfin
            have HA := Lib.hid a3
            have KE := K.setRow #[.int .i64 W, .int .i64 H, .int .i64 m0, .int .i64 m1, .int .i64 m2, .int .i64 m3, .int .i64 m4, .int .i64 m5, .int .i64 m6, .int .i64 m7, .int .i64 m8, .int .i64 m9, .int .i64 m10, .int .i64 m11, .int .i64 m12, .int .i64 m13, .int .i64 m14, .int .i64 m15, .slice va vn vc, .slice sa sn sc, .slice pa pn pc, .slice da dn dc]
            have eK := x8.setRow (g := b0) (by omega) #[.int .i64 W, .int .i64 H, .int .i64 m0, .int .i64 m1, .int .i64 m2, .int .i64 m3, .int .i64 m4, .int .i64 m5, .int .i64 m6, .int .i64 m7, .int .i64 m8, .int .i64 m9, .int .i64 m10, .int .i64 m11, .int .i64 m12, .int .i64 m13, .int .i64 m14, .int .i64 m15, .slice va vn vc, .slice sa sn sc, .slice pa pn pc, .slice da dn dc]
            have SE := (S8.low (calm_setRow u4 b0 #[.int .i64 W, .int .i64 H, .int .i64 m0, .int .i64 m1, .int .i64 m2, .int .i64 m3, .int .i64 m4, .int .i64 m5, .int .i64 m6, .int .i64 m7, .int .i64 m8, .int .i64 m9, .int .i64 m10, .int .i64 m11, .int .i64 m12, .int .i64 m13, .int .i64 m14, .int .i64 m15, .slice va vn vc, .slice sa sn sc, .slice pa pn pc, .slice da dn dc]) (fun g hg => by rw [List.mem_singleton.1 hg]; exact hb04)).mono (lo' := b0) (by omega)
            clear a3 hfin S8 x8
            go_wp2_with (first
              | ((with_reducible refine wpList_load_blk (op := ⟨some 37, _, _, _, _, _⟩) ?_ 42 (.tmp 7) ?_ b7 ?_ (z := #[.int .i64 W, .int .i64 H, .int .i64 m0, .int .i64 m1, .int .i64 m2, .int .i64 m3, .int .i64 m4, .int .i64 m5, .int .i64 m6, .int .i64 m7, .int .i64 m8, .int .i64 m9, .int .i64 m10, .int .i64 m11, .int .i64 m12, .int .i64 m13, .int .i64 m14, .int .i64 m15, .slice va vn vc, .slice sa sn sc, .slice pa pn pc, .slice da dn dc]) (T := 42) B8 Try.underlying42 ?_ ?_ ?_); rfl; rfl; rfl; rfl; kernel_rfl)
              | ((with_reducible refine wpList_store_blk (op := ⟨none, .store 42 (.tmp 2) (.tmp 37), _, _, _, _⟩) ?_ 42 (.tmp 2) (.tmp 37) ?_ b0 ?_ (cs := #[.int .i64 W, .int .i64 H, .int .i64 m0, .int .i64 m1, .int .i64 m2, .int .i64 m3, .int .i64 m4, .int .i64 m5, .int .i64 m6, .int .i64 m7, .int .i64 m8, .int .i64 m9, .int .i64 m10, .int .i64 m11, .int .i64 m12, .int .i64 m13, .int .i64 m14, .int .i64 m15, .slice va vn vc, .slice sa sn sc, .slice pa pn pc, .slice da dn dc]) ?_ (z := #[.int .i64 0, .int .i64 0, .int .i64 0, .int .i64 0, .int .i64 0, .int .i64 0, .int .i64 0, .int .i64 0, .int .i64 0, .int .i64 0, .int .i64 0, .int .i64 0, .int .i64 0, .int .i64 0, .int .i64 0, .int .i64 0, .int .i64 0, .int .i64 0, .slice none 0 0, .slice none 0 0, .slice none 0 0, .slice none 0 0]) (T := 42) ?_ ?_ ?_ ?_ ?_); rfl; rfl; rfl; rfl; exact K; kernel_rfl; kernel_rfl; kernel_rfl)
              | fail)
            refine bodyPost_ret (v := .tuple #[.agg #[.int .i64 W, .int .i64 H, .int .i64 m0, .int .i64 m1, .int .i64 m2, .int .i64 m3, .int .i64 m4, .int .i64 m5, .int .i64 m6, .int .i64 m7, .int .i64 m8, .int .i64 m9, .int .i64 m10, .int .i64 m11, .int .i64 m12, .int .i64 m13, .int .i64 m14, .int .i64 m15, .slice va vn vc, .slice sa sn sc, .slice pa pn pc, .slice da dn dc], .int .i64 0]) (results_blk2 (b := b0) (t := 2) (ty := 42) (t2 := 3) rfl rfl rfl KE Try.underlying42 rfl (by kernel_rfl)) rfl ?_
            exact ⟨_, x, 0, rfl, eK, .inl ⟨rfl, (by first | exact SE | (rw [hb0]; exact SE)), a1, a2, HA.out, Nat.le_of_not_lt HL.out⟩⟩
          · have hno := take_no HLD.out HRD.out (by rw [hfin]; exact h0)
            have HN := Lib.hid hno
            have eK := x8.setRow (g := b0) (by omega) #[.int .i64 0, .int .i64 0, .int .i64 0, .int .i64 0, .int .i64 0, .int .i64 0, .int .i64 0, .int .i64 0, .int .i64 0, .int .i64 0, .int .i64 0, .int .i64 0, .int .i64 0, .int .i64 0, .int .i64 0, .int .i64 0, .int .i64 0, .int .i64 0, .slice none 0 0, .slice none 0 0, .slice none 0 0, .slice none 0 0]
            clear hno hfin S8 x8
            go_wp2_with (first
              | ((with_reducible refine wpList_store_blk (op := ⟨none, .store 42 (.tmp 2) (.tmp 35), _, _, _, _⟩) ?_ 42 (.tmp 2) (.tmp 35) ?_ b0 ?_ (cs := #[.int .i64 0, .int .i64 0, .int .i64 0, .int .i64 0, .int .i64 0, .int .i64 0, .int .i64 0, .int .i64 0, .int .i64 0, .int .i64 0, .int .i64 0, .int .i64 0, .int .i64 0, .int .i64 0, .int .i64 0, .int .i64 0, .int .i64 0, .int .i64 0, .slice none 0 0, .slice none 0 0, .slice none 0 0, .slice none 0 0]) ?_ (z := #[.int .i64 0, .int .i64 0, .int .i64 0, .int .i64 0, .int .i64 0, .int .i64 0, .int .i64 0, .int .i64 0, .int .i64 0, .int .i64 0, .int .i64 0, .int .i64 0, .int .i64 0, .int .i64 0, .int .i64 0, .int .i64 0, .int .i64 0, .int .i64 0, .slice none 0 0, .slice none 0 0, .slice none 0 0, .slice none 0 0]) (T := 42) ?_ ?_ ?_ ?_ ?_); rfl; rfl; rfl; rfl; exact K; kernel_rfl; kernel_rfl; kernel_rfl)
              | fail)
            refine bodyPost_ret (v := .tuple #[.agg #[.int .i64 0, .int .i64 0, .int .i64 0, .int .i64 0, .int .i64 0, .int .i64 0, .int .i64 0, .int .i64 0, .int .i64 0, .int .i64 0, .int .i64 0, .int .i64 0, .int .i64 0, .int .i64 0, .int .i64 0, .int .i64 0, .int .i64 0, .int .i64 0, .slice none 0 0, .slice none 0 0, .slice none 0 0, .slice none 0 0], .int .i64 r]) (results_blk2 (b := b0) (t := 2) (ty := 42) (t2 := 3) rfl rfl rfl (K.setRow _) Try.underlying42 rfl (by kernel_rfl)) rfl ?_
            exact ⟨ScrM.nul, default, r, rfl, eK, .inr ⟨h0, rfl, .inr HN.out⟩⟩
    · have HN : Hid (∀ y : Scr, y.rd → chkS y = 0 → b ≠ encS y) := Lib.hid fun y _ _ h => h2 (by rw [h, encS_R]; rfl)
      clear h2
      have eK := x3.setRow (g := b0) (by omega) #[.int .i64 0, .int .i64 0, .int .i64 0, .int .i64 0, .int .i64 0, .int .i64 0, .int .i64 0, .int .i64 0, .int .i64 0, .int .i64 0, .int .i64 0, .int .i64 0, .int .i64 0, .int .i64 0, .int .i64 0, .int .i64 0, .int .i64 0, .int .i64 0, .slice none 0 0, .slice none 0 0, .slice none 0 0, .slice none 0 0]
      go_wp2_with (first
        | ((with_reducible refine wpList_store_blk (op := ⟨none, .store 42 (.tmp 2) (.tmp 22), _, _, _, _⟩) ?_ 42 (.tmp 2) (.tmp 22) ?_ b0 ?_ (cs := #[.int .i64 0, .int .i64 0, .int .i64 0, .int .i64 0, .int .i64 0, .int .i64 0, .int .i64 0, .int .i64 0, .int .i64 0, .int .i64 0, .int .i64 0, .int .i64 0, .int .i64 0, .int .i64 0, .int .i64 0, .int .i64 0, .int .i64 0, .int .i64 0, .slice none 0 0, .slice none 0 0, .slice none 0 0, .slice none 0 0]) ?_ (z := #[.int .i64 0, .int .i64 0, .int .i64 0, .int .i64 0, .int .i64 0, .int .i64 0, .int .i64 0, .int .i64 0, .int .i64 0, .int .i64 0, .int .i64 0, .int .i64 0, .int .i64 0, .int .i64 0, .int .i64 0, .int .i64 0, .int .i64 0, .int .i64 0, .slice none 0 0, .slice none 0 0, .slice none 0 0, .slice none 0 0]) (T := 42) ?_ ?_ ?_ ?_ ?_); rfl; rfl; rfl; rfl; exact K; kernel_rfl; kernel_rfl; kernel_rfl)
        | fail)
      refine bodyPost_ret (v := .tuple #[.agg #[.int .i64 0, .int .i64 0, .int .i64 0, .int .i64 0, .int .i64 0, .int .i64 0, .int .i64 0, .int .i64 0, .int .i64 0, .int .i64 0, .int .i64 0, .int .i64 0, .int .i64 0, .int .i64 0, .int .i64 0, .int .i64 0, .int .i64 0, .int .i64 0, .slice none 0 0, .slice none 0 0, .slice none 0 0, .slice none 0 0], .int .i64 4]) (results_blk2 (b := b0) (t := 2) (ty := 42) (t2 := 3) rfl rfl rfl (K.setRow _) Try.underlying42 rfl (by kernel_rfl)) rfl ?_
      exact ⟨ScrM.nul, default, 4, rfl, eK, .inr ⟨by decide, rfl, .inr HN.out⟩⟩
end Go.Proofs.Ytbbfmlehddfneaa

namespace Go.Proofs.Ytbbfmlehddfneaa
open Go.RowKit
set_option linter.unusedVariables false

theorem badU_R (d : Bool) (xs : List In) : ∀ j, j ≤ xs.length → BadR d xs j (badU d xs j) := by
  intro j
  induction j with
  | zero => exact fun _ => BadR.start d xs
  | succ j ih =>
    intro hj
    have hx : xs[j]? = some xs[j] := List.getElem?_eq_getElem (by omega)
    cases ht : hitB d xs j xs[j] (badU d xs j) with
    | true =>
      rw [badU_yes hx ht]
      exact BadR.yes hx ht
    | false =>
      rw [badU_no hx ht]
      exact (ih (by omega)).no hx ht
theorem mendF_ok (d : Bool) {n : Nat} (hn : n ≤ 20) : ∀ (r : Nat) (xs : List In), r ≤ 60 → Mend d n (60 - r) xs → (∀ x ∈ xs, x.ok) → (∀ x ∈ mendF d r xs, x.ok) ∧ (mendF d r xs).length = n ∧ chk d (mendF d r xs) = 0 := by
  intro r
  induction r with
  | zero => exact fun xs _ hm hok => ⟨hok, hm.1, hm.stop (by omega)⟩
  | succ r ih =>
    intro xs hr hm hok
    have hB := badU_R d xs xs.length (Nat.le_refl _)
    unfold mendF
    by_cases hb : badU d xs xs.length = -1
    · rw [if_pos hb]
      rw [hb] at hB
      exact ⟨hok, hm.1, hB.clear hm hn⟩
    · rw [if_neg hb]
      obtain ⟨i, x, e, hi, hx, h0, hs⟩ := hB.one hb
      rw [e, Int.toNat_natCast]
      refine ih _ (by omega) ?_ (fun y hy => ?_)
      · have := hm.next h0 hx hs
        rwa [show 60 - (r + 1) + 1 = 60 - r by omega] at this
      · rcases List.mem_or_eq_of_mem_set hy with h | h
        · exact hok y h
        · rw [h]
          simp [movI, In.ok]
theorem mkI_ok {s : Sm} (h : s.ok) : (mkI s).ok := by
  have := and3_bd s.imm
  obtain ⟨h1, h2, h3, h4, h5⟩ := h
  unfold mkI loopI baseI In.ok
  split <;> (simp only; omega)
theorem progF_ok (d : Bool) {sl : List Sm} (h : ∀ s ∈ sl, s.ok) : (∀ x ∈ progF d sl, x.ok) ∧ (progF d sl).length ≤ 24 ∧ chk d (progF d sl) = 0 := by
  have hm : Mend d (mkL (sl.take 20)).length 0 (mkL (sl.take 20)) := Mend.start (mkL_mild fun s hs => h s (List.mem_of_mem_take hs))
  have hn : (mkL (sl.take 20)).length ≤ 20 := by rw [mkL_length]; simp; omega
  obtain ⟨a, b, c⟩ := mendF_ok d hn 60 _ (Nat.le_refl _) hm (fun x hx => by
    obtain ⟨s, hs, rfl⟩ := List.mem_map.1 hx
    exact mkI_ok (h s (List.mem_of_mem_take hs)))
  exact ⟨a, by have : (progF d sl).length = _ := b; omega, c⟩
theorem progsF_ok (d : Bool) {L : List (List Sm)} (h : ∀ l ∈ L, ∀ s ∈ l, s.ok) : (∀ p ∈ progsF d L, (∀ x ∈ p, x.ok) ∧ p.length ≤ 24 ∧ chk d p = 0) ∧ 1 ≤ (progsF d L).length ∧ (progsF d L).length ≤ 4 := by
  refine ⟨fun p hp => ?_, by simp [progsF], by simp [progsF]; omega⟩
  unfold progsF at hp
  rcases List.mem_cons.1 hp with rfl | hp
  · exact ⟨by simp, by simp, by cases d <;> decide⟩
  · obtain ⟨l, hl, rfl⟩ := List.mem_map.1 hp
    exact progF_ok d (h l (List.mem_of_mem_take hl))
theorem conts_ok {w : World} {sh : List SlV} {L : List (List Sm)} (h : Conts w sh L) : ∀ l ∈ L, ∀ s ∈ l, s.ok := fun l hl => by
  obtain ⟨i, hi, rfl⟩ := List.mem_iff_getElem.1 hl
  have hi2 : i < sh.length := by rw [h.1]; exact hi
  obtain ⟨xs, e, hS⟩ := h.2 i sh[i] (List.getElem?_eq_getElem hi2)
  rw [List.getElem?_eq_getElem hi] at e
  cases e
  obtain ⟨-, -, hq⟩ := hS
  exact hq
theorem vxF_in {v : VSm} (h : v.ok) : (vxF v).inB = true ∧ (vxF v).fit := by
  obtain ⟨h0, h1, h2, h3, h4, h5, h6, h7⟩ := h
  have hw : -131072 ≤ (if v.far = true then v.w * 4 else 65536 + v.w) ∧ (if v.far = true then v.w * 4 else 65536 + v.w) ≤ 131072 := by split <;> omega
  constructor
  · simp only [V8.inB, vxF, List.all_cons, List.all_nil, Bool.and_true, inB, Bool.and_eq_true, decide_eq_true_eq]
    omega
  · simp only [V8.fit, vxF, I64]
    omega
theorem pad3_len (l : List V8) (h : l.length ≤ 12) : 3 ≤ (pad3 l).length ∧ (pad3 l).length ≤ 12 := by
  unfold pad3
  split
  · simp; omega
  · split
    · simp; omega
    · split
      · simp; omega
      · omega
theorem pad3_all {l : List V8} (h : ∀ v ∈ l, v.inB = true ∧ v.fit) : ∀ v ∈ pad3 l, v.inB = true ∧ v.fit := by
  have hp : ∀ n, (padV n).ok := fun n => by
    unfold padV
    split
    · simp [VSm.ok]
    · split <;> simp [VSm.ok]
  intro v hv
  unfold pad3 at hv
  split at hv
  · rcases List.mem_append.1 hv with h1 | h1
    · exact h v h1
    · simp only [List.mem_cons, List.not_mem_nil, or_false] at h1
      rcases h1 with rfl | rfl | rfl <;> exact vxF_in (hp _)
  · split at hv
    · rcases List.mem_append.1 hv with h1 | h1
      · exact h v h1
      · simp only [List.mem_cons, List.not_mem_nil, or_false] at h1
        rcases h1 with rfl | rfl <;> exact vxF_in (hp _)
    · split at hv
      · rcases List.mem_append.1 hv with h1 | h1
        · exact h v h1
        · simp only [List.mem_cons, List.not_mem_nil, or_false] at h1
          rcases h1 with rfl
          exact vxF_in (hp _)
      · exact h v hv
theorem nidx_fits {k : Int} {n : Nat} (hk : 0 ≤ k ∧ k < 3) : chk0 k (min (nidx k n) n) = 0 ∧ min (nidx k n) n ≤ 6 := by
  have hm : nidx k n ≤ n := by
    unfold nidx
    split
    · omega
    · split <;> omega
  have h6 : nidx k n ≤ 6 := by
    unfold nidx
    split
    · omega
    · split <;> omega
  rw [Nat.min_eq_left hm]
  refine ⟨?_, h6⟩
  unfold chk0
  rw [if_neg (by omega), if_neg (by omega), if_neg]
  unfold nidx fitsB
  split
  · rename_i h0
    simp
  · split
    · simp
    · simp
      omega
theorem drawF_ok {d : DSm} {xs : List Int} {nv ns np : Nat} (h : d.ok) (hv : 1 ≤ nv ∧ nv ≤ 100) (hs : 1 ≤ ns) (hp : 1 ≤ np) (hs4 : ns ≤ 100) (hp4 : np ≤ 100) :
    chkD ns np nv (drawF d xs nv ns np) = 0 ∧ (drawF d xs nv ns np).rd ∧ (drawF d xs nv ns np).idx.length ≤ 6 := by
  obtain ⟨h9, hk, hvx, hfr, hr, hg, hb, ha, hdep⟩ := h
  obtain ⟨hby, hck⟩ := Sm9.good h9
  unfold drawF
  by_cases h4 : d.kind % 5 = 4
  · rw [if_pos h4]
    have hc : chkC ⟨d.r, d.g, d.b, d.a, d.dep, d.vx, d.fr % 8⟩ = 0 := by
      unfold chkC
      simp only
      rw [if_neg (by omega)]
    refine ⟨?_, ⟨⟨⟨hby, ⟨hr, hg, hb, ha, hvx, by simp only; omega⟩, by unfold I64; simp only; omega, by simp [I64], by simp [I64], by simp, by simp⟩, ⟨fun _ => ⟨rfl, rfl, rfl, rfl, hdep.1⟩, fun h => by cases h⟩, by simp, fun _ => ⟨⟨hr, hg, hb, ha, hvx, by simp only; omega⟩, hdep.1, by simp only; omega⟩, by simp⟩, hck⟩, by simp⟩
    unfold chkD
    simp only
    rw [if_neg (by simp [hck])]
    simp only [if_true]
    exact hc
  · rw [if_neg h4]
    have hk3 : 0 ≤ d.kind % 5 % 3 ∧ d.kind % 5 % 3 < 3 := by omega
    obtain ⟨hf, hf6⟩ := nidx_fits (n := xs.length) hk3
    have hvx' : 0 ≤ (if d.plain = true then 0 else d.vx % (ns : Int)) ∧ (if d.plain = true then 0 else d.vx % (ns : Int)) < ns := by
      split
      · omega
      · exact ⟨Int.emod_nonneg _ (by omega), Int.emod_lt_of_pos _ (by omega)⟩
    have hfr' : 0 ≤ (if d.plain = true then 0 else d.fr % (np : Int)) ∧ (if d.plain = true then 0 else d.fr % (np : Int)) < np := by
      split
      · omega
      · exact ⟨Int.emod_nonneg _ (by omega), Int.emod_lt_of_pos _ (by omega)⟩
    have hidx : ∀ y ∈ (xs.take (nidx (d.kind % 5 % 3) xs.length)).map (fun y => y % (nv : Int)), 0 ≤ y ∧ y < nv := fun y hy => by
      obtain ⟨z, -, rfl⟩ := List.mem_map.1 hy
      exact ⟨Int.emod_nonneg _ (by omega), Int.emod_lt_of_pos _ (by omega)⟩
    have hl : ((xs.take (nidx (d.kind % 5 % 3) xs.length)).map (fun y => y % (nv : Int))).length = min (nidx (d.kind % 5 % 3) xs.length) xs.length := by simp
    generalize (xs.take (nidx (d.kind % 5 % 3) xs.length)).map (fun y => y % (nv : Int)) = ix at *
    generalize (if d.plain = true then 0 else d.vx % (ns : Int)) = v1 at *
    generalize (if d.plain = true then 0 else d.fr % (np : Int)) = v2 at *
    generalize d.kind % 5 % 3 = kk at *
    rw [← hl] at hf hf6
    have hcm : chkM kk ix nv = 0 := by
      unfold chkM
      rw [if_neg (by simp [hf]), if_pos]
      rw [List.all_eq_true]
      intro y hy
      have := hidx y hy
      simp only [okIdx, Bool.and_eq_true, decide_eq_true_eq]
      omega
    refine ⟨?_, ⟨⟨⟨hby, by simp [Clr.byt], by simp [I64], by unfold I64; simp only; omega, by unfold I64; simp only; omega, by simp only; omega, by simp only; omega⟩, ⟨fun h => (by cases h), fun _ => ⟨rfl, hvx'.1, hfr'.1, by simp only; omega, fun y hy => (hidx y hy).1⟩⟩, by simp only; omega, fun h => (by cases h), by simp only; omega, by simp only; omega, fun y hy => by have := hidx y hy; omega⟩, hck⟩, hf6⟩
    unfold chkD
    simp only
    rw [if_neg (by simp [hck]), if_neg (by simp), if_pos ⟨hvx', hfr'⟩]
    exact hcm
/-- a script by small numbers may be, can be read -/
structure SGood (x : Scr) : Prop where
  chk : chkS x = 0
  rd : x.rd
  v : 3 ≤ x.verts.length ∧ x.verts.length ≤ 12
  d : x.draws.length ≤ 5
  s : 1 ≤ x.sh.length
  p : 1 ≤ x.pa.length
theorem scriptF_ok {w : World} {s : SScr} {vs : List VSm} {sh pa : List SlV} {ds : List DSm} (Q : SScrQ w s vs sh pa ds) {Ls Lp : List (List Sm)} (hCs : Conts w sh Ls) (hCp : Conts w pa Lp) {LX : List (List Int)} (hCd : DConts w ds LX) : SGood (scriptF s vs Ls Lp ds LX) := by
  obtain ⟨b1, b2, b3, b4, b5, b6⟩ := Q.bd
  have hV := pad3_all (l := (vs.take 12).map vxF) (fun v hv => by
    obtain ⟨z, hz, rfl⟩ := List.mem_map.1 hv
    exact vxF_in (Q.vok z (List.mem_of_mem_take hz)))
  have hVl := pad3_len ((vs.take 12).map vxF) (by simp; omega)
  obtain ⟨hS, hS1, hS4⟩ := progsF_ok false (conts_ok hCs)
  obtain ⟨hP, hP1, hP4⟩ := progsF_ok true (conts_ok hCp)
  have hD : ∀ d ∈ (drawsF ds LX (pad3 ((vs.take 12).map vxF)).length (progsF false Ls).length (progsF true Lp).length).take 5, chkD (progsF false Ls).length (progsF true Lp).length (pad3 ((vs.take 12).map vxF)).length d = 0 ∧ d.rd ∧ d.idx.length ≤ 6 := fun d hd => by
    have hd := List.mem_of_mem_take hd
    obtain ⟨i, hi, rfl⟩ := List.mem_iff_getElem.1 hd
    have hi1 : i < ds.length := by simp [drawsF] at hi; omega
    obtain ⟨xs, e1, e2, e3⟩ := hCd.2 i ds[i] (List.getElem?_eq_getElem hi1)
    simp only [drawsF, List.getElem_zipWith]
    exact drawF_ok e2 (by omega) hS1 hP1 (by omega) (by omega)
  have hDl : ((drawsF ds LX (pad3 ((vs.take 12).map vxF)).length (progsF false Ls).length (progsF true Lp).length).take 5).length ≤ 5 := by simp; omega
  unfold scriptF
  generalize (drawsF ds LX (pad3 ((vs.take 12).map vxF)).length (progsF false Ls).length (progsF true Lp).length).take 5 = D at *
  generalize pad3 ((vs.take 12).map vxF) = V at *
  generalize progsF false Ls = A at *
  generalize progsF true Lp = B at *
  have hm : ∀ y ∈ [65536, s.t0, 0, 0, 0, 65536, s.t1, 0, 0, 0, 65536, s.t2, s.t3, 0, 0, 65536], -2147483647 ≤ y ∧ y ≤ 2147483647 := by
    intro y hy
    simp only [List.mem_cons, List.not_mem_nil, or_false] at hy
    rcases hy with rfl | rfl | rfl | rfl | rfl | rfl | rfl | rfl | rfl | rfl | rfl | rfl | rfl | rfl | rfl | rfl <;> omega
  have hr0 : Scr.rd0 ⟨1 + s.wd % 24, 1 + s.ht % 24, [65536, s.t0, 0, 0, 0, 65536, s.t1, 0, 0, 0, 65536, s.t2, s.t3, 0, 0, 65536], V, A, B, D⟩ :=
    ⟨⟨by unfold I64; simp only; omega, by unfold I64; simp only; omega, rfl, fun y hy => by have := hm y hy; unfold I64; omega, fun v hv => (hV v hv).2, by simp only; omega, fun p hp => ⟨by have := (hS p hp).2.1; omega, (hS p hp).1⟩, by simp only; omega, fun p hp => ⟨by have := (hP p hp).2.1; omega, (hP p hp).1⟩, by simp only; omega, fun d hd => (hD d hd).2.1.1.fit, by simp only; omega⟩,
     by simp only; omega, by simp only; omega, by simp only; omega, hS4, hP4, by simp only; omega, fun d hd => (hD d hd).2.1.1⟩
  refine ⟨?_, ⟨hr0, fun p hp => ⟨(hS p hp).1, (hS p hp).2.2⟩, fun p hp => ⟨(hP p hp).1, (hP p hp).2.2⟩, fun d hd => (hD d hd).2.1⟩, hVl, hDl, hS1, hP1⟩
  unfold chkS
  simp only
  rw [if_neg (by omega), if_neg (by omega), if_neg]
  · refine firstE_zero.2 fun e he => ?_
    simp only [List.mem_cons, List.not_mem_nil, or_false] at he
    rcases he with rfl | rfl | rfl
    · refine firstE_zero.2 fun e he => ?_
      obtain ⟨p, hp, rfl⟩ := List.mem_map.1 he
      exact (hS p hp).2.2
    · refine firstE_zero.2 fun e he => ?_
      obtain ⟨p, hp, rfl⟩ := List.mem_map.1 he
      exact (hP p hp).2.2
    · refine firstE_zero.2 fun e he => ?_
      obtain ⟨p, hp, rfl⟩ := List.mem_map.1 he
      exact (hD p hp).1
  · unfold chkN
    simp only [Bool.not_eq_false, Bool.and_eq_true]
    refine ⟨List.all_eq_true.2 fun y hy => ?_, List.all_eq_true.2 fun v hv => (hV v hv).1⟩
    have := hm y hy
    simp only [inB, Bool.and_eq_true, decide_eq_true_eq]
    omega
/-- such a script has few bytes -/
theorem SGood.few {x : Scr} (h : SGood x) : (encS x).length ≤ 10000 := by
  have hf := h.rd.r0.fit
  have hg := chkS_good h.chk
  have hi : ∀ d ∈ x.draws, ∀ y ∈ d.idx, I64 y := fun d hd y hy => by
    have := (h.rd.r0.dd d hd).big.2.2 y hy
    unfold I64
    omega
  have k1 := encN_len hf.W
  have k2 := encN_len hf.H
  have k3 := flat_len (e := encZ) (b := 10) (l := x.m) (fun y hy => encZ_len (hf.m y hy))
  have k4 : (leb x.verts.length).length ≤ 10 := leb_len10 (by have := hf.vl; omega)
  have k5 := flat_len (e := encV) (b := 80) (l := x.verts) (fun y hy => encV_len (hf.v y hy))
  have k6 : (leb x.sh.length).length ≤ 10 := leb_len10 (by have := hf.sl; omega)
  have k7 := progs_len hg.s (fun p hp => (hf.s p hp).2) hg.sp x.sh.length
  have k8 : (leb x.pa.length).length ≤ 10 := leb_len10 (by have := hf.pl; omega)
  have k9 := progs_len hg.p (fun p hp => (hf.p p hp).2) hg.pp x.pa.length
  have k10 : (leb x.draws.length).length ≤ 10 := leb_len10 (by have := hf.dl; omega)
  have k11 := flat_len (e := encD) (b := 1006) (l := x.draws) (fun d hd => encD_len (hf.d d hd) (chkD_good (hg.dd d hd)) (hi d hd))
  rw [List.take_length] at k7 k9
  have h16 := hf.m16
  have g1 := h.v
  have g2 := h.d
  simp only [encS, seqE, List.length_cons, List.length_append]
  omega
end Go.Proofs.Ytbbfmlehddfneaa

namespace Go.Proofs.Ytbbfmlehddfneaa
open Go.RowKit
set_option linter.unusedVariables false
/-- the chapter's example -/
def s8 : Scr := ⟨8, 8, [0, 0, 0, 0, 0, 0, 0, 0, 0, 0, 0, 0, 0, 0, 0, 0], [], [], [], []⟩
def m8 : ScrM := ⟨8, 8, [0, 0, 0, 0, 0, 0, 0, 0, 0, 0, 0, 0, 0, 0, 0, 0], SlV.nil, SlV.nil, SlV.nil, SlV.nil⟩
theorem s8_fit : s8.fit := ⟨by simp [s8, I64], by simp [s8, I64], rfl, fun y hy => by simp [s8] at hy; subst hy; simp [I64], by simp [s8], by simp [s8], by simp [s8], by simp [s8], by simp [s8], by simp [s8], by simp [s8], by simp [s8]⟩
theorem s8_rd : s8.rd := ⟨⟨s8_fit, by simp [s8], by simp [s8], by simp [s8], by simp [s8], by simp [s8], by simp [s8], by simp [s8]⟩, by simp [s8], by simp [s8], by simp [s8]⟩
theorem s8_chk : chkS s8 = 0 := by decide
theorem s8_len : (encS s8).length = 24 := by
  have h0 : (leb 0).length = 1 := by rw [leb_small (by omega)]; rfl
  have h8 : (leb 8).length = 1 := by rw [leb_small (by omega)]; rfl
  have hz : zig 0 = 0 := rfl
  simp [encS, s8, encN, encZ, seqE, h0, h8, hz]
theorem s8_R (w : World) : ScrR w m8 s8 := ⟨rfl, rfl, rfl, ⟨none, 0, rfl, fun h => absurd rfl h⟩, ⟨[], ⟨none, 0, rfl, fun h => absurd rfl h⟩, rfl, fun i s hs => by simp at hs⟩, ⟨[], ⟨none, 0, rfl, fun h => absurd rfl h⟩, rfl, fun i s hs => by simp at hs⟩, ⟨[], ⟨none, 0, rfl, fun h => absurd rfl h⟩, rfl, fun i s hs => by simp at hs⟩⟩
set_option maxRecDepth 100000 in
set_option maxHeartbeats 2000000 in
theorem awake11_any (w : World) : Calls Try.prog 6 #[] w fun e w' => e = .returned (.bool true) ∧ Ext w w' := by
  have hP := put11_any m8 s8 w (s8_R w) s8_fit
  change Calls Try.prog 9 #[.agg #[.int .i64 8, .int .i64 8, .int .i64 0, .int .i64 0, .int .i64 0, .int .i64 0, .int .i64 0, .int .i64 0, .int .i64 0, .int .i64 0, .int .i64 0, .int .i64 0, .int .i64 0, .int .i64 0, .int .i64 0, .int .i64 0, .int .i64 0, .int .i64 0, .slice none 0 0, .slice none 0 0, .slice none 0 0, .slice none 0 0]] w _ at hP
  go_enter Try.func6, Try.ntmps6
  go_wp2_with fail
  refine hP.mono ?_
  rintro e w1 ⟨v, rfl, h1, -, x1⟩
  have o1 := h1 s8_chk
  rw [s8_chk]
  have A1 := o1.arr (encS_bytes s8_fit (chkS_good s8_chk))
  obtain ⟨ao, c, rfl, -, -⟩ := o1.slice
  rw [s8_len] at A1 ⊢
  clear h1 o1 hP
  go_wp2_with fail
  refine (take11_any _ _ (encS s8) A1 (by rw [s8_len]; omega)).mono ?_
  rintro e w2 ⟨s, x, err, rfl, x2, hr⟩
  have he : err = 0 := by
    rcases hr with ⟨h, _⟩ | ⟨_, _, h | h⟩
    · exact h
    · rw [s8_len] at h; omega
    · exact absurd rfl (h s8 s8_rd s8_chk)
  subst he
  have hl : s.m.length = 16 := by
    rcases hr with ⟨_, h, hrd, _⟩ | ⟨h, _⟩
    · rw [h.m]; exact hrd.r0.fit.m16
    · exact absurd rfl h
  have hl2 : s.l.length = 22 := by simp [ScrM.l, hl]
  clear hr
  have e2 := x1.trans x2
  have Bz := Blk.new w2 #[.int .i64 0, .int .i64 0, .int .i64 0, .int .i64 0, .int .i64 0, .int .i64 0, .int .i64 0, .int .i64 0, .int .i64 0, .int .i64 0, .int .i64 0, .int .i64 0, .int .i64 0, .int .i64 0, .int .i64 0, .int .i64 0, .int .i64 0, .int .i64 0, .slice none 0 0, .slice none 0 0, .slice none 0 0, .slice none 0 0] 42
  have e3 : Ext w ((w2.alloc (.cells #[.int .i64 0, .int .i64 0, .int .i64 0, .int .i64 0, .int .i64 0, .int .i64 0, .int .i64 0, .int .i64 0, .int .i64 0, .int .i64 0, .int .i64 0, .int .i64 0, .int .i64 0, .int .i64 0, .int .i64 0, .int .i64 0, .int .i64 0, .int .i64 0, .slice none 0 0, .slice none 0 0, .slice none 0 0, .slice none 0 0] 42)).setRow w2.heap.size s.l.toArray) := (e2.alloc _ _).setRow e2.size _
  have hone : s.l.toArray.all (·.oneCell') = true := by
    simp only [List.all_toArray, List.all_eq_true]
    intro u hu
    simp [ScrM.l] at hu
    rcases hu with rfl | rfl | ⟨y, _, rfl⟩ | rfl | rfl | rfl | rfl <;> rfl
  generalize s.l = sl at *
  go_wp2_with (first
    | ((with_reducible refine wpList_store_blk (op := ⟨none, .store 42 (.tmp 3) (.tmp 13), _, _, _, _⟩) ?_ 42 (.tmp 3) (.tmp 13) ?_ w2.heap.size ?_ (cs := sl.toArray) ?_ (z := #[.int .i64 0, .int .i64 0, .int .i64 0, .int .i64 0, .int .i64 0, .int .i64 0, .int .i64 0, .int .i64 0, .int .i64 0, .int .i64 0, .int .i64 0, .int .i64 0, .int .i64 0, .int .i64 0, .int .i64 0, .int .i64 0, .int .i64 0, .int .i64 0, .slice none 0 0, .slice none 0 0, .slice none 0 0, .slice none 0 0]) (T := 42) ?_ ?_ ?_ ?_ ?_); rfl; rfl; rfl; rfl; exact Bz; (rw [List.size_toArray, hl2]; kernel_rfl); exact hone; (simp [hl2]))
    | fail)
  go_ret
  exact ⟨rfl, e3⟩
end Go.Proofs.Ytbbfmlehddfneaa

