/-
  DERIVED. Layer 6 (store): Put.
-/
import Derived.Test.YtmoihbpjcdmmbaaStoreTake
import Derived.BigQuiet
import Derived.Deep.DeepCutAuto
import Derived.Deep.CutBlock
import Derived.RegionTactic
namespace Go.Proofs.Ytmoihbpjcdmmbaa
open Go.RowKit Go.Maps
set_option linter.unusedVariables false

set_option maxRecDepth 100000 in
theorem dev_Put_size (w : World) (bd : Nat) (v : Value) (l : List Int) (hA : Arr w .u8 v l) (hl : l.length ≠ 64) :
    Calls Try.prog 10 #[.pointer (some ⟨bd, 0, none⟩), v] w fun e w' => e = .returned (.tuple #[.int .i64 0, .int .i64 6]) ∧ w = w' := by
  have hm := hA.most
  unfold maxLen at hm
  obtain ⟨⟨ao, c, rfl, -, -, -⟩, -, -⟩ := hA
  have hl' : (l.length : Int) ≠ 64 := by omega
  go_enter Try.func10, Try.ntmps10
  go_wp2
  exact bodyPost_ret (v := .tuple #[.int .i64 0, .int .i64 6]) (by simp [results, Try.results10]) rfl ⟨rfl, rfl⟩

theorem DevAt.recell {w w' : World} {F R : List Nat} {bd bm : Nat} {sf sl : Value} {bb : Nat} {fm : Int → Option Value} {st : DSt} (h : DevAt w F R bd bm sf sl bb fm st) (hc : Calm [bd] w w') (p : Nat)
    (hB : Blk w' bd #[sf, sl, .map (some bb), .map (some bm), .int .i64 st.room, .int .i64 st.last, .int .i64 p, .int .i64 st.takes, .int .i64 st.most] 57) : DevAt w' F R bd bm sf sl bb fm { st with puts := p } ∧ Calm F w w' := by
  have hcF : Calm F w w' := ⟨hc.os, hc.tape, hc.output, hc.size, fun k hk hne => hc.block k hk fun ho => by
    simp at ho
    subst ho
    exact hne h.inF.1⟩
  obtain ⟨f1, f2, f3⟩ := h.fresh hcF
  refine ⟨⟨hB, f1, f2, h.fullw, h.failw, f3, h.map.calm hc (by simpa using h.inF.2.2), fun x v hx hv => ?_, h.non, h.apart, h.inF, h.inR, h.disj, ⟨fun k hk => Nat.lt_of_lt_of_le (h.lt.1 k hk) hc.size, fun k hk => Nat.lt_of_lt_of_le (h.lt.2 k hk) hc.size⟩, h.bd⟩, hcF⟩
  obtain ⟨l, h1, h2, h3, h4, h5⟩ := h.rows x v hx hv
  exact ⟨l, h1, h2, h3, h4.calm hc (fun k hk => by simpa using (h5 k hk).2.1), h5⟩
/-- with a block more -/
def DSt.with_ (st : DSt) (l : List Int) : DSt := { st with puts := st.puts + 1, last := st.last + 1, bl := fun y => if y = ((st.last + 1 : Nat) : Int) then some l else st.bl y, s := st.s + 1, most := max st.most (st.s + 1) }
theorem DevAt.gain {w w' : World} {F R : List Nat} {bd bm : Nat} {sf sl : Value} {bb : Nat} {fm : Int → Option Value} {st : DSt} (h : DevAt w F R bd bm sf sl bb fm st) (hc : Calm [bd, bm] w w') (l : List Int) (hl : l.length = 64) (hlb : ∀ y ∈ l, 0 ≤ y ∧ y ≤ 255) (hlast : st.last ≤ 1000000)
    (hroom : st.s < st.room) (g c : Nat) (hO : Own w' w.heap.size (.slice (some ⟨g, 0, none⟩) 68 c) (putL l))
    (hB : Blk w' bd #[sf, sl, .map (some bb), .map (some bm), .int .i64 st.room, .int .i64 ((st.last + 1 : Nat) : Int), .int .i64 ((st.puts + 1 : Nat) : Int), .int .i64 st.takes, .int .i64 ((max st.most (st.s + 1) : Nat) : Int)] 57)
    (hM : Mp anyV w' bm (fun y => if y = ((st.last + 1 : Nat) : Int) then some (.slice (some ⟨g, 0, none⟩) 68 c) else fm y) (st.s + 1)) : Dev w' (g :: F) R bd (st.with_ l) ∧ Step F (g :: F) w w' := by
  have hcF : Calm F w w' := ⟨hc.os, hc.tape, hc.output, hc.size, fun k hk hne => hc.block k hk fun ho => by
    simp at ho
    rcases ho with rfl | rfl
    · exact hne h.inF.1
    · exact hne h.inF.2.1⟩
  obtain ⟨f1, f2, f3⟩ := h.fresh hcF
  obtain ⟨hg1, hg2⟩ := hO.lt g rfl
  have hbdl := h.lt.1 _ h.inF.1
  have hbml := h.lt.1 _ h.inF.2.1
  have hb := h.bd
  refine ⟨⟨bm, sf, sl, bb, _, ⟨hB, f1, f2, h.fullw, h.failw, f3, hM, fun x v hx hv => ?_, fun x hx hv => ?_, fun x y v u hx hy hne hv hu k hk hk2 => ?_, ⟨List.mem_cons_of_mem _ h.inF.1, List.mem_cons_of_mem _ h.inF.2.1, h.inF.2.2⟩, h.inR, fun k hk hin => ?_, ⟨fun k hk => ?_, fun k hk => Nat.lt_of_lt_of_le (h.lt.2 k hk) hc.size⟩, ⟨h.bd.1, by show st.s + 1 ≤ st.room; omega, by show max st.most (st.s + 1) ≤ 4096; omega⟩⟩⟩, hcF, fun b hb => ?_⟩
  · by_cases e : x = ((st.last + 1 : Nat) : Int)
    · simp only [if_pos e] at hv
      cases hv
      refine ⟨l, by simp only [DSt.with_, if_pos e], hl, hlb, hO.mono (Nat.zero_le _), fun k hk => ?_⟩
      obtain rfl : g = k := Option.some.inj hk
      exact ⟨by simp, by omega, by omega⟩
    · simp only [if_neg e] at hv
      obtain ⟨l1, h1, h2, h3, h4, h5⟩ := h.rows x v hx hv
      refine ⟨l1, by simp only [DSt.with_, if_neg e]; exact h1, h2, h3, h4.calm hc (fun k hk => by simpa using (h5 k hk).2), fun k hk => ⟨List.mem_cons_of_mem _ (h5 k hk).1, (h5 k hk).2⟩⟩
  · by_cases e : x = ((st.last + 1 : Nat) : Int)
    · simp only [if_pos e] at hv
      cases hv
    · simp only [if_neg e] at hv
      simp only [DSt.with_, if_neg e]
      exact h.non x hx hv
  · by_cases e1 : x = ((st.last + 1 : Nat) : Int)
    · by_cases e2 : y = ((st.last + 1 : Nat) : Int)
      · exact hne (e1.trans e2.symm)
      · simp only [if_pos e1] at hv
        simp only [if_neg e2] at hu
        cases hv
        cases hk
        obtain ⟨l1, _, _, _, h4, h5⟩ := h.rows y u hy hu
        have := (h4.lt g hk2).2
        omega
    · by_cases e2 : y = ((st.last + 1 : Nat) : Int)
      · simp only [if_neg e1] at hv
        simp only [if_pos e2] at hu
        cases hu
        cases hk2
        obtain ⟨l1, _, _, _, h4, h5⟩ := h.rows x v hx hv
        have := (h4.lt g hk).2
        omega
      · simp only [if_neg e1] at hv
        simp only [if_neg e2] at hu
        exact h.apart x y v u hx hy hne hv hu k hk hk2
  · rcases List.mem_cons.1 hin with rfl | h1
    · have := h.lt.2 _ hk
      omega
    · exact h.disj k hk h1
  · rcases List.mem_cons.1 hk with rfl | h1
    · exact hg2
    · exact Nat.lt_of_lt_of_le (h.lt.1 k h1) hc.size
  · rcases List.mem_cons.1 hb with rfl | h1
    · exact .inr hg1
    · exact .inl h1

set_option maxRecDepth 100000 in
set_option maxHeartbeats 4000000 in
theorem dev_Put_full (w : World) (F R : List Nat) (bd : Nat) (st : DSt) (h : Dev w F R bd st) (v : Value) (l : List Int) (hA : Arr w .u8 v l) (hl : l.length = 64) (hp : st.puts ≤ 1000000) (hfull : st.room ≤ st.s) :
    Calls Try.prog 10 #[.pointer (some ⟨bd, 0, none⟩), v] w fun e w' => e = .returned (.tuple #[.int .i64 0, .int .i64 8]) ∧ Dev w' F R bd { st with puts := st.puts + 1 } ∧ Calm F w w' := by
  obtain ⟨bm, sf, sl, bb, fm, h⟩ := h
  obtain ⟨⟨ao, c, rfl, -, -, -⟩, -, -⟩ := hA
  have hc := h.cells.cell
  have hd := h.cells.frozen
  rw [hl]
  have hge : (st.room : Int) ≤ (st.s : Int) := by omega
  have B1 := h.cells.set 6 (.int .i64 ((st.puts : Int) + 1))
  simp only [List.setIfInBounds_toArray, List.set_cons_succ, List.set_cons_zero] at B1
  have K1 := calm_set w bd 6 (.int .i64 ((st.puts : Int) + 1))
  have M1 := h.map.calm K1 (by simpa using h.inF.2.2)
  go_enter Try.func10, Try.ntmps10
  go_wp2
  generalize w.setCell ⟨bd, 6, none⟩ (.int .i64 ((st.puts : Int) + 1)) = w1 at *
  clear hc hd
  apply wp_region_reads2 _ (by kernel_rfl) (by kernel_rfl)
  case H =>
    intro x hx
    have hne : Nonempty (Wx x) := ⟨⟨x, Ext.refl x⟩⟩
    have qB := fun (y : Wx x) => (B1.ext (hx.trans y.ext)).cell
    have qM := fun (y : Wx x) => (M1.ext (hx.trans y.ext)).len 35 22 Try.underlying35
    repeat (go_big_quiet_step (fail))
    exact wpQuiet_nil rfl
  intro w2 x2
  go_wp2
  obtain ⟨r1, r2⟩ := h.recell (K1.trans (x2.calm _)) (st.puts + 1) (by simpa using B1.ext x2)
  exact bodyPost_ret (v := .tuple #[.int .i64 0, .int .i64 8]) (by simp [results, Try.results10]) rfl ⟨rfl, ⟨bm, sf, sl, bb, fm, r1⟩, r2⟩

set_option maxRecDepth 100000 in
set_option maxHeartbeats 4000000 in
theorem dev_Put_told (w : World) (F R : List Nat) (bd : Nat) (st : DSt) (h : Dev w F R bd st) (v : Value) (l : List Int) (hA : Arr w .u8 v l) (hl : l.length = 64) (hp : st.puts ≤ 1000000) (hroom : st.s < st.room) (hin : (st.puts : Int) ∈ st.full) :
    Calls Try.prog 10 #[.pointer (some ⟨bd, 0, none⟩), v] w fun e w' => e = .returned (.tuple #[.int .i64 0, .int .i64 8]) ∧ Dev w' F R bd { st with puts := st.puts + 1 } ∧ Calm F w w' := by
  obtain ⟨bm, sf, sl, bb, fm, h⟩ := h
  have hlb := hA.bd
  obtain ⟨⟨ao, c, rfl, -, -, -⟩, -, -⟩ := hA
  obtain ⟨fa, fc, hfs, -, -⟩ := h.full.slice
  have hpw : (Lit.int .i64 (st.puts : Int)).wf = true := wfi (by omega)
  have hc := h.cells.cell
  have hd := h.cells.frozen
  have hge : ¬ (st.room : Int) ≤ (st.s : Int) := by omega
  have hge2 : decide ((st.s : Int) ≥ (st.room : Int)) = false := by simpa using hge
  have hge3 : decide (st.room ≤ st.s) = false := by simp; omega
  have hb4 := h.bd
  have B1 := h.cells.set 6 (.int .i64 ((st.puts : Int) + 1))
  simp only [List.setIfInBounds_toArray, List.set_cons_succ, List.set_cons_zero] at B1
  rw [hfs] at B1
  have K1 := calm_set w bd 6 (.int .i64 ((st.puts : Int) + 1))
  have M1 := h.map.calm K1 (by simpa using h.inF.2.2)
  have hKF : Calm F w (w.setCell ⟨bd, 6, none⟩ (.int .i64 ((st.puts : Int) + 1))) := ⟨K1.os, K1.tape, K1.output, K1.size, fun k hk hne => K1.block k hk fun ho => by
    simp at ho
    subst ho
    exact hne h.inF.1⟩
  have FA := (h.full.calm hKF fun k hk => h.disj k (h.inR.2.1 k hk)).arr h.fullw.2
  rw [hfs] at FA
  have hfl := h.fullw.1
  have hct : decide ((st.puts : Int) ∈ st.full) = true := by simpa using hin
  rw [hl]
  go_enter Try.func10, Try.ntmps10
  go_wp2
  generalize w.setCell ⟨bd, 6, none⟩ (.int .i64 ((st.puts : Int) + 1)) = w1 at *
  clear hc hd
  apply wp_region_reads2 _ (by kernel_rfl) (by kernel_rfl)
  case H =>
    intro x hx
    have hne : Nonempty (Wx x) := ⟨⟨x, Ext.refl x⟩⟩
    have qB := fun (y : Wx x) => (B1.ext (hx.trans y.ext)).cell
    have qM := fun (y : Wx x) => (M1.ext (hx.trans y.ext)).len 35 22 Try.underlying35
    have qF := fun (y : Wx x) => FA.ext (hx.trans y.ext)
    have qC := fun (y : Wx x) => contains_any _ _ st.full _ (qF y) (by omega) hpw
    rw [hct] at qC
    repeat (go_big_quiet_step ((go_at_call 20; exact calm_eq (qC _))))
    exact wpQuiet_nil rfl
  intro w2 x2
  go_wp2
  obtain ⟨r1, r2⟩ := h.recell (K1.trans (x2.calm _)) (st.puts + 1) (by simpa [hfs] using B1.ext x2)
  exact bodyPost_ret (v := .tuple #[.int .i64 0, .int .i64 8]) (by simp [results, Try.results10]) rfl ⟨rfl, ⟨bm, sf, sl, bb, fm, r1⟩, r2⟩

set_option maxRecDepth 100000 in
set_option maxHeartbeats 4000000 in
theorem dev_Put (w : World) (F R : List Nat) (bd : Nat) (st : DSt) (h : Dev w F R bd st) (v : Value) (l : List Int) (hA : Arr w .u8 v l) (hAF : ∀ w', Calm F w w' → Arr w' .u8 v l) (hl : l.length = 64) (hp : st.puts ≤ 1000000) (hla : st.last ≤ 1000000) (hroom : st.s < st.room) (hin : ¬ (st.puts : Int) ∈ st.full) (hfree : st.bl ((st.last + 1 : Nat) : Int) = none) :
    Calls Try.prog 10 #[.pointer (some ⟨bd, 0, none⟩), v] w fun e w' => e = .returned (.tuple #[.int .i64 ((st.last + 1 : Nat) : Int), .int .i64 0]) ∧ ∃ g, Dev w' (g :: F) R bd (st.with_ l) ∧ Step F (g :: F) w w' := by
  obtain ⟨bm, sf, sl, bb, fm, h⟩ := h
  have hlb := hA.bd
  obtain ⟨⟨ao, c, rfl, -, -, -⟩, -, -⟩ := hA
  obtain ⟨fa, fc, hfs, -, -⟩ := h.full.slice
  have hpw : (Lit.int .i64 (st.puts : Int)).wf = true := wfi (by omega)
  have hc := h.cells.cell
  have hd := h.cells.frozen
  have hge : ¬ (st.room : Int) ≤ (st.s : Int) := by omega
  have hge2 : decide ((st.s : Int) ≥ (st.room : Int)) = false := by simpa using hge
  have hge3 : decide (st.room ≤ st.s) = false := by simp; omega
  have hb4 := h.bd
  have B1 := h.cells.set 6 (.int .i64 ((st.puts : Int) + 1))
  simp only [List.setIfInBounds_toArray, List.set_cons_succ, List.set_cons_zero] at B1
  rw [hfs] at B1
  have K1 := calm_set w bd 6 (.int .i64 ((st.puts : Int) + 1))
  have M1 := h.map.calm K1 (by simpa using h.inF.2.2)
  have hKF : Calm F w (w.setCell ⟨bd, 6, none⟩ (.int .i64 ((st.puts : Int) + 1))) := ⟨K1.os, K1.tape, K1.output, K1.size, fun k hk hne => K1.block k hk fun ho => by
    simp at ho
    subst ho
    exact hne h.inF.1⟩
  have FA := (h.full.calm hKF fun k hk => h.disj k (h.inR.2.1 k hk)).arr h.fullw.2
  rw [hfs] at FA
  have hfl := h.fullw.1
  have hct : decide ((st.puts : Int) ∈ st.full) = false := by simpa using hin
  rw [hl]
  go_enter Try.func10, Try.ntmps10
  go_wp2
  generalize w.setCell ⟨bd, 6, none⟩ (.int .i64 ((st.puts : Int) + 1)) = w1 at *
  clear hc hd
  apply wp_region_reads2 _ (by kernel_rfl) (by kernel_rfl)
  case H =>
    intro x hx
    have hne : Nonempty (Wx x) := ⟨⟨x, Ext.refl x⟩⟩
    have qB := fun (y : Wx x) => (B1.ext (hx.trans y.ext)).cell
    have qM := fun (y : Wx x) => (M1.ext (hx.trans y.ext)).len 35 22 Try.underlying35
    have qF := fun (y : Wx x) => FA.ext (hx.trans y.ext)
    have qC := fun (y : Wx x) => contains_any _ _ st.full _ (qF y) (by omega) hpw
    rw [hct] at qC
    repeat (go_big_quiet_step ((go_at_call 20; exact calm_eq (qC _))))
    exact wpQuiet_nil rfl
  intro w2 x2
  have B2 := B1.ext x2
  have c2 := B2.cell
  have d2 := B2.frozen
  have B3 := B2.set 5 (.int .i64 ((st.last : Int) + 1))
  simp only [List.setIfInBounds_toArray, List.set_cons_succ, List.set_cons_zero] at B3
  have K3 := calm_set w2 bd 5 (.int .i64 ((st.last : Int) + 1))
  have M3 := (M1.ext x2).calm K3 (by simpa using h.inF.2.2)
  have C3 : Calm [bd] w (w2.setCell ⟨bd, 5, none⟩ (.int .i64 ((st.last : Int) + 1))) := (K1.trans (x2.calm _)).trans K3
  have A3 := hAF _ (⟨C3.os, C3.tape, C3.output, C3.size, fun k hk hne => C3.block k hk fun ho => by
    simp at ho
    subst ho
    exact hne h.inF.1⟩ : Calm F w _)
  have hno : fm ((st.last : Int) + 1) = none := h.free (wfi (by omega)) (by simpa using hfree)
  have hlw : (Lit.int .i64 ((st.last : Int) + 1)).wf = true := wfi (by omega)
  go_upto_region 10 with fail
  generalize w2.setCell ⟨bd, 5, none⟩ (.int .i64 ((st.last : Int) + 1)) = w3 at *
  clear B1 B2 c2 d2 K1 K3 M1 x2 FA hKF
  rw [hl] at A3
  have bml := M3.lt
  have hsl : st.s < maxLen := by unfold maxLen; omega
  go_cut [58] (fun _ wx => ∃ g c', Mp anyV wx bm (fun y => if y = (st.last : Int) + 1 then some (.slice (some ⟨g, 0, none⟩) 68 c') else fm y) (st.s + 1) ∧ Own wx w3.heap.size (.slice (some ⟨g, 0, none⟩) 68 c') (putL l) ∧ Calm [bm] w3 wx)
  case first =>
    have hB := B3.drew
    have hcB := hB.cell
    have A4 := A3.ext (Ext.refl w3).drew
    go_wp2
    go_region_with ((go_at_call 21; refine (put_any _ _ l A4 (by omega)).mono ?_; rintro e w4 ⟨v4, rfl, o4, x4⟩; have hcB4 := (hB.ext x4).cell; have M4 := M3.ext ((Ext.refl w3).drew.trans x4); obtain ⟨g, c', hv4⟩ := o4.some (by rw [put_length]; omega); have hpl : (l ++ sum4 (bN (crcSum l))).length = 68 := by rw [put_length, hl]
                     rw [hpl] at hv4; subst hv4; obtain ⟨w5, hr5, M5, K5⟩ := M4.store 35 22 Try.underlying35 hsl hlw (v := .slice (some ⟨g, 0, none⟩) 68 c') rfl))
    all_goals
      go_wp2
      go_meet
      rw [hno] at M5
      have z4 := x4.size
      exact ⟨g, c', by simpa using M5, (o4.mono (Nat.le_refl _)).calm K5 (fun k hk => by
        obtain rfl : g = k := Option.some.inj hk
        have := (o4.lt g rfl).1
        have e : w3.drew.heap.size = w3.heap.size := rfl
        simp
        omega), Calm.trans (((Ext.refl w3).drew.trans x4).calm _) K5⟩
  obtain ⟨g, c', M5, o5, K5⟩ := hcut
  have B5 : Blk _ bd _ _ := (K5.block bd B3.lt (by simpa using Ne.symm h.inF.2.2)).trans B3
  have C5 : Calm [bd, bm] w wc := Calm.trans (⟨C3.os, C3.tape, C3.output, C3.size, fun k hk hne => C3.block k hk (by simp at hne ⊢; exact hne.1)⟩ : Calm [bd, bm] w w3) ⟨K5.os, K5.tape, K5.output, K5.size, fun k hk hne => K5.block k hk (by simp at hne ⊢; exact hne.2)⟩
  have z3 := C3.size
  have hmx := maxI_fold
  have c5 := B5.cell
  have d5 := B5.frozen
  have L5 := M5.len 35 22 Try.underlying35
  have L6 := (M5.ext (Ext.refl wc).drew).len 35 22 Try.underlying35
  clear B3 M3 A3 hAF C3 K5
  go_wp2
  go_region
  have B6 := (B5.set 8 (.int .i64 (maxI (st.most : Int) ((st.s : Int) + 1)))).drew
  simp only [List.setIfInBounds_toArray, List.set_cons_succ, List.set_cons_zero] at B6
  have K6 := calm_set wc bd 8 (.int .i64 (maxI (st.most : Int) ((st.s : Int) + 1)))
  have K6' : Calm [bd] wc (wc.setCell ⟨bd, 8, none⟩ (.int .i64 (maxI (st.most : Int) ((st.s : Int) + 1)))).drew := ⟨K6.os, K6.tape, K6.output, K6.size, K6.block⟩
  have M6 := M5.calm K6' (by simpa using h.inF.2.2)
  have o6 := o5.calm K6' (fun k hk => by
    obtain rfl : g = k := Option.some.inj hk
    have h1 := (o5.lt g rfl).1
    have h2 := h.lt.1 _ h.inF.1
    simp
    omega)
  have C6 : Calm [bd, bm] w (wc.setCell ⟨bd, 8, none⟩ (.int .i64 (maxI (st.most : Int) ((st.s : Int) + 1)))).drew := C5.trans ⟨K6'.os, K6'.tape, K6'.output, K6'.size, fun k hk hne => K6'.block k hk (by simp at hne ⊢; exact hne.1)⟩
  clear c5 d5 L5 L6 B5 K6 K6' M5 o5 C5
  generalize (wc.setCell ⟨bd, 8, none⟩ (.int .i64 (maxI (st.most : Int) ((st.s : Int) + 1)))).drew = w6 at *
  have c6 := B6.cell
  have hmm : maxI (st.most : Int) ((st.s : Int) + 1) = ((max st.most (st.s + 1) : Nat) : Int) := by rw [maxI_eq]; omega
  obtain ⟨r1, r2⟩ := h.gain C6 l hl hlb hla hroom g c' (o6.mono z3) (by rw [← hmm]; simpa [hfs] using B6) (by simpa using M6)
  go_wp2
  exact bodyPost_ret (v := .tuple #[.int .i64 ((st.last : Int) + 1), .int .i64 0]) (by simp [results, Try.results10]) rfl ⟨by simp, g, r1, r2⟩
end Go.Proofs.Ytmoihbpjcdmmbaa
