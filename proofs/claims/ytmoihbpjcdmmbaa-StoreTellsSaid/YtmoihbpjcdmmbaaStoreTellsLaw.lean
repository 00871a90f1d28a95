/-
  DERIVED. THE WALK of StoreTells.
-/
import Derived.Test.YtmoihbpjcdmmbaaStoreAwake
namespace Go.Proofs.Ytmoihbpjcdmmbaa
open Go.RowKit Go.Maps
set_option linter.unusedVariables false

theorem cell_block {w : World} {b o : Nat} {v : Value} (h : w.cell? ⟨b, o, none⟩ = some v) : ∃ z T fr, w.heap[b]? = some (.cells z T fr) ∧ z[o]? = some v := by
  unfold World.cell? at h
  split at h
  · rename_i z T fr he
    exact ⟨z, T, fr, he, by simpa using h⟩
  · cases h
theorem set_block {w : World} {b o : Nat} {z : Array Value} {T : TypeId} {fr : Nat × Nat} (h : w.heap[b]? = some (.cells z T fr)) (u : Value) : (w.setCell ⟨b, o, none⟩ u).heap[b]? = some (.cells (z.setIfInBounds o u) T fr) := by
  unfold World.setCell
  rw [Array.getElem?_modify, if_pos rfl, h]
  rfl
theorem block_cell {w : World} {b : Nat} {z : Array Value} {T : TypeId} {fr : Nat × Nat} (h : w.heap[b]? = some (.cells z T fr)) (o : Nat) : w.cell? ⟨b, o, none⟩ = z[o]? := by
  simp [World.cell?, h]
theorem set_back {z : Array Value} {o : Nat} {u v : Value} (h : z[o]? = some v) : (z.setIfInBounds o u).setIfInBounds o v = z := by
  have hlt : o < z.size := (Array.getElem?_eq_some_iff.1 h).1
  apply Array.ext_getElem?
  intro i
  rw [Array.getElem?_setIfInBounds, Array.getElem?_setIfInBounds]
  by_cases e : o = i
  · subst e
    simpa [hlt] using (Array.getElem?_eq_some_iff.1 h).2.symm
  · simp [e]
theorem Calm.close {b : Nat} {w w' : World} (h : Calm [b] w w') (hb : w'.heap[b]? = w.heap[b]?) : Ext w w' := Calm.ext ⟨h.os, h.tape, h.output, h.size, fun k hk _ => by
  by_cases e : k = b
  · rw [e]; exact hb
  · exact h.block k hk (by simpa using e)⟩
theorem Arr.calm {O : List Nat} {w w' : World} {k : IntKind} {b o c n : Nat} {xs : List Int} (h : Arr w k (.slice (some ⟨b, o, none⟩) n c) xs) (hc : Calm O w w') (hb : b ∉ O) : Arr w' k (.slice (some ⟨b, o, none⟩) n c) xs := by
  obtain ⟨⟨ao, cap, e, h1, h2, h3⟩, h4, h5⟩ := h
  cases e
  refine ⟨⟨_, _, rfl, h1, fun hne => ?_, h3⟩, h4, h5⟩
  obtain ⟨b', o', e', hcell⟩ := h2 hne
  cases e'
  refine ⟨b, o, rfl, fun j hj => ?_⟩
  rw [hc.cell (o + j) (cell_lt (hcell j hj)) hb, hcell j hj]

theorem frozen_block {w : World} {b : Nat} {z : Array Value} {T : TypeId} {fr : Nat × Nat} (h : w.heap[b]? = some (.cells z T fr)) (o : Nat) : w.frozen? ⟨b, o, none⟩ = (decide (fr.1 ≤ o) && decide (o < fr.2)) := by
  simp [World.frozen?, h]
theorem Calm.under {O F : List Nat} {a w w' : World} (h : Calm O a w) (k : Calm F w w') (hF : ∀ x ∈ F, a.heap.size ≤ x) : Calm O a w' :=
  ⟨k.os.trans h.os, k.tape.trans h.tape, k.output.trans h.output, Nat.le_trans h.size k.size, fun x hx hO => (k.block x (Nat.lt_of_lt_of_le hx h.size) (fun hin => by have := hF x hin; omega)).trans (h.block x hx hO)⟩
theorem putL_take {l : List Int} (h : l.length = 64) : (putL l).take 64 = l := by
  unfold putL
  rw [← h, List.take_left]
def told (f : Int) (m : Nat) : Int → Option Value := fun y => if y = 0 then some (.agg #[.int .i64 f, .int .u32 m]) else none
/-- the plan that the law makes -/
theorem told_plan {w : World} {b s : Nat} {f : Int} {m : Nat} (hM : Mp bendG w b (told f m) s) (hs : s ≤ 1000) : PlanIs w (.agg #[.slice none 0 0, .slice none 0 0, .map (some b)]) [] [] (told f m) :=
  ⟨_, _, _, rfl, ⟨⟨Option.none, 0, rfl, Nat.le_refl _, fun h => absurd rfl h, fun _ => rfl⟩, Nat.zero_le _, fun n hn => by cases hn⟩, ⟨⟨Option.none, 0, rfl, Nat.le_refl _, fun h => absurd rfl h, fun _ => rfl⟩, Nat.zero_le _, fun n hn => by cases hn⟩, by simp, by simp, .inr ⟨b, s, rfl, hs, hM⟩⟩
theorem told_plan0 {w : World} {b s g : Nat} {f : Int} {m : Nat} (hM : Mp bendG w b (told f m) s) (hs : s ≤ 1000) (hg : w.cell? ⟨g, 0, none⟩ = some (.int .i64 0)) : PlanIs w (.agg #[.slice none 0 0, .slice (some ⟨g, 0, none⟩) 1 1, .map (some b)]) [] [0] (told f m) :=
  ⟨_, _, _, rfl, ⟨⟨Option.none, 0, rfl, Nat.le_refl _, fun h => absurd rfl h, fun _ => rfl⟩, Nat.zero_le _, fun n hn => by cases hn⟩, ⟨⟨some ⟨g, 0, none⟩, 1, rfl, Nat.le_refl _, fun h => ⟨g, 0, rfl, fun j hj => by
    obtain rfl : j = 0 := by simpa using hj
    simpa using hg⟩, fun h => by cases h⟩, by simp [maxLen], fun n hn => by
      have : n = 0 := by simpa using hn
      subst this
      exact wfi (by omega)⟩, by simp, by simp, .inr ⟨b, s, rfl, hs, hM⟩⟩

set_option maxRecDepth 100000 in
set_option maxHeartbeats 4000000 in
theorem storeTells_row {w : World} (v0 : Value) (l : List Int) (f m0 : Int) (fl : Bool) (h0 : Arr w .u8 v0 l) (hfr : ∀ b off n c, v0 = .slice (some ⟨b, off, none⟩) n c → ∀ j, j < l.length → w.frozen? ⟨b, off + j, none⟩ = false) (hf : -9223372036854775808 ≤ f ∧ f ≤ 9223372036854775807) (hm0 : 0 ≤ m0 ∧ m0 ≤ 4294967295) :
    Calls Try.prog 4 #[v0, .agg #[.int .i64 f, .int .u32 m0], .bool fl] w fun e w' => e = .returned (.bool true) ∧ Ext w w' := by
  obtain ⟨m, rfl⟩ : ∃ m : Nat, m0 = m := ⟨m0.toNat, by omega⟩
  have hA := h0
  have hb := h0.bd
  have hmost := h0.most
  unfold maxLen at hmost
  obtain ⟨⟨ao, c, rfl, hcap, hcl, -⟩, -, -⟩ := h0
  have hmm := @run_makeMap Try.prog
  by_cases hl : l.length = 64
  · obtain ⟨b0, off, rfl, hcell⟩ := hcl (by intro e; rw [e] at hl; simp at hl)
    obtain ⟨y, hy0⟩ : ∃ y, l[0]? = some y := ⟨_, List.getElem?_eq_getElem (by omega)⟩
    have hyb := hb y (List.mem_of_getElem? hy0)
    have hc0 : w.cell? ⟨b0, off, none⟩ = some (.int .u8 y) := by
      have := hcell 0 (by omega)
      simpa [List.getD, hy0] using this
    have hf0 : w.frozen? ⟨b0, off, none⟩ = false := by simpa using hfr b0 off _ _ rfl 0 (by omega)
    have hb0l := cell_lt hc0
    obtain ⟨z, T, fr, hz, hzo⟩ := cell_block hc0
    clear hcl hcell hfr
    rw [hl] at hA hcap
    have B0 := Blk.new w #[.int .i64 f, .int .u32 m] 32
    rw [hl]
    go_enter Try.func4, Try.ntmps4
    go_wp2_with fail
    refine (awake6_any _).mono ?_
    rintro e w1 ⟨rfl, e1⟩
    have E1 := ((Ext.refl w).alloc #[.int .i64 f, .int .u32 m] 32).trans e1
    have B1 := (B0.ext e1).alloc (.map #[] 0)
    have c1 := B1.cell
    obtain ⟨w2, hr2, M2, K2⟩ := (Mp.made bendG w1).store 26 32 Try.underlying26 (by simp [maxLen]) (x := 0) (wfi (by omega)) (v := .agg #[.int .i64 f, .int .u32 m]) (bendG_mk hf (by omega))
    have M2' : Mp bendG w2 w1.heap.size (told f m) 1 := M2
    have E2 : Ext w w2 := Ext.calm_trans (E1.obj (.map #[] 0)) K2 (by simpa using E1.size)
    clear B0 e1 M2 K2
    cases fl
    · go_wp2_with fail
      refine (new_any _ 3 (by omega) _ [] [] (told f m) (told_plan (M2'.ext ((Ext.refl w2).alloc _ _)) (by omega))).mono ?_
      rintro e w3 ⟨bd, F, R, rfl, D3, x3, hF, hR⟩
      have E3 : Ext w w3 := Ext.trans (by exact ((E2.alloc _ _))) x3
      have z2 := E2.size
      have hFw : ∀ k ∈ F, w.heap.size ≤ k := fun k hk => by have := hF k hk; simp at this; omega
      have hRw : ∀ k ∈ R, w.heap.size ≤ k := fun k hk => by have := hR k hk; simp at this; omega
      have hbF : b0 ∉ F := fun hk => by have := hFw _ hk; omega
      have hbR : b0 ∉ R := fun hk => by have := hRw _ hk; omega
      have D3' : Dev w3 F R bd ⟨[], [], told f m, fun _ => none, 0, 3, 0, 0, 0, 0⟩ := D3
      clear D3 hF hR x3 c1 B1 hr2 M2' E1 E2 z2 hmm
      go_wp2_with fail
      refine (dev_Put _ F R bd _ D3' _ l (hA.ext E3) (fun w' hc => (hA.ext E3).calm hc hbF) hl (Nat.zero_le _) (Nat.zero_le _) (by show 0 < 3; omega) (by simp) rfl).mono ?_
      rintro e w4 ⟨he, g, D4, K4⟩
      have he' : e = .returned (.tuple #[.int .i64 1, .int .i64 0]) := he
      subst he'
      have E4 : Ext w w4 := Step.ext E3 K4 hFw
      have hFw4 := K4.above hFw E3.size
      have hbF4 : b0 ∉ g :: F := fun hk => by have := hFw4 _ hk; omega
      have hc4 := E4.old hc0
      have hf4 := (E4.fr ⟨b0, off, none⟩ hb0l).trans hf0
      clear he D3' K4
      have D4' : Dev w4 (g :: F) R bd ⟨[], [], told f m, fun y => if y = 1 then some l else none, 1, 3, 1, 1, 0, 1⟩ := D4
      have hlt4 := D4'.lt.1
      have hz4 := E4.size
      have K5 := calm_set w4 b0 off (.int .u8 ((y + 1) % 256))
      have D5 := D4'.calm K5 (by
        intro k hk _
        obtain rfl : k = b0 := by simpa using hk
        exact ⟨hbF4, hbR⟩)
      have hb5 := set_block (o := off) ((E4.block hb0l).trans hz) (.int .u8 ((y + 1) % 256))
      have C5 : Calm [b0] w (w4.setCell ⟨b0, off, none⟩ (.int .u8 ((y + 1) % 256))) := (E4.calm _).trans K5
      clear D4 D4' K5
      have hzl : off < z.size := (Array.getElem?_eq_some_iff.1 hzo).1
      have hback : ((y + 1) % 256 - 1) % 256 = y := by omega
      go_wp2_with fail
      refine (dev_Take _ (g :: F) R bd _ D5 1 (wfi (by omega)) l rfl (Nat.zero_le _) f m rfl hf (by omega)).mono ?_
      rintro e w6 ⟨D6, K6, hcase⟩
      have D6' : Dev w6 (g :: F) R bd ⟨[], [], told f m, fun y => if y = 1 then none else if y = 1 then some l else none, 0, 3, 1, 1, 1, 1⟩ := D6
      have hb6 := (K6.block b0 (Nat.lt_of_lt_of_le hb0l C5.size) hbF4).trans hb5
      have C6 := C5.under K6 hFw4
      have hc6 : w6.cell? ⟨b0, off, none⟩ = some (.int .u8 ((y + 1) % 256)) := by rw [block_cell hb6]; simp [hzl]
      have hf6 : w6.frozen? ⟨b0, off, none⟩ = false := by rw [frozen_block hb6, ← frozen_block hz]; exact hf0
      have K7 := calm_set w6 b0 off (.int .u8 y)
      have hb7 := set_block (o := off) hb6 (.int .u8 y)
      rw [set_back hzo] at hb7
      have C7 : Calm [b0] w (w6.setCell ⟨b0, off, none⟩ (.int .u8 y)) := C6.trans K7
      have E7 := C7.close (hb7.trans hz.symm)
      have D7 := D6'.calm K7 (by
        intro k hk _
        obtain rfl : k = b0 := by simpa using hk
        exact ⟨hbF4, hbR⟩)
      have hcase' : e = .returned (.tuple #[.slice none 0 0, .int .i64 10]) ∨ (decide ((0 : Int) ∈ ([] : List Int)) = false ∧ ∃ v', e = .returned (.tuple #[v', .int .i64 0]) ∧ Own w6 w4.heap.size v' l) := by
        rcases hcase with ⟨_, he⟩ | ⟨hg, v', he, o6⟩
        · exact .inl he
        · have hg' : (decide ((0 : Int) ∈ ([] : List Int)) || !rightB (bendL (putL l) f m)) = false := hg
          obtain ⟨hg1, hg2⟩ := Bool.or_eq_false_iff.1 hg'
          have hX := bend_told (putL l) f m hf (by omega) (by rw [putL_length hl]; omega) (by rw [putL_length hl]; omega) (putL_bd hb) (put_reg l hb) (by simpa using hg2)
          rw [hX, putL_take hl] at o6
          exact .inr ⟨hg1, v', he, by simpa using o6⟩
      clear hcase D6 D6' hb5 hb6 C5 C6 hc4 hf4 D5
      generalize hw7 : w6.setCell ⟨b0, off, none⟩ (.int .u8 y) = w7 at *
      have HW7 := Lib.hid hw7
      clear hw7
      rcases hcase' with rfl | ⟨hlst, v', rfl, o6⟩
      · go_wp2_with fail
        rw [HW7.out]
        refine (dev_Take_none _ (g :: F) R bd _ D7 1 (wfi (by omega)) rfl).mono ?_
        rintro e w8 ⟨rfl, rfl⟩
        go_wp2_with fail
        refine (dev_Put _ (g :: F) R bd _ D7 _ l (hA.ext E7) (fun w' hc => (hA.ext E7).calm hc hbF4) hl (by show 1 ≤ 1000000; omega) (by show 1 ≤ 1000000; omega) (by show 0 < 3; omega) (by simp) (by simp)).mono ?_
        rintro e w8 ⟨he, g2, D8, K8⟩
        have he' : e = .returned (.tuple #[.int .i64 2, .int .i64 0]) := he
        subst he'
        have D8' : Dev w8 (g2 :: g :: F) R bd ⟨[], [], told f m, fun y => if y = 2 then some l else if y = 1 then none else if y = 1 then some l else none, 1, 3, 2, 2, 1, 1⟩ := D8
        have E8 := Step.ext E7 K8 hFw4
        have hFw8 := K8.above hFw4 E7.size
        have hg2 : w7.heap.size ≤ g2 ∨ g2 ∈ g :: F := (K8.2 g2 (by simp)).symm
        clear D8 he D7
        go_wp2_with fail
        refine (dev_Take _ _ R bd _ D8' 2 (wfi (by omega)) l rfl (by show 1 ≤ 1000000; omega) 0 0 rfl (by omega) (by omega)).mono ?_
        rintro e w9 ⟨D9, K9, hcase⟩
        have D9' : Dev w9 (g2 :: g :: F) R bd ⟨[], [], told f m, fun y => if y = 2 then none else if y = 2 then some l else if y = 1 then none else if y = 1 then some l else none, 0, 3, 2, 2, 2, 1⟩ := D9
        have E9 := Ext.calm_trans E8 K9 hFw8
        obtain ⟨v9, rfl, o9⟩ : ∃ v', e = .returned (.tuple #[v', .int .i64 0]) ∧ Own w9 w8.heap.size v' l := by
          rcases hcase with ⟨h1, _⟩ | ⟨_, v', he, o⟩
          · exfalso
            have h1' : (decide ((1 : Int) ∈ ([] : List Int)) || !rightB (bendL (putL l) 0 0)) = true := h1
            rw [bendL_zero, show rightB (putL l) = true from put_right l] at h1'
            simp at h1'
          · rw [bendL_zero, putL_take hl] at o
            exact ⟨v', he, o⟩
        have s1 := (hA.ext E9).str
        have s9 := o9.str
        clear D9 hcase D8' K8 K9
        go_wp2_with fail
        refine (dev_Used _ _ R bd _ D9').mono ?_
        rintro e wA ⟨rfl, rfl⟩
        go_wp2
        go_ret
        exact ⟨rfl, E9⟩
      · try (exfalso; revert hlst; decide)
        all_goals
          go_wp2_with fail
          rw [HW7.out]
          refine (dev_Take_none _ (g :: F) R bd _ D7 1 (wfi (by omega)) rfl).mono ?_
          rintro e w8 ⟨rfl, rfl⟩
          go_wp2_with fail
          refine (dev_Put _ (g :: F) R bd _ D7 _ l (hA.ext E7) (fun w' hc => (hA.ext E7).calm hc hbF4) hl (by show 1 ≤ 1000000; omega) (by show 1 ≤ 1000000; omega) (by show 0 < 3; omega) (by simp) (by simp)).mono ?_
          rintro e w8 ⟨he, g2, D8, K8⟩
          have he' : e = .returned (.tuple #[.int .i64 2, .int .i64 0]) := he
          subst he'
          have D8' : Dev w8 (g2 :: g :: F) R bd ⟨[], [], told f m, fun y => if y = 2 then some l else if y = 1 then none else if y = 1 then some l else none, 1, 3, 2, 2, 1, 1⟩ := D8
          have E8 := Step.ext E7 K8 hFw4
          have hFw8 := K8.above hFw4 E7.size
          have hg2 : w7.heap.size ≤ g2 ∨ g2 ∈ g :: F := (K8.2 g2 (by simp)).symm
          clear D8 he D7
          go_wp2_with fail
          refine (dev_Take _ _ R bd _ D8' 2 (wfi (by omega)) l rfl (by show 1 ≤ 1000000; omega) 0 0 rfl (by omega) (by omega)).mono ?_
          rintro e w9 ⟨D9, K9, hcase⟩
          have D9' : Dev w9 (g2 :: g :: F) R bd ⟨[], [], told f m, fun y => if y = 2 then none else if y = 2 then some l else if y = 1 then none else if y = 1 then some l else none, 0, 3, 2, 2, 2, 1⟩ := D9
          have E9 := Ext.calm_trans E8 K9 hFw8
          obtain ⟨v9, rfl, o9⟩ : ∃ v', e = .returned (.tuple #[v', .int .i64 0]) ∧ Own w9 w8.heap.size v' l := by
            rcases hcase with ⟨h1, _⟩ | ⟨_, v', he, o⟩
            · exfalso
              have h1' : (decide ((1 : Int) ∈ ([] : List Int)) || !rightB (bendL (putL l) 0 0)) = true := h1
              rw [bendL_zero, show rightB (putL l) = true from put_right l] at h1'
              simp at h1'
            · rw [bendL_zero, putL_take hl] at o
              exact ⟨v', he, o⟩
          have s1 := (hA.ext E9).str
          have s9 := o9.str
          have o7 : Own w7 w4.heap.size v' l := o6.calm K7 (fun k hk => by have := (o6.lt k hk).1; simp; omega)
          have o8 := o7.calm K8.1 (fun k hk hin => by have h1 := (o6.lt k hk).1; have h2 := hlt4 k hin; omega)
          have oZ := o8.calm K9 (fun k hk hin => by
            have h1 := (o7.lt k hk)
            rcases List.mem_cons.1 hin with e | h2
            · rcases hg2 with h3 | h3
              · omega
              · have := hlt4 _ h3; omega
            · have := hlt4 k h2; omega)
          have sZ := oZ.str
          clear D9 hcase D8' K8 K9
          go_wp2_with fail
          refine (dev_Used _ _ R bd _ D9').mono ?_
          rintro e wA ⟨rfl, rfl⟩
          go_wp2
          go_ret
          exact ⟨rfl, E9⟩
    · go_wp2_with fail
      refine (new_any _ 3 (by omega) _ [] [0] (told f m) (told_plan0 (M2'.ext (((Ext.refl w2).alloc _ _).alloc _ _)) (by omega) (by simp))).mono ?_
      rintro e w3 ⟨bd, F, R, rfl, D3, x3, hF, hR⟩
      have E3 : Ext w w3 := Ext.trans (by exact (((E2.alloc _ _).alloc _ _))) x3
      have z2 := E2.size
      have hFw : ∀ k ∈ F, w.heap.size ≤ k := fun k hk => by have := hF k hk; simp at this; omega
      have hRw : ∀ k ∈ R, w.heap.size ≤ k := fun k hk => by have := hR k hk; simp at this; omega
      have hbF : b0 ∉ F := fun hk => by have := hFw _ hk; omega
      have hbR : b0 ∉ R := fun hk => by have := hRw _ hk; omega
      have D3' : Dev w3 F R bd ⟨[], [0], told f m, fun _ => none, 0, 3, 0, 0, 0, 0⟩ := D3
      clear D3 hF hR x3 c1 B1 hr2 M2' E1 E2 z2 hmm
      go_wp2_with fail
      refine (dev_Put _ F R bd _ D3' _ l (hA.ext E3) (fun w' hc => (hA.ext E3).calm hc hbF) hl (Nat.zero_le _) (Nat.zero_le _) (by show 0 < 3; omega) (by simp) rfl).mono ?_
      rintro e w4 ⟨he, g, D4, K4⟩
      have he' : e = .returned (.tuple #[.int .i64 1, .int .i64 0]) := he
      subst he'
      have E4 : Ext w w4 := Step.ext E3 K4 hFw
      have hFw4 := K4.above hFw E3.size
      have hbF4 : b0 ∉ g :: F := fun hk => by have := hFw4 _ hk; omega
      have hc4 := E4.old hc0
      have hf4 := (E4.fr ⟨b0, off, none⟩ hb0l).trans hf0
      clear he D3' K4
      have D4' : Dev w4 (g :: F) R bd ⟨[], [0], told f m, fun y => if y = 1 then some l else none, 1, 3, 1, 1, 0, 1⟩ := D4
      have hlt4 := D4'.lt.1
      have hz4 := E4.size
      have K5 := calm_set w4 b0 off (.int .u8 ((y + 1) % 256))
      have D5 := D4'.calm K5 (by
        intro k hk _
        obtain rfl : k = b0 := by simpa using hk
        exact ⟨hbF4, hbR⟩)
      have hb5 := set_block (o := off) ((E4.block hb0l).trans hz) (.int .u8 ((y + 1) % 256))
      have C5 : Calm [b0] w (w4.setCell ⟨b0, off, none⟩ (.int .u8 ((y + 1) % 256))) := (E4.calm _).trans K5
      clear D4 D4' K5
      have hzl : off < z.size := (Array.getElem?_eq_some_iff.1 hzo).1
      have hback : ((y + 1) % 256 - 1) % 256 = y := by omega
      go_wp2_with fail
      refine (dev_Take _ (g :: F) R bd _ D5 1 (wfi (by omega)) l rfl (Nat.zero_le _) f m rfl hf (by omega)).mono ?_
      rintro e w6 ⟨D6, K6, hcase⟩
      have D6' : Dev w6 (g :: F) R bd ⟨[], [0], told f m, fun y => if y = 1 then none else if y = 1 then some l else none, 0, 3, 1, 1, 1, 1⟩ := D6
      have hb6 := (K6.block b0 (Nat.lt_of_lt_of_le hb0l C5.size) hbF4).trans hb5
      have C6 := C5.under K6 hFw4
      have hc6 : w6.cell? ⟨b0, off, none⟩ = some (.int .u8 ((y + 1) % 256)) := by rw [block_cell hb6]; simp [hzl]
      have hf6 : w6.frozen? ⟨b0, off, none⟩ = false := by rw [frozen_block hb6, ← frozen_block hz]; exact hf0
      have K7 := calm_set w6 b0 off (.int .u8 y)
      have hb7 := set_block (o := off) hb6 (.int .u8 y)
      rw [set_back hzo] at hb7
      have C7 : Calm [b0] w (w6.setCell ⟨b0, off, none⟩ (.int .u8 y)) := C6.trans K7
      have E7 := C7.close (hb7.trans hz.symm)
      have D7 := D6'.calm K7 (by
        intro k hk _
        obtain rfl : k = b0 := by simpa using hk
        exact ⟨hbF4, hbR⟩)
      have hcase' : e = .returned (.tuple #[.slice none 0 0, .int .i64 10]) ∨ (decide ((0 : Int) ∈ ([0] : List Int)) = false ∧ ∃ v', e = .returned (.tuple #[v', .int .i64 0]) ∧ Own w6 w4.heap.size v' l) := by
        rcases hcase with ⟨_, he⟩ | ⟨hg, v', he, o6⟩
        · exact .inl he
        · have hg' : (decide ((0 : Int) ∈ ([0] : List Int)) || !rightB (bendL (putL l) f m)) = false := hg
          obtain ⟨hg1, hg2⟩ := Bool.or_eq_false_iff.1 hg'
          have hX := bend_told (putL l) f m hf (by omega) (by rw [putL_length hl]; omega) (by rw [putL_length hl]; omega) (putL_bd hb) (put_reg l hb) (by simpa using hg2)
          rw [hX, putL_take hl] at o6
          exact .inr ⟨hg1, v', he, by simpa using o6⟩
      clear hcase D6 D6' hb5 hb6 C5 C6 hc4 hf4 D5
      generalize hw7 : w6.setCell ⟨b0, off, none⟩ (.int .u8 y) = w7 at *
      have HW7 := Lib.hid hw7
      clear hw7
      rcases hcase' with rfl | ⟨hlst, v', rfl, o6⟩
      · go_wp2_with fail
        rw [HW7.out]
        refine (dev_Take_none _ (g :: F) R bd _ D7 1 (wfi (by omega)) rfl).mono ?_
        rintro e w8 ⟨rfl, rfl⟩
        go_wp2_with fail
        refine (dev_Put _ (g :: F) R bd _ D7 _ l (hA.ext E7) (fun w' hc => (hA.ext E7).calm hc hbF4) hl (by show 1 ≤ 1000000; omega) (by show 1 ≤ 1000000; omega) (by show 0 < 3; omega) (by simp) (by simp)).mono ?_
        rintro e w8 ⟨he, g2, D8, K8⟩
        have he' : e = .returned (.tuple #[.int .i64 2, .int .i64 0]) := he
        subst he'
        have D8' : Dev w8 (g2 :: g :: F) R bd ⟨[], [0], told f m, fun y => if y = 2 then some l else if y = 1 then none else if y = 1 then some l else none, 1, 3, 2, 2, 1, 1⟩ := D8
        have E8 := Step.ext E7 K8 hFw4
        have hFw8 := K8.above hFw4 E7.size
        have hg2 : w7.heap.size ≤ g2 ∨ g2 ∈ g :: F := (K8.2 g2 (by simp)).symm
        clear D8 he D7
        go_wp2_with fail
        refine (dev_Take _ _ R bd _ D8' 2 (wfi (by omega)) l rfl (by show 1 ≤ 1000000; omega) 0 0 rfl (by omega) (by omega)).mono ?_
        rintro e w9 ⟨D9, K9, hcase⟩
        have D9' : Dev w9 (g2 :: g :: F) R bd ⟨[], [0], told f m, fun y => if y = 2 then none else if y = 2 then some l else if y = 1 then none else if y = 1 then some l else none, 0, 3, 2, 2, 2, 1⟩ := D9
        have E9 := Ext.calm_trans E8 K9 hFw8
        obtain ⟨v9, rfl, o9⟩ : ∃ v', e = .returned (.tuple #[v', .int .i64 0]) ∧ Own w9 w8.heap.size v' l := by
          rcases hcase with ⟨h1, _⟩ | ⟨_, v', he, o⟩
          · exfalso
            have h1' : (decide ((1 : Int) ∈ ([0] : List Int)) || !rightB (bendL (putL l) 0 0)) = true := h1
            rw [bendL_zero, show rightB (putL l) = true from put_right l] at h1'
            simp at h1'
          · rw [bendL_zero, putL_take hl] at o
            exact ⟨v', he, o⟩
        have s1 := (hA.ext E9).str
        have s9 := o9.str
        clear D9 hcase D8' K8 K9
        go_wp2_with fail
        refine (dev_Used _ _ R bd _ D9').mono ?_
        rintro e wA ⟨rfl, rfl⟩
        go_wp2
        go_ret
        exact ⟨rfl, E9⟩
      · try (exfalso; revert hlst; decide)
        all_goals
          go_wp2_with fail
          rw [HW7.out]
          refine (dev_Take_none _ (g :: F) R bd _ D7 1 (wfi (by omega)) rfl).mono ?_
          rintro e w8 ⟨rfl, rfl⟩
          go_wp2_with fail
          refine (dev_Put _ (g :: F) R bd _ D7 _ l (hA.ext E7) (fun w' hc => (hA.ext E7).calm hc hbF4) hl (by show 1 ≤ 1000000; omega) (by show 1 ≤ 1000000; omega) (by show 0 < 3; omega) (by simp) (by simp)).mono ?_
          rintro e w8 ⟨he, g2, D8, K8⟩
          have he' : e = .returned (.tuple #[.int .i64 2, .int .i64 0]) := he
          subst he'
          have D8' : Dev w8 (g2 :: g :: F) R bd ⟨[], [0], told f m, fun y => if y = 2 then some l else if y = 1 then none else if y = 1 then some l else none, 1, 3, 2, 2, 1, 1⟩ := D8
          have E8 := Step.ext E7 K8 hFw4
          have hFw8 := K8.above hFw4 E7.size
          have hg2 : w7.heap.size ≤ g2 ∨ g2 ∈ g :: F := (K8.2 g2 (by simp)).symm
          clear D8 he D7
          go_wp2_with fail
          refine (dev_Take _ _ R bd _ D8' 2 (wfi (by omega)) l rfl (by show 1 ≤ 1000000; omega) 0 0 rfl (by omega) (by omega)).mono ?_
          rintro e w9 ⟨D9, K9, hcase⟩
          have D9' : Dev w9 (g2 :: g :: F) R bd ⟨[], [0], told f m, fun y => if y = 2 then none else if y = 2 then some l else if y = 1 then none else if y = 1 then some l else none, 0, 3, 2, 2, 2, 1⟩ := D9
          have E9 := Ext.calm_trans E8 K9 hFw8
          obtain ⟨v9, rfl, o9⟩ : ∃ v', e = .returned (.tuple #[v', .int .i64 0]) ∧ Own w9 w8.heap.size v' l := by
            rcases hcase with ⟨h1, _⟩ | ⟨_, v', he, o⟩
            · exfalso
              have h1' : (decide ((1 : Int) ∈ ([0] : List Int)) || !rightB (bendL (putL l) 0 0)) = true := h1
              rw [bendL_zero, show rightB (putL l) = true from put_right l] at h1'
              simp at h1'
            · rw [bendL_zero, putL_take hl] at o
              exact ⟨v', he, o⟩
          have s1 := (hA.ext E9).str
          have s9 := o9.str
          have o7 : Own w7 w4.heap.size v' l := o6.calm K7 (fun k hk => by have := (o6.lt k hk).1; simp; omega)
          have o8 := o7.calm K8.1 (fun k hk hin => by have h1 := (o6.lt k hk).1; have h2 := hlt4 k hin; omega)
          have oZ := o8.calm K9 (fun k hk hin => by
            have h1 := (o7.lt k hk)
            rcases List.mem_cons.1 hin with e | h2
            · rcases hg2 with h3 | h3
              · omega
              · have := hlt4 _ h3; omega
            · have := hlt4 k h2; omega)
          have sZ := oZ.str
          clear D9 hcase D8' K8 K9
          go_wp2_with fail
          refine (dev_Used _ _ R bd _ D9').mono ?_
          rintro e wA ⟨rfl, rfl⟩
          go_wp2
          go_ret
          exact ⟨rfl, E9⟩
  · have hl' : (l.length : Int) ≠ 64 := by omega
    go_enter Try.func4, Try.ntmps4
    go_wp2_with fail
    refine (awake6_any _).mono ?_
    rintro e w1 ⟨rfl, e1⟩
    go_wp2
    go_ret
    exact ⟨rfl, ((Ext.refl w).alloc _ _).trans e1⟩
end Go.Proofs.Ytmoihbpjcdmmbaa
