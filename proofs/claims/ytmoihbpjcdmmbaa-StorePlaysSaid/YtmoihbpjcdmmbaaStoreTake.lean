/-
  DERIVED. Layer 6 (store): Take.
-/
import Derived.Test.YtmoihbpjcdmmbaaStoreOps
namespace Go.Proofs.Ytmoihbpjcdmmbaa
open Go.RowKit Go.Maps
set_option linter.unusedVariables false

theorem putL_length {l : List Int} (h : l.length = 64) : (putL l).length = 68 := by unfold putL; rw [put_length, h]
theorem putL_bd {l : List Int} (hb : ∀ y ∈ l, 0 ≤ y ∧ y ≤ 255) : ∀ y ∈ putL l, 0 ≤ y ∧ y ≤ 255 := put_bd l hb
theorem Own.some {w : World} {base : Nat} {v : Value} {l : List Int} (h : Own w base v l) (hl : 0 < l.length) : ∃ g c, v = .slice (some ⟨g, 0, none⟩) l.length c := by
  obtain ⟨ao, c, rfl, h0, ha⟩ := h.slice
  cases ao with
  | none => rw [(h0 rfl).1] at hl; simp at hl
  | some a => exact ⟨a.block, c, by rw [ha a rfl]⟩

set_option maxRecDepth 100000 in
theorem dev_Take_none (w : World) (F R : List Nat) (bd : Nat) (st : DSt) (h : Dev w F R bd st) (n : Int) (hn : (Lit.int .i64 n).wf = true) (hb : st.bl n = none) :
    Calls Try.prog 12 #[.pointer (some ⟨bd, 0, none⟩), .int .i64 n] w fun e w' => e = .returned (.tuple #[.slice none 0 0, .int .i64 9]) ∧ w = w' := by
  obtain ⟨bm, sf, sl, bb, fm, h⟩ := h
  have hf := h.free hn hb
  have hc := h.cells.cell
  have hk := h.map.look 35 22 Try.underlying35 (.slice none 0 0) (zero_row w) true hn
  rw [hf] at hk
  simp only [if_true, Option.getD_none, Option.isSome_none] at hk
  go_enter Try.func12, Try.ntmps12
  go_wp2
  exact bodyPost_ret (v := .tuple #[.slice none 0 0, .int .i64 9]) (by simp [results, Try.results12]) rfl ⟨rfl, rfl⟩

/-- the block after the take's bend -/
def bentX (st : DSt) (l : List Int) (f : Int) (m : Nat) : List Int := bendL (putL l) f m

set_option maxRecDepth 100000 in
set_option maxHeartbeats 4000000 in
theorem dev_Take (w : World) (F R : List Nat) (bd : Nat) (st : DSt) (h : Dev w F R bd st) (n : Int) (hn : (Lit.int .i64 n).wf = true) (l : List Int) (hb : st.bl n = some l) (ht : st.takes ≤ 1000000)
    (f : Int) (m : Nat) (hx : (st.bends st.takes).getD (.agg #[.int .i64 0, .int .u32 0]) = .agg #[.int .i64 f, .int .u32 m]) (hf64 : -9223372036854775808 ≤ f ∧ f ≤ 9223372036854775807) (hm32 : m < 4294967296) :
    Calls Try.prog 12 #[.pointer (some ⟨bd, 0, none⟩), .int .i64 n] w fun e w' => Dev w' F R bd { st.without n with takes := st.takes + 1 } ∧ Calm F w w' ∧
      ((decide ((st.takes : Int) ∈ st.fail) || !rightB (bendL (putL l) f m)) = true ∧ e = .returned (.tuple #[.slice none 0 0, .int .i64 10]) ∨
       (decide ((st.takes : Int) ∈ st.fail) || !rightB (bendL (putL l) f m)) = false ∧ ∃ v', e = .returned (.tuple #[v', .int .i64 0]) ∧ Own w' w.heap.size v' ((bendL (putL l) f m).take 64)) := by
  obtain ⟨bm, sf, sl, bb, fm, h⟩ := h
  obtain ⟨v, hf⟩ := h.held hn hb
  obtain ⟨l', hb', hl64, hlb, hO, hOF⟩ := h.rows n v hn hf
  rw [hb] at hb'
  cases hb'
  have hpl := putL_length hl64
  have hpb := putL_bd hlb
  obtain ⟨g, c, hvs⟩ := hO.some (by omega)
  rw [hpl] at hvs
  subst hvs
  have hc := h.cells.cell
  have hk := h.map.look 35 22 Try.underlying35 (.slice none 0 0) (zero_row w) true hn
  rw [hf] at hk
  simp only [if_true, Option.getD_some, Option.isSome_some] at hk
  have hgF := hOF g rfl
  have htw : (Lit.int .i64 (st.takes : Int)).wf = true := wfi (by omega)
  go_enter Try.func12, Try.ntmps12
  go_wp2_with (first
    | (at_delete; refine wpList_drop_mp rfl _ _ 35 rfl 22 Try.underlying35 anyV bm _ fm rfl h.map n hn rfl ?_
       intro w1 hm1 hc1
       have B1 : Blk w1 bd _ _ := (hc1.block bd (h.lt.1 _ h.inF.1) (by simpa using Ne.symm h.inF.2.2)).trans h.cells
       have c1 := B1.cell
       have d1 := B1.frozen
       have B2 := B1.set 7 (.int .i64 ((st.takes : Int) + 1))
       simp only [List.setIfInBounds_toArray, List.set_cons_succ, List.set_cons_zero] at B2
       have K2 := calm_set w1 bd 7 (.int .i64 ((st.takes : Int) + 1))
       have hc2 : Calm [bd, bm] w (w1.setCell ⟨bd, 7, none⟩ (.int .i64 ((st.takes : Int) + 1))) := Calm.trans ⟨hc1.os, hc1.tape, hc1.output, hc1.size, fun k hk hne => hc1.block k hk (by simp at hne ⊢; exact hne.2)⟩ ⟨K2.os, K2.tape, K2.output, K2.size, fun k hk hne => K2.block k hk (by simp at hne ⊢; exact hne.1)⟩
       have hcF2 : Calm F w (w1.setCell ⟨bd, 7, none⟩ (.int .i64 ((st.takes : Int) + 1))) := ⟨hc2.os, hc2.tape, hc2.output, hc2.size, fun k hk hne => hc2.block k hk (fun ho => by
         simp at ho
         rcases ho with rfl | rfl
         · exact hne h.inF.1
         · exact hne h.inF.2.1)⟩
       obtain ⟨-, -, s', hbd⟩ := h.fresh hcF2
       have hk2 := hbd.look 26 32 Try.underlying26 (.agg #[.int .i64 0, .int .u32 0]) (zero_bend _) false htw
       rw [hx] at hk2
       simp only [Bool.false_eq_true, if_false] at hk2
       have hO2 := hO.calm hc2 (fun k hk => by
         cases hk
         simp
         exact ⟨hgF.2.1, hgF.2.2⟩)
       have M2 := hm1.calm K2 (by simpa using h.inF.2.2))
    | fail)
  refine (invert_any _ f m hf64 hm32 _ (putL l) 0 hO2 (by omega) hpb).mono ?_
  rintro e w3 ⟨rfl, o3, k3⟩
  have k3' : Calm [g] _ w3 := k3
  have B3 : Blk w3 bd _ _ := (k3'.block bd B2.lt (by simpa using Ne.symm hgF.2.1)).trans B2
  have M3 := M2.calm k3' (by simpa using Ne.symm hgF.2.2)
  have C3 : Calm [bd, bm, g] w w3 := Calm.trans ⟨hc2.os, hc2.tape, hc2.output, hc2.size, fun k hk hne => hc2.block k hk (by simp at hne ⊢; exact ⟨hne.1, hne.2.1⟩)⟩ ⟨k3'.os, k3'.tape, k3'.output, k3'.size, fun k hk hne => k3'.block k hk (by simp at hne ⊢; exact hne.2.2)⟩
  have hlost := fun (w' : World) (hx' : Ext w3 w') => h.lost hn hf [bd, bm, g] (Calm.trans C3 (hx'.calm _)) (by
    intro k hk
    simp at hk
    rcases hk with rfl | rfl | rfl
    · exact .inl rfl
    · exact .inr (.inl rfl)
    · exact .inr (.inr rfl)) (st.takes + 1) (by simpa using B3.ext hx') (M3.ext hx')
  have cF3 : Calm F w w3 := (hlost w3 (Ext.refl _)).2
  have hA := (h.fail.calm cF3 fun k hk => h.disj k (h.inR.2.2 k hk)).arr h.failw.2
  have c3 := B3.cell
  have hXl : (bendL (putL l) f m).length = 68 := (bendK_length _ f m 32).trans hpl
  have hXb : ∀ y ∈ bendL (putL l) f m, 0 ≤ y ∧ y ≤ 255 := bendK_bd _ f m hpb 32
  have fw := h.failw.1
  have hsz := C3.size
  clear hk hk2 hc c1 d1 hc1 hc2 hcF2 B1 B2 K2 M2 hm1 hO2 hO hbd hx k3 k3' B3 M3 C3 cF3 hpb hpl
  generalize hXe : bendL (putL l) f m = X at *
  have HXE := Lib.hid hXe
  clear hXe
  obtain ⟨sa, sc, hsl, -, -⟩ := h.fail.slice
  rw [hsl] at hA c3
  go_wp2_with fail
  refine (contains_any _ _ st.fail _ hA (by omega) htw).mono ?_
  rintro e w4 ⟨rfl, rfl⟩
  cases hfail : decide ((st.takes : Int) ∈ st.fail)
  · go_wp2_with fail
    refine (right_any _ _ X (o3.arr hXb) (by omega)).mono ?_
    rintro e w4 ⟨rfl, e4⟩
    have o4 := (o3.ext e4).arr hXb
    rw [← hXl] at o4
    have o5 := o4.take 64 (by omega)
    have hl4 := hlost w4 e4
    cases hright : rightB X
    · go_wp2
      exact bodyPost_ret (v := .tuple #[.slice none 0 0, .int .i64 10]) (by simp [results, Try.results12]) rfl ⟨hl4.1, hl4.2, .inl ⟨by rw [HXE.out, hfail, hright]; rfl, rfl⟩⟩
    · obtain ⟨-, ⟨hcap, -⟩⟩ : True ∧ (68 ≤ c ∧ True) := ⟨trivial, by
        obtain ⟨⟨ao', c', e', q1, -, -⟩, -, -⟩ := o4
        cases e'
        omega, trivial⟩
      go_wp2_with fail
      refine (clone_any _ _ (X.take 64) o5 (by simp; omega)).mono ?_
      rintro e w5 ⟨v', rfl, o6, e5⟩
      have hl5 := hlost w5 (e4.trans e5)
      have z4 := e4.size
      go_wp2
      exact bodyPost_ret (v := .tuple #[v', .int .i64 0]) (by simp [results, Try.results12]) rfl ⟨hl5.1, hl5.2, .inr ⟨by rw [HXE.out, hfail, hright]; rfl, v', rfl, by rw [HXE.out]; exact o6.mono (by omega)⟩⟩
  · have hl3 := hlost w3 (Ext.refl _)
    go_wp2
    exact bodyPost_ret (v := .tuple #[.slice none 0 0, .int .i64 10]) (by simp [results, Try.results12]) rfl ⟨hl3.1, hl3.2, .inl ⟨by rw [hfail]; rfl, rfl⟩⟩
end Go.Proofs.Ytmoihbpjcdmmbaa
