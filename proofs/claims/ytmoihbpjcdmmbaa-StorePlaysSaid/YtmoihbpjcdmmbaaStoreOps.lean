/-
  DERIVED. Layer 6 (store): Drop, Take.
-/
import Derived.Test.YtmoihbpjcdmmbaaStoreDev
namespace Go.Proofs.Ytmoihbpjcdmmbaa
open Go.RowKit Go.Maps
set_option linter.unusedVariables false

/-- without block n -/
def DSt.without (st : DSt) (n : Int) : DSt := { st with bl := fun y => if y = n then none else st.bl y, s := st.s - 1 }
theorem DevAt.free {w : World} {F R : List Nat} {bd bm : Nat} {sf sl : Value} {bb : Nat} {fm : Int → Option Value} {st : DSt} (h : DevAt w F R bd bm sf sl bb fm st) {n : Int} (hn : (Lit.int .i64 n).wf = true) (hb : st.bl n = none) : fm n = none := by
  cases hf : fm n with
  | none => rfl
  | some v =>
    obtain ⟨l, h1, _⟩ := h.rows n v hn hf
    rw [hb] at h1
    cases h1
theorem DevAt.held {w : World} {F R : List Nat} {bd bm : Nat} {sf sl : Value} {bb : Nat} {fm : Int → Option Value} {st : DSt} (h : DevAt w F R bd bm sf sl bb fm st) {n : Int} (hn : (Lit.int .i64 n).wf = true) {l : List Int} (hb : st.bl n = some l) : ∃ v, fm n = some v := by
  cases hf : fm n with
  | none => rw [h.non n hn hf] at hb; cases hb
  | some v => exact ⟨v, rfl⟩
theorem DevAt.fresh {w : World} {F R : List Nat} {bd bm : Nat} {sf sl : Value} {bb : Nat} {fm : Int → Option Value} {st : DSt} (h : DevAt w F R bd bm sf sl bb fm st) {w' : World} (hc : Calm F w w') : OwnI w' 0 sf st.full ∧ OwnI w' 0 sl st.fail ∧ ∃ s', Mp bendG w' bb st.bends s' := by
  obtain ⟨s', hb⟩ := h.bends
  exact ⟨h.full.calm hc fun k hk => h.disj k (h.inR.2.1 k hk), h.fail.calm hc fun k hk => h.disj k (h.inR.2.2 k hk), s', hb.calm hc (h.disj _ h.inR.1)⟩
/-- a device that has lost block n; what else has turned is its own cells and that block's row -/
theorem DevAt.lost {w w' : World} {F R : List Nat} {bd bm : Nat} {sf sl : Value} {bb : Nat} {fm : Int → Option Value} {st : DSt} (h : DevAt w F R bd bm sf sl bb fm st) {n : Int} (hn : (Lit.int .i64 n).wf = true) {v : Value} (hv : fm n = some v) (O : List Nat)
    (hc : Calm O w w') (hO : ∀ k ∈ O, k = bd ∨ k = bm ∨ v.ownBlock = some k) (t : Nat)
    (hB : Blk w' bd #[sf, sl, .map (some bb), .map (some bm), .int .i64 st.room, .int .i64 st.last, .int .i64 st.puts, .int .i64 t, .int .i64 st.most] 57)
    (hM : Mp anyV w' bm (fun y => if y = n then none else fm y) (if (fm n).isSome then st.s - 1 else st.s)) : Dev w' F R bd { st.without n with takes := t } ∧ Calm F w w' := by
  have hOF : ∀ k ∈ O, k ∈ F := fun k hk => by
    rcases hO k hk with rfl | rfl | h1
    · exact h.inF.1
    · exact h.inF.2.1
    · obtain ⟨l, _, _, _, _, h5⟩ := h.rows n v hn hv
      exact (h5 k h1).1
  have hcF : Calm F w w' := ⟨hc.os, hc.tape, hc.output, hc.size, fun k hk hne => hc.block k hk fun ho => hne (hOF k ho)⟩
  obtain ⟨f1, f2, f3⟩ := h.fresh hcF
  rw [hv] at hM
  refine ⟨⟨bm, sf, sl, bb, _, ⟨hB, f1, f2, h.fullw, h.failw, f3, hM, fun x u hx hu => ?_, fun x hx hu => ?_, fun x y v1 u1 hx hy hne h1 h2 k hk => ?_, h.inF, h.inR, h.disj, ⟨fun k hk => Nat.lt_of_lt_of_le (h.lt.1 k hk) hc.size, fun k hk => Nat.lt_of_lt_of_le (h.lt.2 k hk) hc.size⟩, ⟨h.bd.1, Nat.le_trans (Nat.sub_le _ _) h.bd.2.1, h.bd.2.2⟩⟩⟩, hcF⟩
  · by_cases e : x = n
    · simp [e] at hu
    · simp only [if_neg e] at hu
      obtain ⟨l, h1, h2, h3, h4, h5⟩ := h.rows x u hx hu
      refine ⟨l, by simp [DSt.without, e, h1], h2, h3, h4.calm hc fun k hk ho => ?_, h5⟩
      rcases hO k ho with rfl | rfl | h6
      · exact (h5 _ hk).2.1 rfl
      · exact (h5 _ hk).2.2 rfl
      · exact h.apart x n u v hx hn e hu hv k hk h6
  · by_cases e : x = n
    · simp [DSt.without, e]
    · simp only [if_neg e] at hu
      simp [DSt.without, e, h.non x hx hu]
  · by_cases e1 : x = n
    · simp [e1] at h1
    · by_cases e2 : y = n
      · simp [e2] at h2
      · simp only [if_neg e1] at h1
        simp only [if_neg e2] at h2
        exact h.apart x y v1 u1 hx hy hne h1 h2 k hk

theorem zero_row (w : World) : (zeroValue 22).run Try.prog w = .ok (.slice none 0 0) w := by kernel_rfl
theorem zero_bend (w : World) : (zeroValue 32).run Try.prog w = .ok (.agg #[.int .i64 0, .int .u32 0]) w := by kernel_rfl

set_option maxRecDepth 100000 in
theorem dev_Drop_none (w : World) (F R : List Nat) (bd : Nat) (st : DSt) (h : Dev w F R bd st) (n : Int) (hn : (Lit.int .i64 n).wf = true) (hb : st.bl n = none) :
    Calls Try.prog 15 #[.pointer (some ⟨bd, 0, none⟩), .int .i64 n] w fun e w' => e = .returned (.int .i64 9) ∧ w = w' := by
  obtain ⟨bm, sf, sl, bb, fm, h⟩ := h
  have hf := h.free hn hb
  have hc := h.cells.cell
  have hk := h.map.look 35 22 Try.underlying35 (.slice none 0 0) (zero_row w) true hn
  rw [hf] at hk
  simp only [if_true, Option.getD_none, Option.isSome_none] at hk
  go_enter Try.func15, Try.ntmps15
  go_wp2
  go_ret
  exact ⟨rfl, rfl⟩

set_option maxRecDepth 100000 in
theorem dev_Drop (w : World) (F R : List Nat) (bd : Nat) (st : DSt) (h : Dev w F R bd st) (n : Int) (hn : (Lit.int .i64 n).wf = true) (l : List Int) (hb : st.bl n = some l) :
    Calls Try.prog 15 #[.pointer (some ⟨bd, 0, none⟩), .int .i64 n] w fun e w' => e = .returned (.int .i64 0) ∧ Dev w' F R bd (st.without n) ∧ Calm F w w' := by
  obtain ⟨bm, sf, sl, bb, fm, h⟩ := h
  obtain ⟨v, hf⟩ := h.held hn hb
  have hc := h.cells.cell
  have hk := h.map.look 35 22 Try.underlying35 (.slice none 0 0) (zero_row w) true hn
  rw [hf] at hk
  simp only [if_true, Option.getD_some, Option.isSome_some] at hk
  go_enter Try.func15, Try.ntmps15
  go_wp2_with (first
    | (at_delete; refine wpList_drop_mp rfl _ _ 35 rfl 22 Try.underlying35 anyV bm _ fm rfl h.map n hn rfl ?_; intro w1 hm1 hc1)
    | go_in)
  go_wp2
  go_ret
  obtain ⟨a1, a2⟩ := h.lost hn hf [bm] hc1 (by simp) st.takes ((hc1.block bd (h.lt.1 _ h.inF.1) (by simpa using Ne.symm h.inF.2.2)).trans h.cells) hm1
  exact ⟨rfl, a1, a2⟩
end Go.Proofs.Ytmoihbpjcdmmbaa
