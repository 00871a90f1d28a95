/-
  DERIVED. What the law StorePlays keeps from round to round.
-/
import Derived.Test.YtmoihbpjcdmmbaaStoreBent
import Derived.Test.YtmoihbpjcdmmbaaRowStore2
namespace Go.Proofs.Ytmoihbpjcdmmbaa
open Go.RowKit Go.Maps
set_option linter.unusedVariables false

/-- the bends that the law lays, i of them -/
def bF (xs : List (Int × Nat)) : Nat → Int → Option Value
  | 0, _ => none
  | i + 1, y => if y = 3 * (i : Int) then some (.agg #[.int .i64 (xs.getD i (0, 0)).1, .int .u32 ((xs.getD i (0, 0)).2 : Int)]) else bF xs i y
theorem bF_is {xs : List (Int × Nat)} (h : ∀ p ∈ xs, (-9223372036854775808 ≤ p.1 ∧ p.1 ≤ 9223372036854775807) ∧ p.2 < 4294967296) : ∀ (i : Nat) (y : Int) (v : Value), i ≤ xs.length → bF xs i y = some v → BendIs v
  | 0, y, v, _, e => by cases e
  | i + 1, y, v, hi, e => by
    unfold bF at e
    split at e
    · cases e
      have hm : xs.getD i (0, 0) ∈ xs := by
        rw [List.getD, List.getElem?_eq_getElem (by omega)]
        exact List.getElem_mem ..
      exact ⟨_, _, rfl, (h _ hm).1, (h _ hm).2⟩
    · exact bF_is h i y v (by omega) e
def modL (xs : List Int) : List Int := xs.map fun n => n % 30
theorem modL_take (xs : List Int) (i : Nat) (y : Int) (h : xs[i]? = some y) : modL (xs.take (i + 1)) = modL (xs.take i) ++ [y % 30] := by
  unfold modL
  rw [List.take_add_one, h]
  simp
theorem modL_wf {xs : List Int} : ∀ y ∈ modL xs, (Lit.int .i64 y).wf = true := by
  intro y hy
  obtain ⟨n, _, rfl⟩ := List.mem_map.1 hy
  exact wfi (by omega)
theorem modL_length (xs : List Int) : (modL xs).length = xs.length := by simp [modL]

/-- the law's own plan, in its variable -/
structure PlanAt (w : World) (bp : Nat) (sf sl : Value) (bb : Nat) (full fail : List Int) (bf : Int → Option Value) : Prop where
  box : Blk w bp #[sf, sl, .map (some bb)] 29
  full : OwnI w 0 sf full
  fail : OwnI w 0 sl fail
  bends : ∃ s, s ≤ 1000 ∧ Mp bendG w bb bf s
/-- blocks that the plan lies in -/
def PlanOff (O : List Nat) (bp : Nat) (sf sl : Value) (bb : Nat) : Prop := bp ∉ O ∧ bb ∉ O ∧ (∀ k, sf.ownBlock = some k → k ∉ O) ∧ ∀ k, sl.ownBlock = some k → k ∉ O
theorem PlanAt.calm {O : List Nat} {w w' : World} {bp : Nat} {sf sl : Value} {bb : Nat} {full fail : List Int} {bf : Int → Option Value} (h : PlanAt w bp sf sl bb full fail bf) (hc : Calm O w w') (ho : PlanOff O bp sf sl bb) : PlanAt w' bp sf sl bb full fail bf := by
  obtain ⟨s, hs, hm⟩ := h.bends
  exact ⟨(hc.block bp h.box.lt ho.1).trans h.box, h.full.calm hc ho.2.2.1, h.fail.calm hc ho.2.2.2, s, hs, hm.calm hc ho.2.1⟩
theorem PlanAt.lt {w : World} {bp : Nat} {sf sl : Value} {bb : Nat} {full fail : List Int} {bf : Int → Option Value} (h : PlanAt w bp sf sl bb full fail bf) : bp < w.heap.size ∧ bb < w.heap.size ∧ (∀ k, sf.ownBlock = some k → k < w.heap.size) ∧ ∀ k, sl.ownBlock = some k → k < w.heap.size := by
  obtain ⟨s, hs, hm⟩ := h.bends
  exact ⟨h.box.lt, hm.lt, fun k hk => (h.full.lt k hk).2, fun k hk => (h.fail.lt k hk).2⟩

/-- the law's map of blocks, beside the device's -/
structure MapAt (w : World) (F : List Nat) (bm : Nat) (fL : Int → Option Value) (st : DSt) : Prop where
  map : Mp anyV w bm fL st.s
  non : ∀ x, (Lit.int .i64 x).wf = true → fL x = none → st.bl x = none
  rows : ∀ x v, (Lit.int .i64 x).wf = true → fL x = some v → ∃ l, st.bl x = some l ∧ l.length = 64 ∧ (∀ y ∈ l, 0 ≤ y ∧ y ≤ 255) ∧ Own w 0 v l ∧ ∀ k, v.ownBlock = some k → k ∉ F ∧ k ≠ bm
theorem MapAt.calm {O : List Nat} {w w' : World} {F F' : List Nat} {bm : Nat} {fL : Int → Option Value} {st st' : DSt} (h : MapAt w F bm fL st) (hc : Calm O w w') (hm : bm ∉ O) (hO : ∀ k ∈ O, k ∈ F ∨ k = bm) (hF : ∀ k ∈ F', k ∈ F ∨ w.heap.size ≤ k) (e1 : st'.bl = st.bl) (e2 : st'.s = st.s) : MapAt w' F' bm fL st' := by
  refine ⟨by rw [e2]; exact h.map.calm hc hm, by rw [e1]; exact h.non, fun x v hx hv => ?_⟩
  obtain ⟨l, h1, h2, h3, h4, h5⟩ := h.rows x v hx hv
  refine ⟨l, by rw [e1]; exact h1, h2, h3, h4.calm hc (fun k hk hin => ?_), fun k hk => ⟨fun hin => ?_, (h5 k hk).2⟩⟩
  · rcases hO k hin with h6 | h6
    · exact (h5 k hk).1 h6
    · exact (h5 k hk).2 h6
  · rcases hF k hin with h6 | h6
    · exact (h5 k hk).1 h6
    · have := (h4.lt k hk).2
      omega
theorem MapAt.lose {w w' : World} {F : List Nat} {bm : Nat} {fL : Int → Option Value} {st : DSt} (h : MapAt w F bm fL st) {n : Int} (hc : Calm [bm] w w') (hM : Mp anyV w' bm (fun y => if y = n then none else fL y) (if (fL n).isSome then st.s - 1 else st.s)) {v : Value} (hv : fL n = some v) (t : Nat) : MapAt w' F bm (fun y => if y = n then none else fL y) { st.without n with takes := t } := by
  rw [hv] at hM
  refine ⟨hM, fun x hx hu => ?_, fun x u hx hu => ?_⟩
  · by_cases e : x = n
    · simp [DSt.without, e]
    · simp only [if_neg e] at hu
      simp [DSt.without, e, h.non x hx hu]
  · by_cases e : x = n
    · simp [e] at hu
    · simp only [if_neg e] at hu
      obtain ⟨l, h1, h2, h3, h4, h5⟩ := h.rows x u hx hu
      exact ⟨l, by simp [DSt.without, e, h1], h2, h3, h4.calm hc (fun k hk hin => (h5 k hk).2 (by simpa using hin)), h5⟩
theorem MapAt.gain {w w' : World} {F : List Nat} {bm : Nat} {fL : Int → Option Value} {st : DSt} (h : MapAt w F bm fL st) (hc : Calm [bm] w w') (l : List Int) (hl : l.length = 64) (hlb : ∀ y ∈ l, 0 ≤ y ∧ y ≤ 255) (v : Value) (ho : Own w 0 v l) (hv : ∀ k, v.ownBlock = some k → k ∉ F ∧ k ≠ bm) (hfree : fL ((st.last : Int) + 1) = none)
    (hM : Mp anyV w' bm (fun y => if y = (st.last : Int) + 1 then some v else fL y) (if (fL ((st.last : Int) + 1)).isSome then st.s else st.s + 1)) : MapAt w' F bm (fun y => if y = (st.last : Int) + 1 then some v else fL y) (st.with_ l) := by
  rw [hfree] at hM
  have ec : ((st.last + 1 : Nat) : Int) = (st.last : Int) + 1 := by omega
  refine ⟨hM, fun x hx hu => ?_, fun x u hx hu => ?_⟩
  · by_cases e : x = (st.last : Int) + 1
    · simp [e] at hu
    · simp only [if_neg e] at hu
      simp only [DSt.with_, ec, if_neg e]
      exact h.non x hx hu
  · by_cases e : x = (st.last : Int) + 1
    · simp only [if_pos e] at hu
      cases hu
      refine ⟨l, by simp only [DSt.with_, ec, if_pos e], hl, hlb, ho.calm hc (fun k hk hin => (hv k hk).2 (by simpa using hin)), hv⟩
    · simp only [if_neg e] at hu
      obtain ⟨l1, h1, h2, h3, h4, h5⟩ := h.rows x u hx hu
      exact ⟨l1, by simp only [DSt.with_, ec, if_neg e]; exact h1, h2, h3, h4.calm hc (fun k hk hin => (h5 k hk).2 (by simpa using hin)), h5⟩
end Go.Proofs.Ytmoihbpjcdmmbaa
