/-
  DERIVED. Slices of integers that came in: what a law's walk knows of them; carried to worlds that have only grown.
-/
import Derived.Test.YtjohcngmoemmbaaExt
import Derived.OpenShut
import Derived.ChangeSlices
namespace Go.Proofs.Ytjohcngmoemmbaa
open Go.ChangeShapes Go.WideShapes Go.RowKit
set_option linter.unusedVariables false

/-- v is a slice that came in; xs are its numbers -/
structure Arr (w : World) (k : IntKind) (v : Value) (xs : List Int) : Prop where
  slice : ∃ ao cap, v = .slice ao xs.length cap ∧ xs.length ≤ cap ∧ (xs ≠ [] → ∃ b off, ao = some ⟨b, off, none⟩ ∧ ∀ j, j < xs.length → w.cell? ⟨b, off + j, none⟩ = some (.int k (xs.getD j 0))) ∧ (ao = none → cap = 0)
  most : xs.length ≤ maxLen
  wf : ∀ n ∈ xs, (Lit.int k n).wf = true

theorem Arr.ext {w w' : World} {k : IntKind} {v : Value} {xs : List Int} (h : Arr w k v xs) (hx : Ext w w') : Arr w' k v xs := by
  obtain ⟨⟨ao, cap, rfl, hc, h1, h2⟩, h3, h4⟩ := h
  refine ⟨⟨ao, cap, rfl, hc, fun hne => ?_, h2⟩, h3, h4⟩
  obtain ⟨b, off, rfl, hcell⟩ := h1 hne
  exact ⟨b, off, rfl, fun j hj => hx.old (hcell j hj)⟩

theorem open_arr {H : Type} {enc : TypeId × Value → H} {P : Program} {w : World} {base : Nat} {spare : Nat → Bool} {held : Bool} {r : Reach} {b0 : Nat} {k : IntKind} {t e : TypeId} {v : Value} {dt : DataW H} {p : List MemPlace}
    (ht : P.underlying t = some (.slice e)) (he : P.underlying e = some (.int k)) (hc : P.cellsOf e = 1) (hv : Value.okWide P w r b0 t v) (h : DataW.Trod enc P w base spare held t v dt p) : ∃ xs : List Int, Arr w k v xs := by
  obtain ⟨a0, len, cap, rfl⟩ := okWide_slice ht hv
  obtain ⟨fuel, hf⟩ := h
  rcases open_ints ht he hc hf with ⟨hcs, hx⟩ | ⟨a, len', cap', zs, hcs, _, hl, hm, hz, hx, hcell, hwz⟩
  · simp [Value.cells] at hcs
    obtain ⟨rfl, rfl, rfl⟩ := hcs
    exact ⟨[], ⟨⟨none, 0, rfl, Nat.le_refl _, fun h => absurd rfl h, fun _ => rfl⟩, Nat.zero_le _, fun n hn => by cases hn⟩⟩
  · simp [Value.cells] at hcs
    obtain ⟨rfl, rfl, rfl⟩ := hcs
    have hle : len ≤ zs.length := by rw [hz]; split <;> omega
    have hlen : (zs.take len).length = len := by simp [hle]
    refine ⟨zs.take len, ⟨⟨some a, cap, by rw [hlen], by rw [hlen]; exact hl, fun hne => ?_, fun h => by cases h⟩, by rw [hlen]; omega, fun n hn => hwz n (List.mem_of_mem_take hn)⟩⟩
    have hp : 0 < zs.length := by
      rcases Nat.eq_zero_or_pos zs.length with h0 | h0
      · rw [List.eq_nil_of_length_eq_zero h0] at hne; simp at hne
      · exact h0
    obtain ⟨b, off, rfl, hat⟩ := ints_at hcell hp
    refine ⟨b, off, rfl, fun j hj => ?_⟩
    rw [hlen] at hj
    rw [hat j (by omega)]
    simp [List.getD, hj]

end Go.Proofs.Ytjohcngmoemmbaa
