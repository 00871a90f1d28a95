/-
  DERIVED. A byte of a slice of the call's own: read, stored.
-/
import Derived.Test.YtmoihbpjcdmmbaaBytes
namespace Go.Proofs.Ytmoihbpjcdmmbaa
open Go.RowKit
set_option linter.unusedVariables false

theorem Own.at {w : World} {base g c n : Nat} {L : List Int} (h : Own w base (.slice (some ⟨g, 0, none⟩) n c) L) (hn : n = L.length) {j : Nat} {y : Int} (hj : L[j]? = some y) : w.cell? ⟨g, j, none⟩ = some (.int .u8 y) := by
  subst hn
  exact h.cell j y hj
theorem Own.thaw {w : World} {base g c n : Nat} {L : List Int} (h : Own w base (.slice (some ⟨g, 0, none⟩) n c) L) (hn : n = L.length) (j : Nat) : w.frozen? ⟨g, j, none⟩ = false := by
  subst hn
  exact World.ownsRow.frozenAt h j
theorem Own.put {w : World} {base g c n : Nat} {L : List Int} (h : Own w base (.slice (some ⟨g, 0, none⟩) n c) L) (hn : n = L.length) (j : Nat) (y : Int) : Own (w.setCell ⟨g, j, none⟩ (.int .u8 y)) base (.slice (some ⟨g, 0, none⟩) n c) (L.set j y) := by
  subst hn
  have := (World.ownsRow.stored h j (.int .u8 y)).1
  unfold Own
  rw [List.length_set, show bytesV (L.set j y) = (bytesV L).set j (.int .u8 y) by unfold bytesV; rw [List.map_set]]
  exact this

end Go.Proofs.Ytmoihbpjcdmmbaa
