/-
  DERIVED. 'Step F F' w w'': a call on an object that lives in the blocks F: only these have turned, and the object lives in F' now.
-/
import Derived.Test.YtjohcngmoemmbaaBytes
namespace Go.Proofs.Ytjohcngmoemmbaa
open Go.RowKit
set_option linter.unusedVariables false

/-- what a call may have done to memory: only the blocks F have turned, F' are now their heirs -/
def Step (F F' : List Nat) (w w' : World) : Prop := Calm F w w' ∧ ∀ b ∈ F', b ∈ F ∨ w.heap.size ≤ b
theorem Step.refl (F : List Nat) (w : World) : Step F F w w := ⟨Calm.refl _ _, fun b h => .inl h⟩
theorem Step.trans {F G H : List Nat} {a b c : World} (h : Step F G a b) (k : Step G H b c) : Step F H a c := by
  refine ⟨⟨k.1.os.trans h.1.os, k.1.tape.trans h.1.tape, k.1.output.trans h.1.output, Nat.le_trans h.1.size k.1.size, fun i hi hF => ?_⟩, fun b hb => ?_⟩
  · have hG : i ∉ G := fun hg => by
      rcases h.2 i hg with x | x
      · exact hF x
      · omega
    exact (k.1.block i (Nat.lt_of_lt_of_le hi h.1.size) hG).trans (h.1.block i hi hF)
  · rcases k.2 b hb with x | x
    · exact h.2 b x
    · exact .inr (Nat.le_trans h.1.size x)
theorem Step.ext {F F' : List Nat} {a w w' : World} (e : Ext a w) (h : Step F F' w w') (hF : ∀ b ∈ F, a.heap.size ≤ b) : Ext a w' := Ext.calm_trans e h.1 hF
theorem Step.above {F F' : List Nat} {w w' : World} {n : Nat} (h : Step F F' w w') (hF : ∀ b ∈ F, n ≤ b) (hn : n ≤ w.heap.size) : ∀ b ∈ F', n ≤ b := fun b hb => by
  rcases h.2 b hb with x | x
  · exact hF b x
  · omega

end Go.Proofs.Ytjohcngmoemmbaa
