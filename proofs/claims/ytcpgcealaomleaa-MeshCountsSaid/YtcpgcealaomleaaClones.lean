/-
  DERIVED. slices.Clone of bytes: what comes back is the call's own.
-/
import Derived.Test.YtcpgcealaomleaaBytesArr
import Derived.Test.YtcpgcealaomleaaSteps
namespace Go.Proofs.Ytcpgcealaomleaa
open Go.RowKit
set_option linter.unusedVariables false

theorem bdu8 {y : Int} (h : (Lit.int .u8 y).wf = true) : 0 ≤ y ∧ y ≤ 255 := bounds_u8 h
theorem wfu8 {y : Int} (h : 0 ≤ y ∧ y ≤ 255) : (Lit.int .u8 y).wf = true := by
  have e1 : IntKind.u8.min = 0 := rfl
  have e2 : IntKind.u8.max = 255 := rfl
  simp [Lit.wf, e1, e2]
  omega

/-- a slice of the call's own can be read -/
theorem Own.arr {w : World} {base : Nat} {v : Value} {l : List Int} (h : Own w base v l) (hb : ∀ y ∈ l, 0 ≤ y ∧ y ≤ 255) : Arr w .u8 v l := by
  have hc := h
  rcases h.2 with ⟨rfl, h0⟩ | ⟨g, cap, cur, rfl, a1, a2, a3, a4, a5, a6⟩
  · have h0' : l = [] := List.eq_nil_of_length_eq_zero h0
    subst h0'
    exact ⟨⟨none, 0, rfl, Nat.le_refl _, fun h => absurd rfl h, fun _ => rfl⟩, Nat.zero_le _, fun n hn => by cases hn⟩
  · refine ⟨⟨_, cap, rfl, a3, fun _ => ⟨g, 0, rfl, fun j hj => ?_⟩, fun h => by cases h⟩, Nat.le_trans a3 a4, fun n hn => wfu8 (hb n hn)⟩
    rw [Nat.zero_add, hc.cell j (l.getD j 0) (by simp [hj])]
theorem Arr.bd {w : World} {v : Value} {l : List Int} (h : Arr w .u8 v l) : ∀ y ∈ l, 0 ≤ y ∧ y ≤ 255 := fun y hy => bdu8 (h.wf y hy)

end Go.Proofs.Ytcpgcealaomleaa
