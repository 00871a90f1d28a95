/-
  DERIVED. A number of a slice of int of the call's own: read, stored; make([]int, n).
-/
import Derived.Test.YtmoihbpjcdmmbaaInts
import Derived.Test.YtmoihbpjcdmmbaaCrcPut
namespace Go.Proofs.Ytmoihbpjcdmmbaa
open Go.RowKit
set_option linter.unusedVariables false

theorem OwnI.at {w : World} {base g c n : Nat} {L : List Int} (h : OwnI w base (.slice (some ⟨g, 0, none⟩) n c) L) (hn : n = L.length) {j : Nat} {y : Int} (hj : L[j]? = some y) : w.cell? ⟨g, j, none⟩ = some (.int .i64 y) := by
  subst hn
  exact h.cell j y hj
theorem OwnI.thaw {w : World} {base g c n : Nat} {L : List Int} (h : OwnI w base (.slice (some ⟨g, 0, none⟩) n c) L) (hn : n = L.length) (j : Nat) : w.frozen? ⟨g, j, none⟩ = false := by
  subst hn
  exact World.ownsRow.frozenAt h j
theorem OwnI.put {w : World} {base g c n : Nat} {L : List Int} (h : OwnI w base (.slice (some ⟨g, 0, none⟩) n c) L) (hn : n = L.length) (j : Nat) (y : Int) : OwnI (w.setCell ⟨g, j, none⟩ (.int .i64 y)) base (.slice (some ⟨g, 0, none⟩) n c) (L.set j y) := by
  subst hn
  have := (World.ownsRow.stored h j (.int .i64 y)).1
  unfold OwnI
  rw [List.length_set, show intsV (L.set j y) = (intsV L).set j (.int .i64 y) by unfold intsV; rw [List.map_set]]
  exact this

theorem make_ints (m n : Nat) (hmn : m ≤ n) (hn : n ≤ 1000000) (w : World) :
    (Instr.makeSlice 27 (.int .i64 (m : Int)) (.int .i64 (n : Int))).run Try.prog w = .ok (.slice (some ⟨w.heap.size, 0, none⟩) m n) (w.alloc (.cells (madeCells #[.int .i64 0] n) 3)) := by
  obtain ⟨i, hi, hz, h1, h2⟩ := info_parts info_i64
  have := run_make (P := Try.prog) w 27 3 i (.int .i64 0) Try.underlying27 hi hz .i64 .i64 m n (by omega) (by omega) (by rw [h2]; omega) (by omega)
  rw [this, h1]
  simp [Value.cells]
theorem ownI_zeros (w : World) (n : Nat) (hn : n ≤ 1000000) : OwnI (w.alloc (.cells (madeCells #[.int .i64 0] n) 3)) w.heap.size (.slice (some ⟨w.heap.size, 0, none⟩) n n) (List.replicate n 0) := by
  unfold OwnI
  have := World.ownsRow_lit (base := w.heap.size) (e := 3) (size := 1) w (madeCells #[.int .i64 0] n) n (Nat.le_refl _) (by simp only [maxLen]; omega) (by rw [size_madeCells, Nat.mul_one])
  rw [toList_madeCells_one] at this
  rw [List.length_replicate, intsV, List.map_replicate]
  exact this

end Go.Proofs.Ytmoihbpjcdmmbaa
