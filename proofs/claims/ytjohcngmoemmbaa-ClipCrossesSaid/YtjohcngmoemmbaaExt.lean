/-
  DERIVED. 'Ext w w'': w' is w with new blocks behind it and draws made: of what was there nothing turns. A relation that joins: refl, trans, a new block, a store into a new block, draws.
-/
import Derived.Test.YtjohcngmoemmbaaFixAid
import Derived.Below
import Derived.Deep.Draws
namespace Go.Proofs.Ytjohcngmoemmbaa
open Go.RowKit
set_option linter.unusedVariables false

structure Ext (w w' : World) : Prop where
  bel : Below w.heap.size w w'

theorem Ext.refl (w : World) : Ext w w := ⟨Below.refl _ _⟩
theorem Ext.size {w w' : World} (h : Ext w w') : w.heap.size ≤ w'.heap.size := h.bel.size
theorem Ext.trans {a b c : World} (h : Ext a b) (k : Ext b c) : Ext a c :=
  ⟨h.bel.trans (k.bel.mono h.size)⟩
theorem Ext.alloc {a w : World} (h : Ext a w) (c : Array Value) (t : TypeId) : Ext a (w.alloc (.cells c t)) :=
  ⟨h.bel.alloc h.size _⟩
theorem Ext.setCell {a w : World} (h : Ext a w) {p : Addr} (hp : a.heap.size ≤ p.block) (u : Value) : Ext a (w.setCell p u) :=
  ⟨h.bel.setCell hp u⟩
theorem Ext.drew {a w : World} (h : Ext a w) : Ext a w.drew := ⟨h.bel.drew⟩
theorem Ext.drewN {a w : World} (h : Ext a w) (n : Nat) : Ext a (w.drewN n) := ⟨⟨h.bel.os, h.bel.tape, h.bel.output, h.bel.size, h.bel.block⟩⟩
theorem Ext.qt {a w w' : World} (h : Ext a w) (q : Qt w w') : Ext a w' := by obtain ⟨n, rfl⟩ := q; exact h.drewN n
theorem Ext.cell {w w' : World} (h : Ext w w') {b : Nat} (o : Nat) (hb : b < w.heap.size) : w'.cell? ⟨b, o, none⟩ = w.cell? ⟨b, o, none⟩ := h.bel.cell (p := ⟨b, o, none⟩) hb
theorem Ext.block {w w' : World} (h : Ext w w') {b : Nat} (hb : b < w.heap.size) : w'.heap[b]? = w.heap[b]? := h.bel.block b hb
theorem Ext.fr {w w' : World} (h : Ext w w') (a : Addr) (ha : a.block < w.heap.size) : w'.frozen? a = w.frozen? a := World.frozen?_of_block (w := w) (h.bel.block _ ha)
theorem Ext.kept {w w' : World} (h : Ext w w') : w.keptBut w' (fun _ => False) := h.bel.frame _
/-- a cell that is there lies in a block that is there -/
theorem cell_lt {w : World} {b o : Nat} {v : Value} (h : w.cell? ⟨b, o, none⟩ = some v) : b < w.heap.size := by
  rcases Nat.lt_or_ge b w.heap.size with k | k
  · exact k
  · simp [World.cell?, Array.getElem?_eq_none k] at h
theorem Ext.old {w w' : World} (h : Ext w w') {b o : Nat} {v : Value} (hc : w.cell? ⟨b, o, none⟩ = some v) : w'.cell? ⟨b, o, none⟩ = some v :=
  (h.cell o (cell_lt hc)).trans hc

theorem Ext.cells {w w' : World} (h : Ext w w') : ∀ b o, b < w.heap.size → w'.cell? ⟨b, o, none⟩ = w.cell? ⟨b, o, none⟩ := fun _ o hb => h.cell o hb

end Go.Proofs.Ytjohcngmoemmbaa
