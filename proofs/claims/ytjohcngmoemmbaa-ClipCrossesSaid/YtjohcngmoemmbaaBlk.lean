/-
  DERIVED. What is known of a whole block: its cells, through draws, stores and new blocks.
-/
import Derived.Test.YtjohcngmoemmbaaExt
namespace Go.Proofs.Ytjohcngmoemmbaa
open Go.RowKit
set_option linter.unusedVariables false

/-- block b of w holds just these cells -/
def Blk (w : World) (b : Nat) (z : Array Value) (T : TypeId) : Prop := w.heap[b]? = some (.cells z T (0, 0))
theorem Blk.lt {w : World} {b : Nat} {z : Array Value} {T : TypeId} (h : Blk w b z T) : b < w.heap.size := (Array.getElem?_eq_some_iff.1 h).1
theorem Blk.cell {w : World} {b : Nat} {z : Array Value} {T : TypeId} (h : Blk w b z T) : ∀ o, w.cell? ⟨b, o, none⟩ = z[o]? := fun o => by
  unfold Blk at h
  simp [World.cell?, h]
theorem Blk.frozen {w : World} {b : Nat} {z : Array Value} {T : TypeId} (h : Blk w b z T) : ∀ o, w.frozen? ⟨b, o, none⟩ = false := fun o => by
  unfold Blk at h
  simp [World.frozen?, h]
theorem Blk.ext {w w' : World} {b : Nat} {z : Array Value} {T : TypeId} (h : Blk w b z T) (hx : Ext w w') : Blk w' b z T := (hx.block h.lt).trans h
theorem Blk.new (w : World) (z : Array Value) (T : TypeId) : Blk (w.alloc (.cells z T)) w.heap.size z T := by
  show (w.heap.push _)[w.heap.size]? = _
  simp
theorem Blk.new' {w : World} {b : Nat} (h : b = w.heap.size) (z : Array Value) (T : TypeId) : Blk (w.alloc (.cells z T)) b z T := h ▸ Blk.new w z T
theorem Blk.alloc {w : World} {b : Nat} {z : Array Value} {T : TypeId} (h : Blk w b z T) (o : Obj) : Blk (w.alloc o) b z T := (Below.heap_alloc w o b h.lt).trans h
theorem Blk.drewN {w : World} {b : Nat} {z : Array Value} {T : TypeId} (h : Blk w b z T) (n : Nat) : Blk (w.drewN n) b z T := h
theorem Blk.drew {w : World} {b : Nat} {z : Array Value} {T : TypeId} (h : Blk w b z T) : Blk w.drew b z T := h
theorem Blk.far {w : World} {b : Nat} {z : Array Value} {T : TypeId} (h : Blk w b z T) {p : Addr} (hp : b ≠ p.block) (v : Value) : Blk (w.setCell p v) b z T := (Below.heap_setCell w p v b hp).trans h
theorem Blk.set {w : World} {b : Nat} {z : Array Value} {T : TypeId} (h : Blk w b z T) (i : Nat) (v : Value) : Blk (w.setCell ⟨b, i, none⟩ v) b (z.setIfInBounds i v) T := by
  unfold Blk at h ⊢
  simp [World.setCell, Array.getElem?_modify, h]

end Go.Proofs.Ytjohcngmoemmbaa
