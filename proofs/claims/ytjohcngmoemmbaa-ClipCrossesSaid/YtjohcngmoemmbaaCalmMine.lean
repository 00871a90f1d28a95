/-
  DERIVED. Calm regions that store into blocks of the call's own that were there before the region.
-/
import Derived.Test.YtjohcngmoemmbaaBlkLaws
namespace Go.Proofs.Ytjohcngmoemmbaa
open Go.RowKit
set_option linter.unusedVariables false

theorem Ext.calm_trans {O : List Nat} {a b c : World} (h : Ext a b) (k : Calm O b c) (hO : ∀ g ∈ O, a.heap.size ≤ g) : Ext a c :=
  ⟨⟨k.os.trans h.bel.os, k.tape.trans h.bel.tape, k.output.trans h.bel.output, Nat.le_trans h.size k.size,
    fun i hi => (k.block i (Nat.lt_of_lt_of_le hi h.size) (fun hm => by have := hO i hm; omega)).trans (h.bel.block i hi)⟩⟩

/-- a block of the call's own, stored into at an offset -/
theorem tgt_mine {P : Program} {l : List Oper} {bs : List Tmp} {O : List Nat} {w : World} {a F : Act} {j : Nat} {x y : Tmp} {b off : Nat} {T Ts : TypeId} {v : Value} {z z' : Array Value} {os : Oper} (hO : b ∈ O) (hB : Blk w b z T) (hj : l[j]? = some os)
    (hos : os.op = .store Ts (.tmp x) (.tmp y)) (hxb : bs.contains x = false) (hyb : bs.contains y = false) (hx : slot F x = .pointer (some ⟨b, off, none⟩)) (hy : slot F y = v) (hi : (P.info? Ts).map (·.size) = some v.cells.size) (h1 : v.cells.all (·.oneCell') = true)
    (hz : off + v.cells.size ≤ z.size) (hz' : (z.toList.take off ++ v.cells.toList ++ z.toList.drop (off + v.cells.size)).toArray = z') : TgtOk P l bs O w a F ⟨none, 0, b, some j, T, z, z'⟩ := by
  refine ⟨fun k hk => (by cases hk), fun _ => ⟨hO, hB.lt, hB⟩, fun k hk => ?_⟩
  cases hk
  refine ⟨os, hj, fun c u bk _ hb hl hg => ?_⟩
  have eb : bk = b := hb rfl
  subst eb
  have m1 : x ∈ os.looksAt l.toArray := List.mem_append_left _ (List.mem_filterMap.2 ⟨.tmp x, by simp [hos, Op.operands], rfl⟩)
  have m2 : y ∈ os.looksAt l.toArray := List.mem_append_left _ (List.mem_filterMap.2 ⟨.tmp y, by simp [hos, Op.operands], rfl⟩)
  have h := run_store_row (P := P) (ρ := c.eval) (u := u) hos ((hl x m1 hxb).trans hx) ((hl y m2 hyb).trans hy) hi h1 hz hg
  rw [h, hz']

end Go.Proofs.Ytjohcngmoemmbaa
