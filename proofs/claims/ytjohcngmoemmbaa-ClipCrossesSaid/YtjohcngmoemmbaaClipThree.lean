/-
  DERIVED. What the laws of layer 12 begin with (made by mkcliplaws.py).
-/
import Derived.Test.YtjohcngmoemmbaaClipAwake
import Derived.Test.YtjohcngmoemmbaaParts
namespace Go.Proofs.Ytjohcngmoemmbaa
open Go.RowKit
set_option linter.unusedVariables false
theorem Blk.mid {w : World} {b : Nat} {z : Array Value} {T : TypeId} (h : Blk w b z T) (o : Nat) (cs : List Value) (hcs : (z.toList.drop o).take cs.length = cs) : w.rangeAt b o cs := fun j v hv => by
  rw [h.cell]
  rw [← hcs, List.getElem?_take] at hv
  split at hv
  · rw [List.getElem?_drop] at hv
    simpa using hv
  · cases hv
set_option maxRecDepth 100000 in
theorem idx24 (a0 a1 a2 a3 a4 a5 a6 a7 b0 b1 b2 b3 b4 b5 b6 b7 c0 c1 c2 c3 c4 c5 c6 c7 : Value) (w : World) :
    (Instr.index 33 (.agg #[a0, a1, a2, a3, a4, a5, a6, a7, b0, b1, b2, b3, b4, b5, b6, b7, c0, c1, c2, c3, c4, c5, c6, c7]) (.int .i64 0)).run Try.prog w = .ok (.agg #[a0, a1, a2, a3, a4, a5, a6, a7]) w ∧
    (Instr.index 33 (.agg #[a0, a1, a2, a3, a4, a5, a6, a7, b0, b1, b2, b3, b4, b5, b6, b7, c0, c1, c2, c3, c4, c5, c6, c7]) (.int .i64 1)).run Try.prog w = .ok (.agg #[b0, b1, b2, b3, b4, b5, b6, b7]) w ∧
    (Instr.index 33 (.agg #[a0, a1, a2, a3, a4, a5, a6, a7, b0, b1, b2, b3, b4, b5, b6, b7, c0, c1, c2, c3, c4, c5, c6, c7]) (.int .i64 2)).run Try.prog w = .ok (.agg #[c0, c1, c2, c3, c4, c5, c6, c7]) w := by
  refine ⟨?_, ?_, ?_⟩ <;> simp [Instr.index, asIntOf, run_underlying Try.underlying33, go_sem, part]
theorem vx_in {v : VSm} (h : v.ok) : (vxF v).inP ∧ (vxF v).inC 0 65536 := by
  obtain ⟨a, b0, b1, b2, b3⟩ := vxF_bd h
  exact ⟨a, by refine ⟨?_, ?_, ?_, ?_⟩ <;> omega⟩
theorem vx_fine {v : VSm} (h : v.ok) : (vxF v).fine := by
  obtain ⟨a, b0, b1, b2, b3⟩ := vxF_bd h
  exact ⟨a, by refine ⟨?_, ?_, ?_, ?_⟩ <;> omega⟩
theorem three_all {P : V8 → Prop} {x y z : V8} (hx : P x) (hy : P y) (hz : P z) : ∀ q ∈ [x, y, z], P q := by
  intro q hq
  simp only [List.mem_cons, List.not_mem_nil, or_false] at hq
  rcases hq with rfl | rfl | rfl <;> assumption
theorem gend_le (l : List V8) : (gend l).length ≤ 16 := by
  rcases gend_len l with h | h <;> omega
theorem inside_fine (v : V8) (h : v.fine) (k : Nat) (u : World) : Calls Try.prog 15 #[.agg v.l.toArray, .int .i64 (k : Int)] u fun e w' => e = .returned (.int .i64 (insF v k)) ∧ Ext u w' := by
  have := insideN_any v h.in64 k u
  rw [V8.lim_id h] at this
  exact this
end Go.Proofs.Ytjohcngmoemmbaa
