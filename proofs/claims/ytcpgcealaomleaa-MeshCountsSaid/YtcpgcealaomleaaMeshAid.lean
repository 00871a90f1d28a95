/-
  DERIVED. Layer 10's laws: Awake; '==' on triangles; a literal of numbers; the loop that compares.
-/
import Derived.Test.YtcpgcealaomleaaMeshTris
import Derived.Laws.StructEq
namespace Go.Proofs.Ytcpgcealaomleaa
open Go.RowKit
set_option linter.unusedVariables false

theorem eqIn3 (d : Nat) (a b c : Int) (w : World) : (Op.equalIn (d + 2) 26 (.agg #[.int .i64 a, .int .i64 b, .int .i64 c]) (.agg #[.int .i64 a, .int .i64 b, .int .i64 c])).run Try.prog w = .ok true w := by
  unfold Op.equalIn
  simp [run_underlying Try.underlying26, go_sem, part, List.range', List.forIn_cons]
theorem eq3 (a b c : Int) (w : World) : (Op.equalIn 10000 26 (.agg #[.int .i64 a, .int .i64 b, .int .i64 c]) (.agg #[.int .i64 a, .int .i64 b, .int .i64 c])).run Try.prog w = .ok true w := eqIn3 9998 a b c w

theorem arr_lit (w : World) (L : List Int) (hw : ∀ y ∈ L, (Lit.int .i64 y).wf = true) (hl : L.length ≤ 1000) : Arr (w.alloc (.cells (L.map (Value.int .i64)).toArray 3)) .i64 (.slice (some ⟨w.heap.size, 0, none⟩) L.length L.length) L := by
  refine ⟨⟨_, _, rfl, Nat.le_refl _, fun _ => ⟨w.heap.size, 0, rfl, fun j hj => ?_⟩, fun h => by cases h⟩, by simp only [maxLen]; omega, hw⟩
  rw [Nat.zero_add, (Blk.new w _ _).cell]
  simp [List.getD, hj]
theorem cells_of {w : World} {g o : Nat} {t : T3} (h : ∀ i u, (LT.cells t)[i]? = some u → w.cell? ⟨g, o + i, none⟩ = some u) : w.cell? ⟨g, o, none⟩ = some (.int .i64 t.a) ∧ w.cell? ⟨g, o + 1, none⟩ = some (.int .i64 t.b) ∧ w.cell? ⟨g, o + 2, none⟩ = some (.int .i64 t.c) :=
  ⟨h 0 _ rfl, h 1 _ rfl, h 2 _ rfl⟩
theorem range_of {w : World} {g o : Nat} {t : T3} (h : ∀ i u, (LT.cells t)[i]? = some u → w.cell? ⟨g, o + i, none⟩ = some u) : w.rangeAt g o [.int .i64 t.a, .int .i64 t.b, .int .i64 t.c] := h

set_option maxRecDepth 100000 in
theorem awake10_any (w : World) : Calls Try.prog 7 #[] w fun e w' => e = .returned (.bool true) ∧ Ext w w' := by
  have A := arr_lit w [0, 1, 2, 3] (by intro y hy; simp at hy; rcases hy with rfl | rfl | rfl | rfl <;> rfl) (by simp)
  have x1 := (Ext.refl w).alloc #[.int .i64 0, .int .i64 1, .int .i64 2, .int .i64 3] 3
  have ht : tris 1 [0, 1, 2, 3] = [⟨0, 1, 2⟩, ⟨2, 1, 3⟩] := by decide
  have hE := eq3
  go_enter Try.func7, Try.ntmps7
  go_wp2_with fail
  refine (triangles_any _ 1 _ _ A (by simp)).mono ?_
  rintro e w1 ⟨v', rfl, o1, e1⟩
  rw [ht] at o1
  obtain ⟨ao, c, rfl, -, -⟩ := o1.slice
  obtain ⟨g, t, rfl, -, h1, h2⟩ := o1.nth 0 (by simp)
  obtain ⟨g', t', hg, -, h1', h2'⟩ := o1.nth 1 (by simp)
  cases hg
  cases h1
  cases h1'
  obtain ⟨c0, c1, c2⟩ := cells_of h2
  obtain ⟨d0, d1, d2⟩ := cells_of h2'
  clear h2 h2'
  simp only [LT, Nat.zero_mul, Nat.one_mul, Nat.zero_add] at c0 c1 c2 d0 d1 d2
  go_wp2
  go_ret
  exact ⟨rfl, x1.trans e1⟩
end Go.Proofs.Ytcpgcealaomleaa
