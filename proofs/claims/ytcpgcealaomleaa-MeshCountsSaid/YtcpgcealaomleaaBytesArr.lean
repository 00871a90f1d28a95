/-
  DERIVED. Bytes that came in, appended to a slice of the call's own; as a string.
-/
import Derived.Test.YtcpgcealaomleaaBytes
import Derived.Test.YtcpgcealaomleaaArr
import Derived.Laws.AppendOwnNone
namespace Go.Proofs.Ytcpgcealaomleaa
open Go.RowKit
set_option linter.unusedVariables false

theorem wpList_append_arr {ops : Array Oper} {rest : List Oper} {o : Oper} {a : Act} {w : World} {Q : Exit → Act → World → Prop} (hgd : o.guard = none) (s x : Operand)
    (ho : o.op = .call { callee := .builtin .append, args := #[s, x], argTypes := #[29, 29] }) (base : Nat) (v : Value) (l : List Int) (hs : a.eval s = v) (hown : Own w base v l)
    (vx : Value) (m : List Int) (hx : a.eval x = vx) (hm : Arr w .u8 vx m) (hlen : l.length + m.length ≤ 1000000) (hbase : base ≤ w.heap.size)
    (h : ∀ v' w', Own w' base v' (l ++ m) → Calm v.ownBlock.toList w w' → (∀ k, v'.ownBlock = some k → v.ownBlock = some k ∨ k = w.heap.size) → wpList Try.prog ops Q rest (a.put o.dst v') w') : wpList Try.prog ops Q (o :: rest) a w := by
  obtain ⟨⟨ao, c, rfl, h1, h2, h3⟩, _, _⟩ := hm
  cases ao with
  | none =>
    have hm : m = [] := by
      rcases m with _ | ⟨y, r⟩
      · rfl
      · obtain ⟨b, off, e, _⟩ := h2 (by simp)
        cases e
    subst hm
    have hc : c = 0 := h3 rfl
    subst hc
    obtain ⟨i, hi, _, _, _⟩ := info_parts info_u8
    refine wpList_append_own_none hgd s x 29 ho base 5 i 1 Try.underlying29 hi v l.length (bytesV l) hs hown hx (h v w (by simpa using hown) (Calm.refl _ _) fun k hk => .inl hk)
  | some ad =>
    refine wpList_append_bytes hgd s x ho base v l hs hown ad c m hx (fun j y hj => ?_) hlen hbase h
    have hjl : j < m.length := (List.getElem?_eq_some_iff.1 hj).1
    obtain ⟨b, off, e, hc⟩ := h2 (by intro hh; rw [hh] at hjl; simp at hjl)
    cases e
    rw [Go.WideShapes.add_plain, hc j hjl]
    simp [List.getD, hj]
theorem Arr.str {w : World} {v : Value} {l : List Int} (h : Arr w .u8 v l) : (convert 29 9 v).run Try.prog w = .ok (.string (strOfNums l)) w := by
  obtain ⟨⟨ao, c, rfl, h1, h2, h3⟩, _, _⟩ := h
  cases ao with
  | none =>
    have hm : l = [] := by
      rcases l with _ | ⟨y, r⟩
      · rfl
      · obtain ⟨b, off, e, _⟩ := h2 (by simp)
        cases e
    subst hm
    exact run_convert_bytes_nil w 29 5 Try.underlying29 Try.underlying5 _ _ 9 Try.underlying9
  | some ad =>
    by_cases hl : l = []
    · subst hl
      rw [run_convert_bytes_string w 29 9 5 _ _ c Try.underlying29 Try.underlying5 Try.underlying9]
      simp [Conv.bytesToString, loadCells, loadCellsFrom, strOfNums]
      rfl
    · obtain ⟨b, off, e, hc⟩ := h2 hl
      cases e
      exact run_convert_bytes_arg w 29 5 Try.underlying29 Try.underlying5 b off l.length c l rfl (fun i hi => hc i hi) 9 Try.underlying9
end Go.Proofs.Ytcpgcealaomleaa
