/-
  DERIVED. Slices of int of the call's own (made by mkints.py from the bytes' texts).
-/
import Derived.Test.YtcpgcealaomleaaSteps
import Derived.Test.YtcpgcealaomleaaBytesArr
import Derived.Test.YtcpgcealaomleaaClones
namespace Go.Proofs.Ytcpgcealaomleaa
open Go.RowKit
set_option linter.unusedVariables false


def intsV (l : List Int) : List Value := l.map (Value.int .i64)
theorem intsV_append (l m : List Int) : intsV (l ++ m) = intsV l ++ intsV m := List.map_append
theorem intsV_length (l : List Int) : (intsV l).length = l.length := List.length_map ..
theorem intsV_get (l : List Int) (j : Nat) (u : Value) (h : (intsV l)[j]? = some u) : ∃ y, l[j]? = some y ∧ u = .int .i64 y := by
  simp only [intsV, List.getElem?_map, Option.map_eq_some_iff] at h
  obtain ⟨y, h1, h2⟩ := h
  exact ⟨y, h1, h2.symm⟩
theorem intsV_one (l : List Int) : ∀ u ∈ intsV l, u.oneCell' = true := by
  intro u hu
  obtain ⟨y, _, rfl⟩ := List.mem_map.1 hu
  rfl

/-- v is a slice of the call's own (of a block from base on) and holds these bytes -/
def OwnI (w : World) (base : Nat) (v : Value) (l : List Int) : Prop := w.ownsRow base 3 1 v l.length (intsV l)

theorem OwnI.lt {w : World} {base : Nat} {v : Value} {l : List Int} (h : OwnI w base v l) : ∀ k, v.ownBlock = some k → base ≤ k ∧ k < w.heap.size := World.ownsRow.lt h
theorem OwnI.nil (w : World) (base : Nat) : OwnI w base (.slice none 0 0) [] := World.ownsRow_nil w base _ 1
theorem OwnI.kept {w w' : World} {base : Nat} {v : Value} {l : List Int} (h : OwnI w base v l) (hb : ∀ k, v.ownBlock = some k → w'.heap[k]? = w.heap[k]?) : OwnI w' base v l := by
  obtain ⟨h1, h2⟩ := h
  refine ⟨h1, ?_⟩
  rcases h2 with h2 | ⟨g, cap, cur, rfl, a1, a2, a3, a4, a5, a6⟩
  · exact .inl h2
  · exact .inr ⟨g, cap, cur, rfl, a1, (hb g rfl).trans a2, a3, a4, a5, a6⟩
theorem OwnI.ext {w w' : World} {base : Nat} {v : Value} {l : List Int} (h : OwnI w base v l) (hx : Ext w w') : OwnI w' base v l := h.kept fun k hk => hx.block (h.lt k hk).2
theorem OwnI.calm {O : List Nat} {w w' : World} {base : Nat} {v : Value} {l : List Int} (h : OwnI w base v l) (hx : Calm O w w') (hO : ∀ k, v.ownBlock = some k → k ∉ O) : OwnI w' base v l := h.kept fun k hk => hx.block k (h.lt k hk).2 (hO k hk)
theorem OwnI.mono {w : World} {base base' : Nat} {v : Value} {l : List Int} (h : OwnI w base v l) (hb : base' ≤ base) : OwnI w base' v l := by
  obtain ⟨h1, h2⟩ := h
  refine ⟨h1, ?_⟩
  rcases h2 with h2 | ⟨g, cap, cur, rfl, a1, a2⟩
  · exact .inl h2
  · exact .inr ⟨g, cap, cur, rfl, Nat.le_trans hb a1, a2⟩

theorem OwnI.slice {w : World} {base : Nat} {v : Value} {l : List Int} (h : OwnI w base v l) : ∃ (ao : Option Addr) (c : Nat), v = .slice ao l.length c ∧ (ao = none → l = [] ∧ c = 0) ∧ ∀ a, ao = some a → a = ⟨a.block, 0, none⟩ := by
  rcases h.2 with ⟨rfl, h0⟩ | ⟨g, cap, cur, rfl, _⟩
  · have h0' : l = [] := List.eq_nil_of_length_eq_zero h0
    subst h0'
    exact ⟨none, 0, rfl, (fun _ => ⟨rfl, rfl⟩), (fun a ha => by cases ha)⟩
  · exact ⟨_, cap, rfl, (fun h => by cases h), (fun a ha => by cases ha; rfl)⟩
theorem OwnI.cellA {w : World} {base : Nat} {l : List Int} {g c : Nat} (h : OwnI w base (.slice (some ⟨g, 0, none⟩) l.length c) l) : ∀ j y, l[j]? = some y → w.cell? ((⟨g, 0, none⟩ : Addr).add j) = some (.int .i64 y) :=
  fun j y hj => World.ownsRow.cells h (g := g) rfl j (.int .i64 y) (by simp [intsV, hj])
/-- the bytes where they lie -/
theorem OwnI.cell {w : World} {base : Nat} {l : List Int} {g c : Nat} (h : OwnI w base (.slice (some ⟨g, 0, none⟩) l.length c) l) : ∀ j y, l[j]? = some y → w.cell? ⟨g, j, none⟩ = some (.int .i64 y) := fun j y hj => by
  have := World.ownsRow.cells h (g := g) rfl j (.int .i64 y) (by simp [intsV, hj])
  rcases Nat.eq_zero_or_pos j with h0 | h0
  · subst h0; simpa [Addr.add] using this
  · simpa [Addr.add, Nat.ne_of_gt h0] using this

theorem info_i64 : (Try.prog.info? 3).map (fun i => (i.zero, i.size, i.bytes)) = some (some (.int .i64 0), 1, 8) := by kernel_rfl

/-- what appending bytes to a slice of the call's own comes to: it stays in its block, or moves to a new one -/
theorem run_append_ints {w : World} (ty : TypeId) (base : Nat) (v : Value) (l : List Int) (hown : OwnI w base v l) (ad : Addr) (c : Nat) (m : List Int) (hm : ∀ j y, m[j]? = some y → w.cell? (ad.add j) = some (.int .i64 y)) (hlen : l.length + m.length ≤ 1000000) (hbase : base ≤ w.heap.size) :
    ∃ v' w', (Builtin.append_ #[22, 22] ty #[v, .slice (some ad) m.length c]).run Try.prog w = .ok v' w' ∧ OwnI w' base v' (l ++ m) ∧ Calm v.ownBlock.toList w w' ∧ ∀ k, v'.ownBlock = some k → v.ownBlock = some k ∨ k = w.heap.size := by
  obtain ⟨i, hi, hz, h1, h2⟩ := info_parts info_i64
  have hm' : ∀ j u, (intsV m)[j]? = some u → w.cell? (ad.add j) = some u := fun j u hu => by
    obtain ⟨y, k1, rfl⟩ := intsV_get m j u hu
    exact hm j y k1
  have hl1 : (intsV m).length = m.length * i.size := by rw [intsV_length, h1, Nat.mul_one]
  obtain ⟨v', w', hr, a1, a2, a3⟩ := run_append_own (P := Try.prog) w base 22 ty 3 i (.int .i64 0) 1 8 Try.underlying22 hi hz h1 h2 rfl (by decide) v l.length (intsV l) hown ad m.length c (intsV m) (by rw [intsV_length, Nat.mul_one]) hm' (intsV_one m) (by simp only [maxLen]; omega) (by omega) hbase
  refine ⟨v', w', hr, by unfold OwnI; rw [List.length_append, intsV_append]; exact a1, calm_grownBy a2, fun k hk => ?_⟩
  rcases hown.2 with ⟨rfl, h0⟩ | ⟨g, cap, cur, rfl, b1, b2, b3, b4, b5, b6⟩
  · by_cases hm0 : m.length = 0
    · have : v' = .slice none 0 0 := a3.2 ⟨rfl, hm0⟩
      rw [this] at hk; cases hk
    · have e := run_append_nil (P := Try.prog) w 22 ty 3 i (.int .i64 0) Try.underlying22 hi hz ad m.length c (intsV m) hl1 hm' (by omega) (by omega) (by rw [h2]; omega)
      rw [hr] at e
      have e' := (Result.ok.inj e).1
      rw [e'] at hk
      exact .inr (Option.some.inj hk).symm
  · by_cases hroom : l.length + m.length ≤ cap
    · have e := run_append_room (P := Try.prog) w 22 ty 3 i Try.underlying22 hi g l.length cap cur b2 ad m.length c (intsV m) hl1 hm' (intsV_one m) hroom (by rw [h1, intsV_length, b5]; omega)
      rw [hr] at e
      have e' := (Result.ok.inj e).1
      rw [e'] at hk
      exact .inl hk
    · have e := run_append_grow (P := Try.prog) w 22 ty 3 i (.int .i64 0) Try.underlying22 hi hz ⟨g, 0, none⟩ l.length cap (intsV l) (by rw [intsV_length, h1, Nat.mul_one]) (World.ownsRow.cells hown (g := g) rfl) ad m.length c (intsV m) hl1 hm' (by omega) (by omega) (growslice_fits (by omega) (by rw [h2]; omega))
      rw [hr] at e
      have e' := (Result.ok.inj e).1
      rw [e'] at hk
      exact .inr (Option.some.inj hk).symm

/-- bytes are appended to a slice of the call's own -/
theorem wpList_append_ints {ops : Array Oper} {rest : List Oper} {o : Oper} {a : Act} {w : World} {Q : Exit → Act → World → Prop} (hgd : o.guard = none) (s x : Operand)
    (ho : o.op = .call { callee := .builtin .append, args := #[s, x], argTypes := #[22, 22] }) (base : Nat) (v : Value) (l : List Int) (hs : a.eval s = v) (hown : OwnI w base v l)
    (ad : Addr) (c : Nat) (m : List Int) (hx : a.eval x = .slice (some ad) m.length c) (hm : ∀ j y, m[j]? = some y → w.cell? (ad.add j) = some (.int .i64 y)) (hlen : l.length + m.length ≤ 1000000) (hbase : base ≤ w.heap.size)
    (h : ∀ v' w', OwnI w' base v' (l ++ m) → Calm v.ownBlock.toList w w' → (∀ k, v'.ownBlock = some k → v.ownBlock = some k ∨ k = w.heap.size) → wpList Try.prog ops Q rest (a.put o.dst v') w') : wpList Try.prog ops Q (o :: rest) a w :=
  wpList_plain hgd fun K hK => by
    obtain ⟨v', w', hr, h1, h2, h3⟩ := run_append_ints o.type base v l hown ad c m hm hlen hbase
    unfold Oper.wp execOp
    simp only [ho, resolve, invoke, builtin, Sem.run_bind, Sem.run_pure, Result.andThen_ok, List.map_toArray, List.map_cons, List.map_nil, hs, hx, hr]
    exact hK _ _ (h v' w' h1 h2 h3)
/-- one byte -/
theorem wpList_append_int {ops : Array Oper} {rest : List Oper} {o : Oper} {a : Act} {w : World} {Q : Exit → Act → World → Prop} (hgd : o.guard = none) (s x : Operand)
    (ho : o.op = .call { callee := .builtin .append, args := #[s, x], argTypes := #[22, 22] }) (base : Nat) (v : Value) (l : List Int) (hs : a.eval s = v) (hown : OwnI w base v l)
    (g c : Nat) (y : Int) (hx : a.eval x = .slice (some ⟨g, 0, none⟩) 1 c) (hy : w.cell? ⟨g, 0, none⟩ = some (.int .i64 y)) (hlen : l.length < 1000000) (hbase : base ≤ w.heap.size)
    (h : ∀ v' w', OwnI w' base v' (l ++ [y]) → Calm v.ownBlock.toList w w' → (∀ k, v'.ownBlock = some k → v.ownBlock = some k ∨ k = w.heap.size) → wpList Try.prog ops Q rest (a.put o.dst v') w') : wpList Try.prog ops Q (o :: rest) a w :=
  wpList_append_ints hgd s x ho base v l hs hown ⟨g, 0, none⟩ c [y] hx (fun j z hj => by
    match j, hj with
    | 0, hj => simp at hj; subst hj; exact hy
    | j + 1, hj => simp at hj) (by simp; omega) hbase h



theorem wpList_append_arri {ops : Array Oper} {rest : List Oper} {o : Oper} {a : Act} {w : World} {Q : Exit → Act → World → Prop} (hgd : o.guard = none) (s x : Operand)
    (ho : o.op = .call { callee := .builtin .append, args := #[s, x], argTypes := #[22, 22] }) (base : Nat) (v : Value) (l : List Int) (hs : a.eval s = v) (hown : OwnI w base v l)
    (vx : Value) (m : List Int) (hx : a.eval x = vx) (hm : Arr w .i64 vx m) (hlen : l.length + m.length ≤ 1000000) (hbase : base ≤ w.heap.size)
    (h : ∀ v' w', OwnI w' base v' (l ++ m) → Calm v.ownBlock.toList w w' → (∀ k, v'.ownBlock = some k → v.ownBlock = some k ∨ k = w.heap.size) → wpList Try.prog ops Q rest (a.put o.dst v') w') : wpList Try.prog ops Q (o :: rest) a w := by
  obtain ⟨⟨ao, c, rfl, h1, h2, h3⟩, _, _⟩ := hm
  cases ao with
  | none =>
    have hm : m = [] := by
      rcases m with _ | ⟨y, r⟩
      · rfl
      · obtain ⟨b, off, e, _⟩ := h2 (by simp)
        cases e
    subst hm
    have hc : c = 0 := h3 rfl
    subst hc
    obtain ⟨i, hi, _, _, _⟩ := info_parts info_i64
    refine wpList_append_own_none hgd s x 22 ho base 3 i 1 Try.underlying22 hi v l.length (intsV l) hs hown hx (h v w (by simpa using hown) (Calm.refl _ _) fun k hk => .inl hk)
  | some ad =>
    refine wpList_append_ints hgd s x ho base v l hs hown ad c m hx (fun j y hj => ?_) hlen hbase h
    have hjl : j < m.length := (List.getElem?_eq_some_iff.1 hj).1
    obtain ⟨b, off, e, hc⟩ := h2 (by intro hh; rw [hh] at hjl; simp at hjl)
    cases e
    rw [Go.WideShapes.add_plain, hc j hjl]
    simp [List.getD, hj]
/-- a slice of the call's own can be read -/
theorem OwnI.arr {w : World} {base : Nat} {v : Value} {l : List Int} (h : OwnI w base v l) (hb : ∀ y ∈ l, (Lit.int .i64 y).wf = true) : Arr w .i64 v l := by
  have hc := h
  rcases h.2 with ⟨rfl, h0⟩ | ⟨g, cap, cur, rfl, a1, a2, a3, a4, a5, a6⟩
  · have h0' : l = [] := List.eq_nil_of_length_eq_zero h0
    subst h0'
    exact ⟨⟨none, 0, rfl, Nat.le_refl _, fun h => absurd rfl h, fun _ => rfl⟩, Nat.zero_le _, fun n hn => by cases hn⟩
  · refine ⟨⟨_, cap, rfl, a3, fun _ => ⟨g, 0, rfl, fun j hj => ?_⟩, fun h => by cases h⟩, Nat.le_trans a3 a4, fun n hn => hb n hn⟩
    rw [Nat.zero_add, hc.cell j (l.getD j 0) (by simp [hj])]

end Go.Proofs.Ytcpgcealaomleaa
