/-
  DERIVED. Slices of the call's own whose elements are all of one shape, whatever the shape: read, stored into, appended to.
-/
import Derived.Test.YtjohcngmoemmbaaSteps
import Derived.Laws.AppendOwnNone
namespace Go.Proofs.Ytjohcngmoemmbaa
open Go.RowKit
set_option linter.unusedVariables false

/-- how the elements of a slice lie in memory -/
structure Lay (α : Type) where
  st : TypeId
  et : TypeId
  n : Nat
  bytes : Nat
  zero : Value
  cells : α → List Value
  len : ∀ x, (cells x).length = n
  one : ∀ x, ∀ u ∈ cells x, u.oneCell' = true
  pos : 0 < n
  small : bytes ≤ 4000
  und : Try.prog.underlying st = some (.slice et)
  info : (Try.prog.info? et).map (fun i => (i.zero, i.size, i.bytes)) = some (some zero, n, bytes)
  zcells : zero.cells.size = n

variable {α : Type}
/-- all cells, one element behind the other -/
def Lay.flat (L : Lay α) : List α → List Value
  | [] => []
  | x :: r => L.cells x ++ L.flat r
theorem Lay.flat_append (L : Lay α) (l m : List α) : L.flat (l ++ m) = L.flat l ++ L.flat m := by
  induction l with
  | nil => rfl
  | cons x r ih => simp [Lay.flat, ih]
theorem Lay.flat_length (L : Lay α) (l : List α) : (L.flat l).length = l.length * L.n := by
  induction l with
  | nil => simp [Lay.flat]
  | cons x r ih => simp only [Lay.flat, List.length_append, L.len, ih, List.length_cons, Nat.add_mul, Nat.one_mul]; omega
theorem Lay.flat_get (L : Lay α) {l : List α} {j : Nat} {x : α} (h : l[j]? = some x) (i : Nat) (hi : i < L.n) : (L.flat l)[j * L.n + i]? = (L.cells x)[i]? := by
  induction l generalizing j with
  | nil => simp at h
  | cons y r ih =>
    cases j with
    | zero =>
      simp at h
      subst h
      rw [Nat.zero_mul, Nat.zero_add, Lay.flat, List.getElem?_append_left (by rw [L.len]; exact hi)]
    | succ j =>
      simp at h
      rw [Lay.flat, List.getElem?_append_right (by rw [L.len, Nat.add_mul, Nat.one_mul]; omega)]
      rw [show (j + 1) * L.n + i - (L.cells y).length = j * L.n + i by rw [L.len, Nat.add_mul, Nat.one_mul]; omega]
      exact ih h
theorem Lay.flat_one (L : Lay α) (l : List α) : ∀ u ∈ L.flat l, u.oneCell' = true := by
  induction l with
  | nil => intro u hu; cases hu
  | cons x r ih =>
    intro u hu
    rcases List.mem_append.1 hu with h | h
    · exact L.one x u h
    · exact ih u h
theorem Lay.flat_single (L : Lay α) (x : α) : L.flat [x] = L.cells x := by simp [Lay.flat]

/-- v is a slice of the call's own (of a block from base on) and holds these elements -/
def OwnG (L : Lay α) (w : World) (base : Nat) (v : Value) (l : List α) : Prop := w.ownsRow base L.et L.n v l.length (L.flat l)

theorem OwnG.lt {L : Lay α} {w : World} {base : Nat} {v : Value} {l : List α} (h : OwnG L w base v l) : ∀ k, v.ownBlock = some k → base ≤ k ∧ k < w.heap.size := World.ownsRow.lt h
theorem OwnG.nil (L : Lay α) (w : World) (base : Nat) : OwnG L w base (.slice none 0 0) [] := World.ownsRow_nil w base _ L.n
theorem OwnG.kept {L : Lay α} {w w' : World} {base : Nat} {v : Value} {l : List α} (h : OwnG L w base v l) (hb : ∀ k, v.ownBlock = some k → w'.heap[k]? = w.heap[k]?) : OwnG L w' base v l := by
  obtain ⟨h1, h2⟩ := h
  refine ⟨h1, ?_⟩
  rcases h2 with h2 | ⟨g, cap, cur, rfl, a1, a2, a3, a4, a5, a6⟩
  · exact .inl h2
  · exact .inr ⟨g, cap, cur, rfl, a1, (hb g rfl).trans a2, a3, a4, a5, a6⟩
theorem OwnG.ext {L : Lay α} {w w' : World} {base : Nat} {v : Value} {l : List α} (h : OwnG L w base v l) (hx : Ext w w') : OwnG L w' base v l := h.kept fun k hk => hx.block (h.lt k hk).2
theorem OwnG.calm {L : Lay α} {O : List Nat} {w w' : World} {base : Nat} {v : Value} {l : List α} (h : OwnG L w base v l) (hx : Calm O w w') (hO : ∀ k, v.ownBlock = some k → k ∉ O) : OwnG L w' base v l := h.kept fun k hk => hx.block k (h.lt k hk).2 (hO k hk)
theorem OwnG.mono {L : Lay α} {w : World} {base base' : Nat} {v : Value} {l : List α} (h : OwnG L w base v l) (hb : base' ≤ base) : OwnG L w base' v l := by
  obtain ⟨h1, h2⟩ := h
  refine ⟨h1, ?_⟩
  rcases h2 with h2 | ⟨g, cap, cur, rfl, a1, a2⟩
  · exact .inl h2
  · exact .inr ⟨g, cap, cur, rfl, Nat.le_trans hb a1, a2⟩
theorem OwnG.slice {L : Lay α} {w : World} {base : Nat} {v : Value} {l : List α} (h : OwnG L w base v l) : ∃ (ao : Option Addr) (c : Nat), v = .slice ao l.length c ∧ (ao = none → l = [] ∧ c = 0) ∧ ∀ a, ao = some a → a = ⟨a.block, 0, none⟩ := by
  rcases h.2 with ⟨rfl, h0⟩ | ⟨g, cap, cur, rfl, _⟩
  · have h0' : l = [] := List.eq_nil_of_length_eq_zero h0
    subst h0'
    exact ⟨none, 0, rfl, (fun _ => ⟨rfl, rfl⟩), (fun a ha => by cases ha)⟩
  · exact ⟨_, cap, rfl, (fun h => by cases h), (fun a ha => by cases ha; rfl)⟩
/-- an element, where it lies -/
theorem OwnG.nth {L : Lay α} {w : World} {base : Nat} {ao : Option Addr} {n c : Nat} {l : List α} (h : OwnG L w base (.slice ao n c) l) (j : Nat) (hj : j < l.length) : ∃ g x, ao = some ⟨g, 0, none⟩ ∧ n = l.length ∧ l[j]? = some x ∧ ∀ i u, (L.cells x)[i]? = some u → w.cell? ⟨g, j * L.n + i, none⟩ = some u := by
  have h' : w.ownsRow base L.et L.n (.slice ao n c) l.length (L.flat l) := h
  rcases h.2 with ⟨e, h0⟩ | ⟨g, cap, cur, e, _⟩
  · omega
  · cases e
    have hx : l[j]? = some l[j] := by simp [hj]
    refine ⟨g, l[j], rfl, rfl, hx, fun i u hu => ?_⟩
    have hi : i < L.n := by
      have := (List.getElem?_eq_some_iff.1 hu).1
      rw [L.len] at this
      exact this
    have := World.ownsRow.cellAt h' (j * L.n + i) (by
      have : (j + 1) * L.n ≤ l.length * L.n := Nat.mul_le_mul_right _ (by omega)
      rw [Nat.add_mul, Nat.one_mul] at this
      omega)
    rw [this, L.flat_get hx i hi, hu]
theorem OwnG.thaw {L : Lay α} {w : World} {base g c n : Nat} {l : List α} (h : OwnG L w base (.slice (some ⟨g, 0, none⟩) n c) l) (hn : n = l.length) (j : Nat) : w.frozen? ⟨g, j, none⟩ = false := by
  subst hn
  exact World.ownsRow.frozenAt h j
/-- one cell is stored: what the cells are behind it -/
theorem OwnG.store {L : Lay α} {w : World} {base g c n : Nat} {l l' : List α} (h : OwnG L w base (.slice (some ⟨g, 0, none⟩) n c) l) (hn : n = l.length) (o : Nat) (u : Value) (hl : l'.length = l.length) (hf : L.flat l' = (L.flat l).set o u) : OwnG L (w.setCell ⟨g, o, none⟩ u) base (.slice (some ⟨g, 0, none⟩) n c) l' := by
  subst hn
  have h1 := (World.ownsRow.stored h o u).1
  unfold OwnG
  rw [hl, hf]
  exact h1

/-- a literal -/
theorem OwnG.lit (L : Lay α) (w : World) (l : List α) (hl : l.length ≤ 1000000) : OwnG L (w.alloc (.cells (L.flat l).toArray L.et)) w.heap.size (.slice (some ⟨w.heap.size, 0, none⟩) l.length l.length) l := by
  unfold OwnG
  have := World.ownsRow_lit (base := w.heap.size) (e := L.et) (size := L.n) w (L.flat l).toArray l.length (Nat.le_refl _) (by simp only [maxLen]; omega) (by rw [List.size_toArray, L.flat_length])
  exact this

/-- v is a slice that can be read and holds these elements -/
def PArrG (L : Lay α) (w : World) (v : Value) (xs : List α) : Prop := ∃ ao cap, v = .slice ao xs.length cap ∧ (xs ≠ [] → ∃ b off, ao = some ⟨b, off, none⟩ ∧ ∀ (j : Nat) x, xs[j]? = some x → ∀ i u, (L.cells x)[i]? = some u → w.cell? ⟨b, off + j * L.n + i, none⟩ = some u)
theorem PArrG.slice {L : Lay α} {w : World} {v : Value} {xs : List α} (h : PArrG L w v xs) : ∃ (ao : Option Addr) (c : Nat), v = .slice ao xs.length c ∧ True ∧ True := by
  obtain ⟨ao, c, rfl, _⟩ := h
  exact ⟨ao, c, rfl, trivial, trivial⟩
theorem PArrG.ext {L : Lay α} {w w' : World} {v : Value} {xs : List α} (h : PArrG L w v xs) (hx : Ext w w') : PArrG L w' v xs := by
  obtain ⟨ao, c, rfl, h1⟩ := h
  refine ⟨ao, c, rfl, fun hne => ?_⟩
  obtain ⟨b, off, rfl, hc⟩ := h1 hne
  exact ⟨b, off, rfl, fun j x hj i u hu => hx.old (hc j x hj i u hu)⟩
theorem PArrG.qt {L : Lay α} {w w' : World} {v : Value} {xs : List α} (h : PArrG L w v xs) (q : Qt w w') : PArrG L w' v xs := h.ext ((Ext.refl w).qt q)
theorem PArrG.nth {L : Lay α} {w : World} {ao : Option Addr} {n c : Nat} {xs : List α} (h : PArrG L w (.slice ao n c) xs) (j : Nat) (hj : j < xs.length) : ∃ g off x, ao = some ⟨g, off, none⟩ ∧ n = xs.length ∧ xs[j]? = some x ∧ ∀ i u, (L.cells x)[i]? = some u → w.cell? ⟨g, off + j * L.n + i, none⟩ = some u := by
  obtain ⟨ao', c', e, h1⟩ := h
  cases e
  obtain ⟨b, off, rfl, hc⟩ := h1 (by intro e; subst e; simp at hj)
  exact ⟨b, off, xs[j], rfl, rfl, by simp [hj], hc j xs[j] (by simp [hj])⟩
theorem OwnG.parr {L : Lay α} {w : World} {base : Nat} {v : Value} {l : List α} (h : OwnG L w base v l) : PArrG L w v l := by
  have h' := h
  obtain ⟨ao, c, rfl, h0, ha⟩ := h.slice
  refine ⟨ao, c, rfl, fun hne => ?_⟩
  cases ao with
  | none => exact absurd (h0 rfl).1 hne
  | some a =>
    obtain ⟨g, rfl⟩ : ∃ g, a = ⟨g, 0, none⟩ := ⟨a.block, ha a rfl⟩
    refine ⟨g, 0, rfl, fun j x hj i u hu => ?_⟩
    obtain ⟨g', y, e, _, hy, hc⟩ := h'.nth j (List.getElem?_eq_some_iff.1 hj).1
    cases e
    rw [hj] at hy
    cases hy
    rw [Nat.zero_add]
    exact hc i u hu

/-- what appending to a slice of the call's own comes to: it stays in its block, or moves to a new one -/
theorem run_append_g (L : Lay α) {w : World} (ty : TypeId) (base : Nat) (v : Value) (l : List α) (hown : OwnG L w base v l) (ad : Addr) (c : Nat) (m : List α) (hm : ∀ j u, (L.flat m)[j]? = some u → w.cell? (ad.add j) = some u) (hlen : l.length + m.length ≤ 1000000) (hbase : base ≤ w.heap.size) :
    ∃ v' w', (Builtin.append_ #[L.st, L.st] ty #[v, .slice (some ad) m.length c]).run Try.prog w = .ok v' w' ∧ OwnG L w' base v' (l ++ m) ∧ Calm v.ownBlock.toList w w' ∧ ∀ k, v'.ownBlock = some k → v.ownBlock = some k ∨ k = w.heap.size := by
  obtain ⟨i, hi, hz, h1, h2⟩ := info_parts L.info
  have hb := L.small
  have hm' := hm
  have hby : (l.length + m.length) * i.bytes ≤ 1000000 * 4000 := by rw [h2]; exact Nat.mul_le_mul hlen hb
  have hby2 : m.length * i.bytes ≤ 1000000 * 4000 := by rw [h2]; exact Nat.mul_le_mul (by omega) hb
  have hl1 : (L.flat m).length = m.length * i.size := by rw [L.flat_length, h1]
  obtain ⟨v', w', hr, a1, a2, a3⟩ := run_append_own (P := Try.prog) w base L.st ty L.et i L.zero L.n L.bytes L.und hi hz h1 h2 L.zcells L.pos v l.length (L.flat l) hown ad m.length c (L.flat m) (by rw [L.flat_length]) hm' (L.flat_one m) (by simp only [maxLen]; omega) (by rw [← h2]; omega) hbase
  refine ⟨v', w', hr, by unfold OwnG; rw [List.length_append, L.flat_append]; exact a1, calm_grownBy a2, fun k hk => ?_⟩
  rcases hown.2 with ⟨rfl, h0⟩ | ⟨g, cap, cur, rfl, b1, b2, b3, b4, b5, b6⟩
  · by_cases hm0 : m.length = 0
    · have : v' = .slice none 0 0 := a3.2 ⟨rfl, hm0⟩
      rw [this] at hk; cases hk
    · have e := run_append_nil (P := Try.prog) w L.st ty L.et i L.zero L.und hi hz ad m.length c (L.flat m) hl1 hm' (by omega) (by omega) (by omega)
      rw [hr] at e
      have e' := (Result.ok.inj e).1
      rw [e'] at hk
      exact .inr (Option.some.inj hk).symm
  · by_cases hroom : l.length + m.length ≤ cap
    · have e := run_append_room (P := Try.prog) w L.st ty L.et i L.und hi g l.length cap cur b2 ad m.length c (L.flat m) hl1 hm' (L.flat_one m) hroom (by
        rw [h1, L.flat_length, b5, ← Nat.add_mul]; exact Nat.mul_le_mul_right _ hroom)
      rw [hr] at e
      have e' := (Result.ok.inj e).1
      rw [e'] at hk
      exact .inl hk
    · have e := run_append_grow (P := Try.prog) w L.st ty L.et i L.zero L.und hi hz ⟨g, 0, none⟩ l.length cap (L.flat l) (by rw [L.flat_length, h1]) (World.ownsRow.cells hown (g := g) rfl) ad m.length c (L.flat m) hl1 hm' (by omega) (by omega) (growslice_fits (by omega) (by omega))
      rw [hr] at e
      have e' := (Result.ok.inj e).1
      rw [e'] at hk
      exact .inr (Option.some.inj hk).symm

theorem wpList_append_g (L : Lay α) {ops : Array Oper} {rest : List Oper} {o : Oper} {a : Act} {w : World} {Q : Exit → Act → World → Prop} (hgd : o.guard = none) (s x : Operand)
    (ho : o.op = .call { callee := .builtin .append, args := #[s, x], argTypes := #[L.st, L.st] }) (base : Nat) (v : Value) (l : List α) (hs : a.eval s = v) (hown : OwnG L w base v l)
    (ad : Addr) (c : Nat) (m : List α) (hx : a.eval x = .slice (some ad) m.length c) (hm : ∀ j u, (L.flat m)[j]? = some u → w.cell? (ad.add j) = some u) (hlen : l.length + m.length ≤ 1000000) (hbase : base ≤ w.heap.size)
    (h : ∀ v' w', OwnG L w' base v' (l ++ m) → Calm v.ownBlock.toList w w' → (∀ k, v'.ownBlock = some k → v.ownBlock = some k ∨ k = w.heap.size) → wpList Try.prog ops Q rest (a.put o.dst v') w') : wpList Try.prog ops Q (o :: rest) a w :=
  wpList_plain hgd fun K hK => by
    obtain ⟨v', w', hr, h1, h2, h3⟩ := run_append_g L o.type base v l hown ad c m hm hlen hbase
    unfold Oper.wp execOp
    simp only [ho, resolve, invoke, builtin, Sem.run_bind, Sem.run_pure, Result.andThen_ok, List.map_toArray, List.map_cons, List.map_nil, hs, hx, hr]
    exact hK _ _ (h v' w' h1 h2 h3)
/-- one element -/
theorem wpList_append_g1 (L : Lay α) {ops : Array Oper} {rest : List Oper} {o : Oper} {a : Act} {w : World} {Q : Exit → Act → World → Prop} (hgd : o.guard = none) (s x : Operand)
    (ho : o.op = .call { callee := .builtin .append, args := #[s, x], argTypes := #[L.st, L.st] }) (base : Nat) (v : Value) (l : List α) (hs : a.eval s = v) (hown : OwnG L w base v l)
    (g c : Nat) (y : α) (hx : a.eval x = .slice (some ⟨g, 0, none⟩) 1 c) (hy : ∀ i u, (L.cells y)[i]? = some u → w.cell? ⟨g, i, none⟩ = some u) (hlen : l.length < 1000000) (hbase : base ≤ w.heap.size)
    (h : ∀ v' w', OwnG L w' base v' (l ++ [y]) → Calm v.ownBlock.toList w w' → (∀ k, v'.ownBlock = some k → v.ownBlock = some k ∨ k = w.heap.size) → wpList Try.prog ops Q rest (a.put o.dst v') w') : wpList Try.prog ops Q (o :: rest) a w :=
  wpList_append_g L hgd s x ho base v l hs hown ⟨g, 0, none⟩ c [y] hx (fun j u hj => by
    rw [L.flat_single] at hj
    have := hy j u hj
    rcases Nat.eq_zero_or_pos j with h0 | h0
    · subst h0; simpa [Addr.add] using this
    · simpa [Addr.add, Nat.ne_of_gt h0] using this) (by simp; omega) hbase h
/-- one element, as a step of a region that draws -/
theorem step_append_g1 (L : Lay α) {ops : Array Oper} {o : Oper} {a : Act} {w : World} {K : Act → World → Prop} {Q : Exit → Act → World → Prop} {E : Prop} (hgd : o.guard = none) (s x : Operand)
    (ho : o.op = .call { callee := .builtin .append, args := #[s, x], argTypes := #[L.st, L.st] }) (base : Nat) (v : Value) (l : List α) (hs : a.eval s = v) (hown : OwnG L w base v l)
    (g c : Nat) (y : α) (hx : a.eval x = .slice (some ⟨g, 0, none⟩) 1 c) (hy : ∀ i u, (L.cells y)[i]? = some u → w.cell? ⟨g, i, none⟩ = some u) (hlen : l.length < 1000000) (hbase : base ≤ w.heap.size)
    (h : ∀ v' w', OwnG L w' base v' (l ++ [y]) → Calm v.ownBlock.toList w w' → (∀ k, v'.ownBlock = some k → v.ownBlock = some k ∨ k = w.heap.size) → K (a.put o.dst v') w') :
    if Region.wanted o (yielded ops a.tmps) = true then Oper.wp Try.prog o a w K Q else E := by
  have hw : Region.wanted o (yielded ops a.tmps) = true := by simp [Region.wanted, hgd]
  rw [if_pos hw]
  obtain ⟨v', w', hr, h1, h2, h3⟩ := run_append_g L o.type base v l hown ⟨g, 0, none⟩ c [y] (fun j u hj => by
    rw [L.flat_single] at hj
    have := hy j u hj
    rcases Nat.eq_zero_or_pos j with h0 | h0
    · subst h0; simpa [Addr.add] using this
    · simpa [Addr.add, Nat.ne_of_gt h0] using this) (by simp; omega) hbase
  rw [List.length_singleton] at hr
  unfold Oper.wp execOp
  simp only [ho, resolve, invoke, builtin, Sem.run_bind, Sem.run_pure, Result.andThen_ok, List.map_toArray, List.map_cons, List.map_nil, hs, hx, hr]
  exact h v' w' h1 h2 h3
/-- all of another slice of the call's own (or nil) -/
theorem wpList_append_gs (L : Lay α) {ops : Array Oper} {rest : List Oper} {o : Oper} {a : Act} {w : World} {Q : Exit → Act → World → Prop} (hgd : o.guard = none) (s x : Operand)
    (ho : o.op = .call { callee := .builtin .append, args := #[s, x], argTypes := #[L.st, L.st] }) (base : Nat) (v : Value) (l : List α) (hs : a.eval s = v) (hown : OwnG L w base v l)
    (base' : Nat) (vx : Value) (m : List α) (hx : a.eval x = vx) (hm : OwnG L w base' vx m) (hlen : l.length + m.length ≤ 1000000) (hbase : base ≤ w.heap.size)
    (h : ∀ v' w', OwnG L w' base v' (l ++ m) → Calm v.ownBlock.toList w w' → (∀ k, v'.ownBlock = some k → v.ownBlock = some k ∨ k = w.heap.size) → wpList Try.prog ops Q rest (a.put o.dst v') w') : wpList Try.prog ops Q (o :: rest) a w := by
  obtain ⟨ao, c, rfl, h1, h2⟩ := hm.slice
  cases ao with
  | none =>
    obtain ⟨rfl, rfl⟩ := h1 rfl
    obtain ⟨i, hi, _, _, _⟩ := info_parts L.info
    refine wpList_append_own_none hgd s x L.st ho base L.et i L.n L.und hi v l.length (L.flat l) hs hown hx (h v w (by simpa using hown) (Calm.refl _ _) fun k hk => .inl hk)
  | some ad =>
    have e := h2 ad rfl
    rw [e] at hm hx
    exact wpList_append_g L hgd s x ho base v l hs hown ⟨ad.block, 0, none⟩ c m hx (World.ownsRow.cells hm (g := ad.block) rfl) hlen hbase h
end Go.Proofs.Ytjohcngmoemmbaa
