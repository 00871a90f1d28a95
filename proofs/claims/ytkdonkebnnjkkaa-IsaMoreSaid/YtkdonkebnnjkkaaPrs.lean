/-
  DERIVED. Slices of instructions of the call's own: read, stored into, appended to, made.
-/
import Derived.Test.YtkdonkebnnjkkaaSteps
import Derived.Test.YtkdonkebnnjkkaaBytesArr
import Derived.Test.YtkdonkebnnjkkaaIsaPlain
namespace Go.Proofs.Ytkdonkebnnjkkaa
open Go.RowKit
set_option linter.unusedVariables false

def In.cells (x : In) : List Value := [.int .u8 x.op, .int .u8 x.dst, .int .u8 x.a, .int .u8 x.b, .int .i16 x.imm]
def insV : List In → List Value
  | [] => []
  | x :: r => x.cells ++ insV r
theorem insV_append (l m : List In) : insV (l ++ m) = insV l ++ insV m := by
  induction l with
  | nil => rfl
  | cons x r ih => simp [insV, ih]
theorem insV_length (l : List In) : (insV l).length = l.length * 5 := by
  induction l with
  | nil => rfl
  | cons x r ih => simp [insV, ih, In.cells]; omega
theorem insV_get {l : List In} {j : Nat} {x : In} (h : l[j]? = some x) (i : Nat) (hi : i < 5) : (insV l)[j * 5 + i]? = x.cells[i]? := by
  induction l generalizing j with
  | nil => simp at h
  | cons y r ih =>
    cases j with
    | zero =>
      simp at h
      subst h
      rw [Nat.zero_mul, Nat.zero_add, insV, List.getElem?_append_left (by simpa [In.cells] using hi)]
    | succ j =>
      simp at h
      rw [insV, List.getElem?_append_right (by simp [In.cells]; omega)]
      rw [show (j + 1) * 5 + i - y.cells.length = j * 5 + i by simp [In.cells]; omega]
      exact ih h
theorem insV_set {l : List In} {j : Nat} (hj : j < l.length) (x : In) : insV (l.set j x) = (((((insV l).set (j * 5) (.int .u8 x.op)).set (j * 5 + 1) (.int .u8 x.dst)).set (j * 5 + 2) (.int .u8 x.a)).set (j * 5 + 3) (.int .u8 x.b)).set (j * 5 + 4) (.int .i16 x.imm) := by
  induction l generalizing j with
  | nil => simp at hj
  | cons y r ih =>
    cases j with
    | zero => simp [insV, In.cells]
    | succ j =>
      have := ih (j := j) (by simpa using hj)
      rw [List.set_cons_succ, insV, this]
      rw [show (j + 1) * 5 = j * 5 + 5 by omega]
      simp [insV, In.cells]
theorem insV_one (l : List In) : ∀ u ∈ insV l, u.oneCell' = true := by
  induction l with
  | nil => intro u hu; cases hu
  | cons x r ih =>
    intro u hu
    rcases List.mem_append.1 hu with h | h
    · simp [In.cells] at h
      rcases h with rfl | rfl | rfl | rfl | rfl <;> rfl
    · exact ih u h

/-- v is a slice of the call's own (of a block from base on) and holds these instructions -/
def OwnP (w : World) (base : Nat) (v : Value) (l : List In) : Prop := w.ownsRow base 49 5 v l.length (insV l)

theorem OwnP.lt {w : World} {base : Nat} {v : Value} {l : List In} (h : OwnP w base v l) : ∀ k, v.ownBlock = some k → base ≤ k ∧ k < w.heap.size := World.ownsRow.lt h
theorem OwnP.nil (w : World) (base : Nat) : OwnP w base (.slice none 0 0) [] := World.ownsRow_nil w base _ 5
theorem OwnP.kept {w w' : World} {base : Nat} {v : Value} {l : List In} (h : OwnP w base v l) (hb : ∀ k, v.ownBlock = some k → w'.heap[k]? = w.heap[k]?) : OwnP w' base v l := by
  obtain ⟨h1, h2⟩ := h
  refine ⟨h1, ?_⟩
  rcases h2 with h2 | ⟨g, cap, cur, rfl, a1, a2, a3, a4, a5, a6⟩
  · exact .inl h2
  · exact .inr ⟨g, cap, cur, rfl, a1, (hb g rfl).trans a2, a3, a4, a5, a6⟩
theorem OwnP.ext {w w' : World} {base : Nat} {v : Value} {l : List In} (h : OwnP w base v l) (hx : Ext w w') : OwnP w' base v l := h.kept fun k hk => hx.block (h.lt k hk).2
theorem OwnP.calm {O : List Nat} {w w' : World} {base : Nat} {v : Value} {l : List In} (h : OwnP w base v l) (hx : Calm O w w') (hO : ∀ k, v.ownBlock = some k → k ∉ O) : OwnP w' base v l := h.kept fun k hk => hx.block k (h.lt k hk).2 (hO k hk)
theorem OwnP.mono {w : World} {base base' : Nat} {v : Value} {l : List In} (h : OwnP w base v l) (hb : base' ≤ base) : OwnP w base' v l := by
  obtain ⟨h1, h2⟩ := h
  refine ⟨h1, ?_⟩
  rcases h2 with h2 | ⟨g, cap, cur, rfl, a1, a2⟩
  · exact .inl h2
  · exact .inr ⟨g, cap, cur, rfl, Nat.le_trans hb a1, a2⟩
theorem OwnP.slice {w : World} {base : Nat} {v : Value} {l : List In} (h : OwnP w base v l) : ∃ (ao : Option Addr) (c : Nat), v = .slice ao l.length c ∧ (ao = none → l = [] ∧ c = 0) ∧ ∀ a, ao = some a → a = ⟨a.block, 0, none⟩ := by
  rcases h.2 with ⟨rfl, h0⟩ | ⟨g, cap, cur, rfl, _⟩
  · have h0' : l = [] := List.eq_nil_of_length_eq_zero h0
    subst h0'
    exact ⟨none, 0, rfl, (fun _ => ⟨rfl, rfl⟩), (fun a ha => by cases ha)⟩
  · exact ⟨_, cap, rfl, (fun h => by cases h), (fun a ha => by cases ha; rfl)⟩
/-- an instruction, where it lies -/
theorem OwnP.nth {w : World} {base : Nat} {ao : Option Addr} {n c : Nat} {l : List In} (h : OwnP w base (.slice ao n c) l) (j : Nat) (hj : j < l.length) : ∃ g x, ao = some ⟨g, 0, none⟩ ∧ n = l.length ∧ l[j]? = some x ∧ w.cell? ⟨g, j * 5, none⟩ = some (.int .u8 x.op) ∧ w.cell? ⟨g, j * 5 + 1, none⟩ = some (.int .u8 x.dst) ∧ w.cell? ⟨g, j * 5 + 2, none⟩ = some (.int .u8 x.a) ∧ w.cell? ⟨g, j * 5 + 3, none⟩ = some (.int .u8 x.b) ∧ w.cell? ⟨g, j * 5 + 4, none⟩ = some (.int .i16 x.imm) := by
  have h' : w.ownsRow base 49 5 (.slice ao n c) l.length (insV l) := h
  rcases h.2 with ⟨e, h0⟩ | ⟨g, cap, cur, e, _⟩
  · omega
  · cases e
    have hx : l[j]? = some l[j] := by simp [hj]
    refine ⟨g, l[j], rfl, rfl, hx, ?_, ?_, ?_, ?_, ?_⟩
    · have := World.ownsRow.cellAt h' (j * 5) (by omega)
      rw [this]; exact insV_get hx 0 (by omega)
    · have := World.ownsRow.cellAt h' (j * 5 + 1) (by omega)
      rw [this]; exact insV_get hx 1 (by omega)
    · have := World.ownsRow.cellAt h' (j * 5 + 2) (by omega)
      rw [this]; exact insV_get hx 2 (by omega)
    · have := World.ownsRow.cellAt h' (j * 5 + 3) (by omega)
      rw [this]; exact insV_get hx 3 (by omega)
    · have := World.ownsRow.cellAt h' (j * 5 + 4) (by omega)
      rw [this]; exact insV_get hx 4 (by omega)
theorem OwnP.thaw {w : World} {base g c n : Nat} {L : List In} (h : OwnP w base (.slice (some ⟨g, 0, none⟩) n c) L) (hn : n = L.length) (j : Nat) : w.frozen? ⟨g, j, none⟩ = false := by
  subst hn
  exact World.ownsRow.frozenAt h j
/-- a whole instruction is stored -/
theorem OwnP.put {w : World} {base g c n : Nat} {L : List In} (h : OwnP w base (.slice (some ⟨g, 0, none⟩) n c) L) (hn : n = L.length) (j : Nat) (hj : j < L.length) (x : In) : OwnP (((((w.setCell ⟨g, j * 5, none⟩ (.int .u8 x.op)).setCell ⟨g, j * 5 + 1, none⟩ (.int .u8 x.dst)).setCell ⟨g, j * 5 + 2, none⟩ (.int .u8 x.a)).setCell ⟨g, j * 5 + 3, none⟩ (.int .u8 x.b)).setCell ⟨g, j * 5 + 4, none⟩ (.int .i16 x.imm)) base (.slice (some ⟨g, 0, none⟩) n c) (L.set j x) := by
  subst hn
  have h1 := (World.ownsRow.stored h (j * 5) (.int .u8 x.op)).1
  have h2 := (World.ownsRow.stored h1 (j * 5 + 1) (.int .u8 x.dst)).1
  have h3 := (World.ownsRow.stored h2 (j * 5 + 2) (.int .u8 x.a)).1
  have h4 := (World.ownsRow.stored h3 (j * 5 + 3) (.int .u8 x.b)).1
  have h5 := (World.ownsRow.stored h4 (j * 5 + 4) (.int .i16 x.imm)).1
  unfold OwnP
  rw [List.length_set, insV_set hj]
  exact h5

theorem info_in : (Try.prog.info? 49).map (fun i => (i.zero, i.size, i.bytes)) = some (some (.agg #[.int .u8 0, .int .u8 0, .int .u8 0, .int .u8 0, .int .i16 0]), 5, 6) := by kernel_rfl

/-- what appending instructions to a slice of the call's own comes to: it stays in its block, or moves to a new one -/
theorem run_append_ins {w : World} (ty : TypeId) (base : Nat) (v : Value) (l : List In) (hown : OwnP w base v l) (ad : Addr) (c : Nat) (m : List In) (hm : ∀ j u, (insV m)[j]? = some u → w.cell? (ad.add j) = some u) (hlen : l.length + m.length ≤ 1000000) (hbase : base ≤ w.heap.size) :
    ∃ v' w', (Builtin.append_ #[25, 25] ty #[v, .slice (some ad) m.length c]).run Try.prog w = .ok v' w' ∧ OwnP w' base v' (l ++ m) ∧ Calm v.ownBlock.toList w w' ∧ ∀ k, v'.ownBlock = some k → v.ownBlock = some k ∨ k = w.heap.size := by
  obtain ⟨i, hi, hz, h1, h2⟩ := info_parts info_in
  have hm' := hm
  have hl1 : (insV m).length = m.length * i.size := by rw [insV_length, h1]
  obtain ⟨v', w', hr, a1, a2, a3⟩ := run_append_own (P := Try.prog) w base 25 ty 49 i (.agg #[.int .u8 0, .int .u8 0, .int .u8 0, .int .u8 0, .int .i16 0]) 5 6 Try.underlying25 hi hz h1 h2 rfl (by decide) v l.length (insV l) hown ad m.length c (insV m) (by rw [insV_length]) hm' (insV_one m) (by simp only [maxLen]; omega) (by omega) hbase
  refine ⟨v', w', hr, by unfold OwnP; rw [List.length_append, insV_append]; exact a1, calm_grownBy a2, fun k hk => ?_⟩
  rcases hown.2 with ⟨rfl, h0⟩ | ⟨g, cap, cur, rfl, b1, b2, b3, b4, b5, b6⟩
  · by_cases hm0 : m.length = 0
    · have : v' = .slice none 0 0 := a3.2 ⟨rfl, hm0⟩
      rw [this] at hk; cases hk
    · have e := run_append_nil (P := Try.prog) w 25 ty 49 i (.agg #[.int .u8 0, .int .u8 0, .int .u8 0, .int .u8 0, .int .i16 0]) Try.underlying25 hi hz ad m.length c (insV m) hl1 hm' (by omega) (by omega) (by rw [h2]; omega)
      rw [hr] at e
      have e' := (Result.ok.inj e).1
      rw [e'] at hk
      exact .inr (Option.some.inj hk).symm
  · by_cases hroom : l.length + m.length ≤ cap
    · have e := run_append_room (P := Try.prog) w 25 ty 49 i Try.underlying25 hi g l.length cap cur b2 ad m.length c (insV m) hl1 hm' (insV_one m) hroom (by rw [h1, insV_length, b5]; omega)
      rw [hr] at e
      have e' := (Result.ok.inj e).1
      rw [e'] at hk
      exact .inl hk
    · have e := run_append_grow (P := Try.prog) w 25 ty 49 i (.agg #[.int .u8 0, .int .u8 0, .int .u8 0, .int .u8 0, .int .i16 0]) Try.underlying25 hi hz ⟨g, 0, none⟩ l.length cap (insV l) (by rw [insV_length, h1]) (World.ownsRow.cells hown (g := g) rfl) ad m.length c (insV m) hl1 hm' (by omega) (by omega) (growslice_fits (by omega) (by rw [h2]; omega))
      rw [hr] at e
      have e' := (Result.ok.inj e).1
      rw [e'] at hk
      exact .inr (Option.some.inj hk).symm

theorem wpList_append_ins {ops : Array Oper} {rest : List Oper} {o : Oper} {a : Act} {w : World} {Q : Exit → Act → World → Prop} (hgd : o.guard = none) (s x : Operand)
    (ho : o.op = .call { callee := .builtin .append, args := #[s, x], argTypes := #[25, 25] }) (base : Nat) (v : Value) (l : List In) (hs : a.eval s = v) (hown : OwnP w base v l)
    (ad : Addr) (c : Nat) (m : List In) (hx : a.eval x = .slice (some ad) m.length c) (hm : ∀ j u, (insV m)[j]? = some u → w.cell? (ad.add j) = some u) (hlen : l.length + m.length ≤ 1000000) (hbase : base ≤ w.heap.size)
    (h : ∀ v' w', OwnP w' base v' (l ++ m) → Calm v.ownBlock.toList w w' → (∀ k, v'.ownBlock = some k → v.ownBlock = some k ∨ k = w.heap.size) → wpList Try.prog ops Q rest (a.put o.dst v') w') : wpList Try.prog ops Q (o :: rest) a w :=
  wpList_plain hgd fun K hK => by
    obtain ⟨v', w', hr, h1, h2, h3⟩ := run_append_ins o.type base v l hown ad c m hm hlen hbase
    unfold Oper.wp execOp
    simp only [ho, resolve, invoke, builtin, Sem.run_bind, Sem.run_pure, Result.andThen_ok, List.map_toArray, List.map_cons, List.map_nil, hs, hx, hr]
    exact hK _ _ (h v' w' h1 h2 h3)
/-- one instruction -/
theorem wpList_append_in {ops : Array Oper} {rest : List Oper} {o : Oper} {a : Act} {w : World} {Q : Exit → Act → World → Prop} (hgd : o.guard = none) (s x : Operand)
    (ho : o.op = .call { callee := .builtin .append, args := #[s, x], argTypes := #[25, 25] }) (base : Nat) (v : Value) (l : List In) (hs : a.eval s = v) (hown : OwnP w base v l)
    (g c : Nat) (y : In) (hx : a.eval x = .slice (some ⟨g, 0, none⟩) 1 c) (hy : ∀ i u, y.cells[i]? = some u → w.cell? ⟨g, i, none⟩ = some u) (hlen : l.length < 1000000) (hbase : base ≤ w.heap.size)
    (h : ∀ v' w', OwnP w' base v' (l ++ [y]) → Calm v.ownBlock.toList w w' → (∀ k, v'.ownBlock = some k → v.ownBlock = some k ∨ k = w.heap.size) → wpList Try.prog ops Q rest (a.put o.dst v') w') : wpList Try.prog ops Q (o :: rest) a w :=
  wpList_append_ins hgd s x ho base v l hs hown ⟨g, 0, none⟩ c [y] hx (fun j u hj => by
    rw [show insV [y] = y.cells by simp [insV]] at hj
    have := hy j u hj
    rcases Nat.eq_zero_or_pos j with h0 | h0
    · subst h0; simpa [Addr.add] using this
    · simpa [Addr.add, Nat.ne_of_gt h0] using this) (by simp; omega) hbase h
/-- all of another slice of the call's own (or nil) -/
theorem wpList_append_own {ops : Array Oper} {rest : List Oper} {o : Oper} {a : Act} {w : World} {Q : Exit → Act → World → Prop} (hgd : o.guard = none) (s x : Operand)
    (ho : o.op = .call { callee := .builtin .append, args := #[s, x], argTypes := #[25, 25] }) (base : Nat) (v : Value) (l : List In) (hs : a.eval s = v) (hown : OwnP w base v l)
    (base' : Nat) (vx : Value) (m : List In) (hx : a.eval x = vx) (hm : OwnP w base' vx m) (hlen : l.length + m.length ≤ 1000000) (hbase : base ≤ w.heap.size)
    (h : ∀ v' w', OwnP w' base v' (l ++ m) → Calm v.ownBlock.toList w w' → (∀ k, v'.ownBlock = some k → v.ownBlock = some k ∨ k = w.heap.size) → wpList Try.prog ops Q rest (a.put o.dst v') w') : wpList Try.prog ops Q (o :: rest) a w := by
  obtain ⟨ao, c, rfl, h1, h2⟩ := hm.slice
  cases ao with
  | none =>
    obtain ⟨rfl, rfl⟩ := h1 rfl
    obtain ⟨i, hi, _, _, _⟩ := info_parts info_in
    refine wpList_append_own_none hgd s x 25 ho base 49 i 5 Try.underlying25 hi v l.length (insV l) hs hown hx (h v w (by simpa using hown) (Calm.refl _ _) fun k hk => .inl hk)
  | some ad =>
    have e := h2 ad rfl
    rw [e] at hm hx
    exact wpList_append_ins hgd s x ho base v l hs hown ⟨ad.block, 0, none⟩ c m hx (World.ownsRow.cells hm (g := ad.block) rfl) hlen hbase h

theorem make_ins (n : Nat) (hn : n ≤ 1000000) (w : World) :
    (Instr.makeSlice 25 (.int .i64 (n : Int)) (.int .i64 (n : Int))).run Try.prog w = .ok (.slice (some ⟨w.heap.size, 0, none⟩) n n) (w.alloc (.cells (madeCells #[.int .u8 0, .int .u8 0, .int .u8 0, .int .u8 0, .int .i16 0] (n * 5)) 49)) := by
  obtain ⟨i, hi, hz, h1, h2⟩ := info_parts info_in
  have := run_make (P := Try.prog) w 25 49 i (.agg #[.int .u8 0, .int .u8 0, .int .u8 0, .int .u8 0, .int .i16 0]) Try.underlying25 hi hz .i64 .i64 n n (by omega) (by omega) (by rw [h2]; omega) (by omega)
  rw [this, h1]
  simp [Value.cells]
def zeroI : In := ⟨0, 0, 0, 0, 0⟩
theorem insV_zeros (n : Nat) : (madeCells #[.int .u8 0, .int .u8 0, .int .u8 0, .int .u8 0, .int .i16 0] (n * 5)).toList = insV (List.replicate n zeroI) := by
  apply List.ext_getElem?
  intro j
  by_cases hj : j < n * 5
  · have h1 : (List.replicate n zeroI)[j / 5]? = some zeroI := by
      rw [List.getElem?_replicate, if_pos (by omega)]
    have h2 := insV_get h1 (j % 5) (by omega)
    rw [show j / 5 * 5 + j % 5 = j by omega] at h2
    rw [h2]
    have : j % 5 = 0 ∨ j % 5 = 1 ∨ j % 5 = 2 ∨ j % 5 = 3 ∨ j % 5 = 4 := by omega
    rcases this with e | e | e | e | e <;> simp [madeCells, hj, e, In.cells, zeroI]
  · rw [List.getElem?_eq_none (by simp [madeCells]; omega), List.getElem?_eq_none (by rw [insV_length]; simp; omega)]
theorem ownP_zeros (w : World) (n : Nat) (hn : n ≤ 1000000) : OwnP (w.alloc (.cells (madeCells #[.int .u8 0, .int .u8 0, .int .u8 0, .int .u8 0, .int .i16 0] (n * 5)) 49)) w.heap.size (.slice (some ⟨w.heap.size, 0, none⟩) n n) (List.replicate n zeroI) := by
  unfold OwnP
  have := World.ownsRow_lit (base := w.heap.size) (e := 49) (size := 5) w (madeCells #[.int .u8 0, .int .u8 0, .int .u8 0, .int .u8 0, .int .i16 0] (n * 5)) n (Nat.le_refl _) (by simp only [maxLen]; omega) (by rw [size_madeCells])
  rw [insV_zeros] at this
  rw [List.length_replicate]
  exact this
end Go.Proofs.Ytkdonkebnnjkkaa
