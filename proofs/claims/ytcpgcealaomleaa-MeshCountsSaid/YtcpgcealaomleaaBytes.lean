/-
  DERIVED. Slices of bytes of the call's own: what they hold, one byte appended, through draws, new blocks and stores elsewhere.
-/
import Derived.Test.YtcpgcealaomleaaBlkLaws
import Derived.Test.YtcpgcealaomleaaCalmMine
import Derived.Laws.AppendOwn
import Derived.OwnWalk
import Derived.Laws.BytesArg
import Derived.Laws.Cover3
namespace Go.Proofs.Ytcpgcealaomleaa
open Go.RowKit
set_option linter.unusedVariables false

def bytesV (l : List Int) : List Value := l.map (Value.int .u8)
theorem bytesV_append (l m : List Int) : bytesV (l ++ m) = bytesV l ++ bytesV m := List.map_append
theorem bytesV_length (l : List Int) : (bytesV l).length = l.length := List.length_map ..
theorem bytesV_get (l : List Int) (j : Nat) (u : Value) (h : (bytesV l)[j]? = some u) : ∃ y, l[j]? = some y ∧ u = .int .u8 y := by
  simp only [bytesV, List.getElem?_map, Option.map_eq_some_iff] at h
  obtain ⟨y, h1, h2⟩ := h
  exact ⟨y, h1, h2.symm⟩
theorem bytesV_one (l : List Int) : ∀ u ∈ bytesV l, u.oneCell' = true := by
  intro u hu
  obtain ⟨y, _, rfl⟩ := List.mem_map.1 hu
  rfl

/-- v is a slice of the call's own (of a block from base on) and holds these bytes -/
def Own (w : World) (base : Nat) (v : Value) (l : List Int) : Prop := w.ownsRow base 5 1 v l.length (bytesV l)

theorem Own.lt {w : World} {base : Nat} {v : Value} {l : List Int} (h : Own w base v l) : ∀ k, v.ownBlock = some k → base ≤ k ∧ k < w.heap.size := World.ownsRow.lt h
theorem Own.nil (w : World) (base : Nat) : Own w base (.slice none 0 0) [] := World.ownsRow_nil w base _ 1
theorem Own.kept {w w' : World} {base : Nat} {v : Value} {l : List Int} (h : Own w base v l) (hb : ∀ k, v.ownBlock = some k → w'.heap[k]? = w.heap[k]?) : Own w' base v l := by
  obtain ⟨h1, h2⟩ := h
  refine ⟨h1, ?_⟩
  rcases h2 with h2 | ⟨g, cap, cur, rfl, a1, a2, a3, a4, a5, a6⟩
  · exact .inl h2
  · exact .inr ⟨g, cap, cur, rfl, a1, (hb g rfl).trans a2, a3, a4, a5, a6⟩
theorem Own.ext {w w' : World} {base : Nat} {v : Value} {l : List Int} (h : Own w base v l) (hx : Ext w w') : Own w' base v l := h.kept fun k hk => hx.block (h.lt k hk).2
theorem Own.calm {O : List Nat} {w w' : World} {base : Nat} {v : Value} {l : List Int} (h : Own w base v l) (hx : Calm O w w') (hO : ∀ k, v.ownBlock = some k → k ∉ O) : Own w' base v l := h.kept fun k hk => hx.block k (h.lt k hk).2 (hO k hk)
theorem Own.mono {w : World} {base base' : Nat} {v : Value} {l : List Int} (h : Own w base v l) (hb : base' ≤ base) : Own w base' v l := by
  obtain ⟨h1, h2⟩ := h
  refine ⟨h1, ?_⟩
  rcases h2 with h2 | ⟨g, cap, cur, rfl, a1, a2⟩
  · exact .inl h2
  · exact .inr ⟨g, cap, cur, rfl, Nat.le_trans hb a1, a2⟩

theorem Own.slice {w : World} {base : Nat} {v : Value} {l : List Int} (h : Own w base v l) : ∃ (ao : Option Addr) (c : Nat), v = .slice ao l.length c ∧ (ao = none → l = [] ∧ c = 0) ∧ ∀ a, ao = some a → a = ⟨a.block, 0, none⟩ := by
  rcases h.2 with ⟨rfl, h0⟩ | ⟨g, cap, cur, rfl, _⟩
  · have h0' : l = [] := List.eq_nil_of_length_eq_zero h0
    subst h0'
    exact ⟨none, 0, rfl, (fun _ => ⟨rfl, rfl⟩), (fun a ha => by cases ha)⟩
  · exact ⟨_, cap, rfl, (fun h => by cases h), (fun a ha => by cases ha; rfl)⟩
theorem Own.cellA {w : World} {base : Nat} {l : List Int} {g c : Nat} (h : Own w base (.slice (some ⟨g, 0, none⟩) l.length c) l) : ∀ j y, l[j]? = some y → w.cell? ((⟨g, 0, none⟩ : Addr).add j) = some (.int .u8 y) :=
  fun j y hj => World.ownsRow.cells h (g := g) rfl j (.int .u8 y) (by simp [bytesV, hj])
/-- the bytes where they lie -/
theorem Own.cell {w : World} {base : Nat} {l : List Int} {g c : Nat} (h : Own w base (.slice (some ⟨g, 0, none⟩) l.length c) l) : ∀ j y, l[j]? = some y → w.cell? ⟨g, j, none⟩ = some (.int .u8 y) := fun j y hj => by
  have := World.ownsRow.cells h (g := g) rfl j (.int .u8 y) (by simp [bytesV, hj])
  rcases Nat.eq_zero_or_pos j with h0 | h0
  · subst h0; simpa [Addr.add] using this
  · simpa [Addr.add, Nat.ne_of_gt h0] using this

/-- as a string -/
theorem Own.str {w : World} {base : Nat} {v : Value} {l : List Int} (h : Own w base v l) : (convert 29 9 v).run Try.prog w = .ok (.string (strOfNums l)) w := by
  obtain ⟨ao, c, rfl, h0, ha⟩ := h.slice
  cases ao with
  | none =>
    obtain ⟨rfl, rfl⟩ := h0 rfl
    exact run_convert_bytes_nil w 29 5 Try.underlying29 Try.underlying5 _ _ 9 Try.underlying9
  | some a =>
    obtain ⟨g, rfl⟩ : ∃ g, a = ⟨g, 0, none⟩ := ⟨a.block, ha a rfl⟩
    exact run_convert_bytes_arg w 29 5 Try.underlying29 Try.underlying5 g 0 l.length c l rfl (fun i hi => by
      rw [Nat.zero_add, h.cell i (l.getD i 0) (by simp [hi])]) 9 Try.underlying9
theorem calm_grownBy {w w' : World} {row : Option Nat} (h : w.grownBy w' row) : Calm row.toList w w' :=
  ⟨h.os, h.tape, h.output, h.size, fun k hk hO => h.block k hk fun e => hO (by rw [← e]; simp)⟩

theorem info_u8 : (Try.prog.info? 5).map (fun i => (i.zero, i.size, i.bytes)) = some (some (.int .u8 0), 1, 1) := by kernel_rfl

/-- what appending bytes to a slice of the call's own comes to: it stays in its block, or moves to a new one -/
theorem run_append_bytes {w : World} (ty : TypeId) (base : Nat) (v : Value) (l : List Int) (hown : Own w base v l) (ad : Addr) (c : Nat) (m : List Int) (hm : ∀ j y, m[j]? = some y → w.cell? (ad.add j) = some (.int .u8 y)) (hlen : l.length + m.length ≤ 1000000) (hbase : base ≤ w.heap.size) :
    ∃ v' w', (Builtin.append_ #[29, 29] ty #[v, .slice (some ad) m.length c]).run Try.prog w = .ok v' w' ∧ Own w' base v' (l ++ m) ∧ Calm v.ownBlock.toList w w' ∧ ∀ k, v'.ownBlock = some k → v.ownBlock = some k ∨ k = w.heap.size := by
  obtain ⟨i, hi, hz, h1, h2⟩ := info_parts info_u8
  have hm' : ∀ j u, (bytesV m)[j]? = some u → w.cell? (ad.add j) = some u := fun j u hu => by
    obtain ⟨y, k1, rfl⟩ := bytesV_get m j u hu
    exact hm j y k1
  have hl1 : (bytesV m).length = m.length * i.size := by rw [bytesV_length, h1, Nat.mul_one]
  obtain ⟨v', w', hr, a1, a2, a3⟩ := run_append_own (P := Try.prog) w base 29 ty 5 i (.int .u8 0) 1 1 Try.underlying29 hi hz h1 h2 rfl (by decide) v l.length (bytesV l) hown ad m.length c (bytesV m) (by rw [bytesV_length, Nat.mul_one]) hm' (bytesV_one m) (by simp only [maxLen]; omega) (by omega) hbase
  refine ⟨v', w', hr, by unfold Own; rw [List.length_append, bytesV_append]; exact a1, calm_grownBy a2, fun k hk => ?_⟩
  rcases hown.2 with ⟨rfl, h0⟩ | ⟨g, cap, cur, rfl, b1, b2, b3, b4, b5, b6⟩
  · by_cases hm0 : m.length = 0
    · have : v' = .slice none 0 0 := a3.2 ⟨rfl, hm0⟩
      rw [this] at hk; cases hk
    · have e := run_append_nil (P := Try.prog) w 29 ty 5 i (.int .u8 0) Try.underlying29 hi hz ad m.length c (bytesV m) hl1 hm' (by omega) (by omega) (by rw [h2]; omega)
      rw [hr] at e
      have e' := (Result.ok.inj e).1
      rw [e'] at hk
      exact .inr (Option.some.inj hk).symm
  · by_cases hroom : l.length + m.length ≤ cap
    · have e := run_append_room (P := Try.prog) w 29 ty 5 i Try.underlying29 hi g l.length cap cur b2 ad m.length c (bytesV m) hl1 hm' (bytesV_one m) hroom (by rw [h1, bytesV_length, b5]; omega)
      rw [hr] at e
      have e' := (Result.ok.inj e).1
      rw [e'] at hk
      exact .inl hk
    · have e := run_append_grow (P := Try.prog) w 29 ty 5 i (.int .u8 0) Try.underlying29 hi hz ⟨g, 0, none⟩ l.length cap (bytesV l) (by rw [bytesV_length, h1, Nat.mul_one]) (World.ownsRow.cells hown (g := g) rfl) ad m.length c (bytesV m) hl1 hm' (by omega) (by omega) (growslice_fits (by omega) (by rw [h2]; omega))
      rw [hr] at e
      have e' := (Result.ok.inj e).1
      rw [e'] at hk
      exact .inr (Option.some.inj hk).symm

/-- bytes are appended to a slice of the call's own -/
theorem wpList_append_bytes {ops : Array Oper} {rest : List Oper} {o : Oper} {a : Act} {w : World} {Q : Exit → Act → World → Prop} (hgd : o.guard = none) (s x : Operand)
    (ho : o.op = .call { callee := .builtin .append, args := #[s, x], argTypes := #[29, 29] }) (base : Nat) (v : Value) (l : List Int) (hs : a.eval s = v) (hown : Own w base v l)
    (ad : Addr) (c : Nat) (m : List Int) (hx : a.eval x = .slice (some ad) m.length c) (hm : ∀ j y, m[j]? = some y → w.cell? (ad.add j) = some (.int .u8 y)) (hlen : l.length + m.length ≤ 1000000) (hbase : base ≤ w.heap.size)
    (h : ∀ v' w', Own w' base v' (l ++ m) → Calm v.ownBlock.toList w w' → (∀ k, v'.ownBlock = some k → v.ownBlock = some k ∨ k = w.heap.size) → wpList Try.prog ops Q rest (a.put o.dst v') w') : wpList Try.prog ops Q (o :: rest) a w :=
  wpList_plain hgd fun K hK => by
    obtain ⟨v', w', hr, h1, h2, h3⟩ := run_append_bytes o.type base v l hown ad c m hm hlen hbase
    unfold Oper.wp execOp
    simp only [ho, resolve, invoke, builtin, Sem.run_bind, Sem.run_pure, Result.andThen_ok, List.map_toArray, List.map_cons, List.map_nil, hs, hx, hr]
    exact hK _ _ (h v' w' h1 h2 h3)
/-- one byte -/
theorem wpList_append_byte {ops : Array Oper} {rest : List Oper} {o : Oper} {a : Act} {w : World} {Q : Exit → Act → World → Prop} (hgd : o.guard = none) (s x : Operand)
    (ho : o.op = .call { callee := .builtin .append, args := #[s, x], argTypes := #[29, 29] }) (base : Nat) (v : Value) (l : List Int) (hs : a.eval s = v) (hown : Own w base v l)
    (g c : Nat) (y : Int) (hx : a.eval x = .slice (some ⟨g, 0, none⟩) 1 c) (hy : w.cell? ⟨g, 0, none⟩ = some (.int .u8 y)) (hlen : l.length < 1000000) (hbase : base ≤ w.heap.size)
    (h : ∀ v' w', Own w' base v' (l ++ [y]) → Calm v.ownBlock.toList w w' → (∀ k, v'.ownBlock = some k → v.ownBlock = some k ∨ k = w.heap.size) → wpList Try.prog ops Q rest (a.put o.dst v') w') : wpList Try.prog ops Q (o :: rest) a w :=
  wpList_append_bytes hgd s x ho base v l hs hown ⟨g, 0, none⟩ c [y] hx (fun j z hj => by
    match j, hj with
    | 0, hj => simp at hj; subst hj; exact hy
    | j + 1, hj => simp at hj) (by simp; omega) hbase h

/-- a number's bytes: seven bits each, the lowest first -/
def leb (n : Nat) : List Int := if n < 128 then [(n : Int)] else ((n % 128 + 128 : Nat) : Int) :: leb (n / 128)
termination_by n
decreasing_by omega
theorem leb_small {n : Nat} (h : n < 128) : leb n = [(n : Int)] := by rw [leb, if_pos h]
theorem leb_great {n : Nat} (h : 128 ≤ n) : leb n = ((n % 128 + 128 : Nat) : Int) :: leb (n / 128) := by rw [leb, if_neg (by omega)]
theorem leb_pos (n : Nat) : 0 < (leb n).length := by rw [leb]; split <;> simp
theorem leb_len : ∀ (k n : Nat), n < 128 ^ (k + 1) → (leb n).length ≤ k + 1
  | 0, n, h => by rw [leb_small (by simpa using h)]; simp
  | k + 1, n, h => by
    by_cases hn : n < 128
    · rw [leb_small hn]; simp
    · rw [leb_great (by omega), List.length_cons]
      have := leb_len k (n / 128) (Nat.div_lt_of_lt_mul (by rw [Nat.mul_comm, ← Nat.pow_succ]; exact h))
      omega
theorem leb_len10 {n : Nat} (h : n < 18446744073709551616) : (leb n).length ≤ 10 := leb_len 9 n (by omega)

end Go.Proofs.Ytcpgcealaomleaa
