/-
  DERIVED. Slices of bytes of the call's own: what they hold, one byte appended, through draws, new blocks and stores elsewhere. · 'Step F F' w w'': a call on an object that lives in the blocks F: only these have turned, and the object lives in F' now. · Slices of the call's own whose elements are all of one shape, whatever the shape: read, stored into, appended to. · Slices that came in, whatever their elements (slices among them): what a law's walk knows of them. · Regions that draw their order whose last operation alone turns what the quiet ones read (x.f = append(x.f, g(y))): tail walks in two phases. · A load of a whole variable of many cells, a struct that is built, behind a guard which is met.
-/
import Derived.Test.YtglehnmkdapnpaaPkFix
import Derived.Laws.AppendOwn
import Derived.OwnWalk
import Derived.Laws.BytesArg
import Derived.Laws.Cover3
import Derived.Laws.AppendOwnNone
import Derived.Deep.Slices
import Derived.Laws.Tables
namespace Go.Proofs.Ytglehnmkdapnpaa
open Go.RowKit
set_option linter.unusedVariables false

def bytesV (l : List Int) : List Value := l.map (Value.int .u8)
theorem bytesV_append (l m : List Int) : bytesV (l ++ m) = bytesV l ++ bytesV m := List.map_append
theorem bytesV_length (l : List Int) : (bytesV l).length = l.length := List.length_map ..
theorem bytesV_get (l : List Int) (j : Nat) (u : Value) (h : (bytesV l)[j]? = some u) : ∃ y, l[j]? = some y ∧ u = .int .u8 y := by
  simp only [bytesV, List.getElem?_map, Option.map_eq_some_iff] at h
  obtain ⟨y, h1, h2⟩ := h
  exact ⟨y, h1, h2.symm⟩
theorem bytesV_one (l : List Int) : ∀ u ∈ bytesV l, u.oneCell' = true := by
  intro u hu
  obtain ⟨y, _, rfl⟩ := List.mem_map.1 hu
  rfl

/-- v is a slice of the call's own (of a block from base on) and holds these bytes -/
def Own (w : World) (base : Nat) (v : Value) (l : List Int) : Prop := w.ownsRow base 5 1 v l.length (bytesV l)

theorem Own.lt {w : World} {base : Nat} {v : Value} {l : List Int} (h : Own w base v l) : ∀ k, v.ownBlock = some k → base ≤ k ∧ k < w.heap.size := World.ownsRow.lt h
theorem Own.nil (w : World) (base : Nat) : Own w base (.slice none 0 0) [] := World.ownsRow_nil w base _ 1
theorem Own.kept {w w' : World} {base : Nat} {v : Value} {l : List Int} (h : Own w base v l) (hb : ∀ k, v.ownBlock = some k → w'.heap[k]? = w.heap[k]?) : Own w' base v l := by
  obtain ⟨h1, h2⟩ := h
  refine ⟨h1, ?_⟩
  rcases h2 with h2 | ⟨g, cap, cur, rfl, a1, a2, a3, a4, a5, a6⟩
  · exact .inl h2
  · exact .inr ⟨g, cap, cur, rfl, a1, (hb g rfl).trans a2, a3, a4, a5, a6⟩
theorem Own.ext {w w' : World} {base : Nat} {v : Value} {l : List Int} (h : Own w base v l) (hx : Ext w w') : Own w' base v l := h.kept fun k hk => hx.block (h.lt k hk).2
theorem Own.calm {O : List Nat} {w w' : World} {base : Nat} {v : Value} {l : List Int} (h : Own w base v l) (hx : Calm O w w') (hO : ∀ k, v.ownBlock = some k → k ∉ O) : Own w' base v l := h.kept fun k hk => hx.block k (h.lt k hk).2 (hO k hk)
theorem Own.mono {w : World} {base base' : Nat} {v : Value} {l : List Int} (h : Own w base v l) (hb : base' ≤ base) : Own w base' v l := by
  obtain ⟨h1, h2⟩ := h
  refine ⟨h1, ?_⟩
  rcases h2 with h2 | ⟨g, cap, cur, rfl, a1, a2⟩
  · exact .inl h2
  · exact .inr ⟨g, cap, cur, rfl, Nat.le_trans hb a1, a2⟩

theorem Own.slice {w : World} {base : Nat} {v : Value} {l : List Int} (h : Own w base v l) : ∃ (ao : Option Addr) (c : Nat), v = .slice ao l.length c ∧ (ao = none → l = [] ∧ c = 0) ∧ ∀ a, ao = some a → a = ⟨a.block, 0, none⟩ := by
  rcases h.2 with ⟨rfl, h0⟩ | ⟨g, cap, cur, rfl, _⟩
  · have h0' : l = [] := List.eq_nil_of_length_eq_zero h0
    subst h0'
    exact ⟨none, 0, rfl, (fun _ => ⟨rfl, rfl⟩), (fun a ha => by cases ha)⟩
  · exact ⟨_, cap, rfl, (fun h => by cases h), (fun a ha => by cases ha; rfl)⟩
theorem Own.cellA {w : World} {base : Nat} {l : List Int} {g c : Nat} (h : Own w base (.slice (some ⟨g, 0, none⟩) l.length c) l) : ∀ j y, l[j]? = some y → w.cell? ((⟨g, 0, none⟩ : Addr).add j) = some (.int .u8 y) :=
  fun j y hj => World.ownsRow.cells h (g := g) rfl j (.int .u8 y) (by simp [bytesV, hj])
/-- the bytes where they lie -/
theorem Own.cell {w : World} {base : Nat} {l : List Int} {g c : Nat} (h : Own w base (.slice (some ⟨g, 0, none⟩) l.length c) l) : ∀ j y, l[j]? = some y → w.cell? ⟨g, j, none⟩ = some (.int .u8 y) := fun j y hj => by
  have := World.ownsRow.cells h (g := g) rfl j (.int .u8 y) (by simp [bytesV, hj])
  rcases Nat.eq_zero_or_pos j with h0 | h0
  · subst h0; simpa [Addr.add] using this
  · simpa [Addr.add, Nat.ne_of_gt h0] using this

theorem calm_grownBy {w w' : World} {row : Option Nat} (h : w.grownBy w' row) : Calm row.toList w w' :=
  ⟨h.os, h.tape, h.output, h.size, fun k hk hO => h.block k hk fun e => hO (by rw [← e]; simp)⟩

theorem info_u8 : (Try.prog.info? 5).map (fun i => (i.zero, i.size, i.bytes)) = some (some (.int .u8 0), 1, 1) := by kernel_rfl

/-- a number's bytes: seven bits each, the lowest first -/
def leb (n : Nat) : List Int := if n < 128 then [(n : Int)] else ((n % 128 + 128 : Nat) : Int) :: leb (n / 128)
termination_by n
decreasing_by omega
theorem leb_small {n : Nat} (h : n < 128) : leb n = [(n : Int)] := by rw [leb, if_pos h]
theorem leb_great {n : Nat} (h : 128 ≤ n) : leb n = ((n % 128 + 128 : Nat) : Int) :: leb (n / 128) := by rw [leb, if_neg (by omega)]
theorem leb_pos (n : Nat) : 0 < (leb n).length := by rw [leb]; split <;> simp
theorem leb_len : ∀ (k n : Nat), n < 128 ^ (k + 1) → (leb n).length ≤ k + 1
  | 0, n, h => by rw [leb_small (by simpa using h)]; simp
  | k + 1, n, h => by
    by_cases hn : n < 128
    · rw [leb_small hn]; simp
    · rw [leb_great (by omega), List.length_cons]
      have := leb_len k (n / 128) (Nat.div_lt_of_lt_mul (by rw [Nat.mul_comm, ← Nat.pow_succ]; exact h))
      omega
theorem leb_len10 {n : Nat} (h : n < 18446744073709551616) : (leb n).length ≤ 10 := leb_len 9 n (by omega)

end Go.Proofs.Ytglehnmkdapnpaa

namespace Go.Proofs.Ytglehnmkdapnpaa
open Go.RowKit
set_option linter.unusedVariables false

/-- what a call may have done to memory: only the blocks F have turned, F' are now their heirs -/
def Step (F F' : List Nat) (w w' : World) : Prop := Calm F w w' ∧ ∀ b ∈ F', b ∈ F ∨ w.heap.size ≤ b
theorem Step.refl (F : List Nat) (w : World) : Step F F w w := ⟨Calm.refl _ _, fun b h => .inl h⟩
theorem Step.trans {F G H : List Nat} {a b c : World} (h : Step F G a b) (k : Step G H b c) : Step F H a c := by
  refine ⟨⟨k.1.os.trans h.1.os, k.1.tape.trans h.1.tape, k.1.output.trans h.1.output, Nat.le_trans h.1.size k.1.size, fun i hi hF => ?_⟩, fun b hb => ?_⟩
  · have hG : i ∉ G := fun hg => by
      rcases h.2 i hg with x | x
      · exact hF x
      · omega
    exact (k.1.block i (Nat.lt_of_lt_of_le hi h.1.size) hG).trans (h.1.block i hi hF)
  · rcases k.2 b hb with x | x
    · exact h.2 b x
    · exact .inr (Nat.le_trans h.1.size x)
theorem Step.ext {F F' : List Nat} {a w w' : World} (e : Ext a w) (h : Step F F' w w') (hF : ∀ b ∈ F, a.heap.size ≤ b) : Ext a w' := Ext.calm_trans e h.1 hF
theorem Step.above {F F' : List Nat} {w w' : World} {n : Nat} (h : Step F F' w w') (hF : ∀ b ∈ F, n ≤ b) (hn : n ≤ w.heap.size) : ∀ b ∈ F', n ≤ b := fun b hb => by
  rcases h.2 b hb with x | x
  · exact hF b x
  · omega

end Go.Proofs.Ytglehnmkdapnpaa

namespace Go.Proofs.Ytglehnmkdapnpaa
open Go.RowKit
set_option linter.unusedVariables false

/-- how the elements of a slice lie in memory -/
structure Lay (α : Type) where
  st : TypeId
  et : TypeId
  n : Nat
  bytes : Nat
  zero : Value
  cells : α → List Value
  len : ∀ x, (cells x).length = n
  one : ∀ x, ∀ u ∈ cells x, u.oneCell' = true
  pos : 0 < n
  small : bytes ≤ 4000
  und : Try.prog.underlying st = some (.slice et)
  info : (Try.prog.info? et).map (fun i => (i.zero, i.size, i.bytes)) = some (some zero, n, bytes)
  zcells : zero.cells.size = n

variable {α : Type}
/-- all cells, one element behind the other -/
def Lay.flat (L : Lay α) : List α → List Value
  | [] => []
  | x :: r => L.cells x ++ L.flat r
theorem Lay.flat_append (L : Lay α) (l m : List α) : L.flat (l ++ m) = L.flat l ++ L.flat m := by
  induction l with
  | nil => rfl
  | cons x r ih => simp [Lay.flat, ih]
theorem Lay.flat_length (L : Lay α) (l : List α) : (L.flat l).length = l.length * L.n := by
  induction l with
  | nil => simp [Lay.flat]
  | cons x r ih => simp only [Lay.flat, List.length_append, L.len, ih, List.length_cons, Nat.add_mul, Nat.one_mul]; omega
theorem Lay.flat_get (L : Lay α) {l : List α} {j : Nat} {x : α} (h : l[j]? = some x) (i : Nat) (hi : i < L.n) : (L.flat l)[j * L.n + i]? = (L.cells x)[i]? := by
  induction l generalizing j with
  | nil => simp at h
  | cons y r ih =>
    cases j with
    | zero =>
      simp at h
      subst h
      rw [Nat.zero_mul, Nat.zero_add, Lay.flat, List.getElem?_append_left (by rw [L.len]; exact hi)]
    | succ j =>
      simp at h
      rw [Lay.flat, List.getElem?_append_right (by rw [L.len, Nat.add_mul, Nat.one_mul]; omega)]
      rw [show (j + 1) * L.n + i - (L.cells y).length = j * L.n + i by rw [L.len, Nat.add_mul, Nat.one_mul]; omega]
      exact ih h
theorem Lay.flat_one (L : Lay α) (l : List α) : ∀ u ∈ L.flat l, u.oneCell' = true := by
  induction l with
  | nil => intro u hu; cases hu
  | cons x r ih =>
    intro u hu
    rcases List.mem_append.1 hu with h | h
    · exact L.one x u h
    · exact ih u h
theorem Lay.flat_single (L : Lay α) (x : α) : L.flat [x] = L.cells x := by simp [Lay.flat]

/-- v is a slice of the call's own (of a block from base on) and holds these elements -/
def OwnG (L : Lay α) (w : World) (base : Nat) (v : Value) (l : List α) : Prop := w.ownsRow base L.et L.n v l.length (L.flat l)

theorem OwnG.lt {L : Lay α} {w : World} {base : Nat} {v : Value} {l : List α} (h : OwnG L w base v l) : ∀ k, v.ownBlock = some k → base ≤ k ∧ k < w.heap.size := World.ownsRow.lt h
theorem OwnG.nil (L : Lay α) (w : World) (base : Nat) : OwnG L w base (.slice none 0 0) [] := World.ownsRow_nil w base _ L.n
theorem OwnG.kept {L : Lay α} {w w' : World} {base : Nat} {v : Value} {l : List α} (h : OwnG L w base v l) (hb : ∀ k, v.ownBlock = some k → w'.heap[k]? = w.heap[k]?) : OwnG L w' base v l := by
  obtain ⟨h1, h2⟩ := h
  refine ⟨h1, ?_⟩
  rcases h2 with h2 | ⟨g, cap, cur, rfl, a1, a2, a3, a4, a5, a6⟩
  · exact .inl h2
  · exact .inr ⟨g, cap, cur, rfl, a1, (hb g rfl).trans a2, a3, a4, a5, a6⟩
theorem OwnG.ext {L : Lay α} {w w' : World} {base : Nat} {v : Value} {l : List α} (h : OwnG L w base v l) (hx : Ext w w') : OwnG L w' base v l := h.kept fun k hk => hx.block (h.lt k hk).2
theorem OwnG.calm {L : Lay α} {O : List Nat} {w w' : World} {base : Nat} {v : Value} {l : List α} (h : OwnG L w base v l) (hx : Calm O w w') (hO : ∀ k, v.ownBlock = some k → k ∉ O) : OwnG L w' base v l := h.kept fun k hk => hx.block k (h.lt k hk).2 (hO k hk)
theorem OwnG.mono {L : Lay α} {w : World} {base base' : Nat} {v : Value} {l : List α} (h : OwnG L w base v l) (hb : base' ≤ base) : OwnG L w base' v l := by
  obtain ⟨h1, h2⟩ := h
  refine ⟨h1, ?_⟩
  rcases h2 with h2 | ⟨g, cap, cur, rfl, a1, a2⟩
  · exact .inl h2
  · exact .inr ⟨g, cap, cur, rfl, Nat.le_trans hb a1, a2⟩
theorem OwnG.slice {L : Lay α} {w : World} {base : Nat} {v : Value} {l : List α} (h : OwnG L w base v l) : ∃ (ao : Option Addr) (c : Nat), v = .slice ao l.length c ∧ (ao = none → l = [] ∧ c = 0) ∧ ∀ a, ao = some a → a = ⟨a.block, 0, none⟩ := by
  rcases h.2 with ⟨rfl, h0⟩ | ⟨g, cap, cur, rfl, _⟩
  · have h0' : l = [] := List.eq_nil_of_length_eq_zero h0
    subst h0'
    exact ⟨none, 0, rfl, (fun _ => ⟨rfl, rfl⟩), (fun a ha => by cases ha)⟩
  · exact ⟨_, cap, rfl, (fun h => by cases h), (fun a ha => by cases ha; rfl)⟩
/-- an element, where it lies -/
theorem OwnG.nth {L : Lay α} {w : World} {base : Nat} {ao : Option Addr} {n c : Nat} {l : List α} (h : OwnG L w base (.slice ao n c) l) (j : Nat) (hj : j < l.length) : ∃ g x, ao = some ⟨g, 0, none⟩ ∧ n = l.length ∧ l[j]? = some x ∧ ∀ i u, (L.cells x)[i]? = some u → w.cell? ⟨g, j * L.n + i, none⟩ = some u := by
  have h' : w.ownsRow base L.et L.n (.slice ao n c) l.length (L.flat l) := h
  rcases h.2 with ⟨e, h0⟩ | ⟨g, cap, cur, e, _⟩
  · omega
  · cases e
    have hx : l[j]? = some l[j] := by simp [hj]
    refine ⟨g, l[j], rfl, rfl, hx, fun i u hu => ?_⟩
    have hi : i < L.n := by
      have := (List.getElem?_eq_some_iff.1 hu).1
      rw [L.len] at this
      exact this
    have := World.ownsRow.cellAt h' (j * L.n + i) (by
      have : (j + 1) * L.n ≤ l.length * L.n := Nat.mul_le_mul_right _ (by omega)
      rw [Nat.add_mul, Nat.one_mul] at this
      omega)
    rw [this, L.flat_get hx i hi, hu]
theorem OwnG.thaw {L : Lay α} {w : World} {base g c n : Nat} {l : List α} (h : OwnG L w base (.slice (some ⟨g, 0, none⟩) n c) l) (hn : n = l.length) (j : Nat) : w.frozen? ⟨g, j, none⟩ = false := by
  subst hn
  exact World.ownsRow.frozenAt h j
/-- one cell is stored: what the cells are behind it -/
theorem OwnG.store {L : Lay α} {w : World} {base g c n : Nat} {l l' : List α} (h : OwnG L w base (.slice (some ⟨g, 0, none⟩) n c) l) (hn : n = l.length) (o : Nat) (u : Value) (hl : l'.length = l.length) (hf : L.flat l' = (L.flat l).set o u) : OwnG L (w.setCell ⟨g, o, none⟩ u) base (.slice (some ⟨g, 0, none⟩) n c) l' := by
  subst hn
  have h1 := (World.ownsRow.stored h o u).1
  unfold OwnG
  rw [hl, hf]
  exact h1

/-- a literal -/
theorem OwnG.lit (L : Lay α) (w : World) (l : List α) (hl : l.length ≤ 1000000) : OwnG L (w.alloc (.cells (L.flat l).toArray L.et)) w.heap.size (.slice (some ⟨w.heap.size, 0, none⟩) l.length l.length) l := by
  unfold OwnG
  have := World.ownsRow_lit (base := w.heap.size) (e := L.et) (size := L.n) w (L.flat l).toArray l.length (Nat.le_refl _) (by simp only [maxLen]; omega) (by rw [List.size_toArray, L.flat_length])
  exact this

/-- v is a slice that can be read and holds these elements -/
def PArrG (L : Lay α) (w : World) (v : Value) (xs : List α) : Prop := ∃ ao cap, v = .slice ao xs.length cap ∧ (xs ≠ [] → ∃ b off, ao = some ⟨b, off, none⟩ ∧ ∀ (j : Nat) x, xs[j]? = some x → ∀ i u, (L.cells x)[i]? = some u → w.cell? ⟨b, off + j * L.n + i, none⟩ = some u)
theorem PArrG.slice {L : Lay α} {w : World} {v : Value} {xs : List α} (h : PArrG L w v xs) : ∃ (ao : Option Addr) (c : Nat), v = .slice ao xs.length c ∧ True ∧ True := by
  obtain ⟨ao, c, rfl, _⟩ := h
  exact ⟨ao, c, rfl, trivial, trivial⟩
theorem PArrG.ext {L : Lay α} {w w' : World} {v : Value} {xs : List α} (h : PArrG L w v xs) (hx : Ext w w') : PArrG L w' v xs := by
  obtain ⟨ao, c, rfl, h1⟩ := h
  refine ⟨ao, c, rfl, fun hne => ?_⟩
  obtain ⟨b, off, rfl, hc⟩ := h1 hne
  exact ⟨b, off, rfl, fun j x hj i u hu => hx.old (hc j x hj i u hu)⟩
theorem PArrG.qt {L : Lay α} {w w' : World} {v : Value} {xs : List α} (h : PArrG L w v xs) (q : Qt w w') : PArrG L w' v xs := h.ext ((Ext.refl w).qt q)
theorem PArrG.nth {L : Lay α} {w : World} {ao : Option Addr} {n c : Nat} {xs : List α} (h : PArrG L w (.slice ao n c) xs) (j : Nat) (hj : j < xs.length) : ∃ g off x, ao = some ⟨g, off, none⟩ ∧ n = xs.length ∧ xs[j]? = some x ∧ ∀ i u, (L.cells x)[i]? = some u → w.cell? ⟨g, off + j * L.n + i, none⟩ = some u := by
  obtain ⟨ao', c', e, h1⟩ := h
  cases e
  obtain ⟨b, off, rfl, hc⟩ := h1 (by intro e; subst e; simp at hj)
  exact ⟨b, off, xs[j], rfl, rfl, by simp [hj], hc j xs[j] (by simp [hj])⟩
theorem OwnG.parr {L : Lay α} {w : World} {base : Nat} {v : Value} {l : List α} (h : OwnG L w base v l) : PArrG L w v l := by
  have h' := h
  obtain ⟨ao, c, rfl, h0, ha⟩ := h.slice
  refine ⟨ao, c, rfl, fun hne => ?_⟩
  cases ao with
  | none => exact absurd (h0 rfl).1 hne
  | some a =>
    obtain ⟨g, rfl⟩ : ∃ g, a = ⟨g, 0, none⟩ := ⟨a.block, ha a rfl⟩
    refine ⟨g, 0, rfl, fun j x hj i u hu => ?_⟩
    obtain ⟨g', y, e, _, hy, hc⟩ := h'.nth j (List.getElem?_eq_some_iff.1 hj).1
    cases e
    rw [hj] at hy
    cases hy
    rw [Nat.zero_add]
    exact hc i u hu

/-- what appending to a slice of the call's own comes to: it stays in its block, or moves to a new one -/
theorem run_append_g (L : Lay α) {w : World} (ty : TypeId) (base : Nat) (v : Value) (l : List α) (hown : OwnG L w base v l) (ad : Addr) (c : Nat) (m : List α) (hm : ∀ j u, (L.flat m)[j]? = some u → w.cell? (ad.add j) = some u) (hlen : l.length + m.length ≤ 1000000) (hbase : base ≤ w.heap.size) :
    ∃ v' w', (Builtin.append_ #[L.st, L.st] ty #[v, .slice (some ad) m.length c]).run Try.prog w = .ok v' w' ∧ OwnG L w' base v' (l ++ m) ∧ Calm v.ownBlock.toList w w' ∧ ∀ k, v'.ownBlock = some k → v.ownBlock = some k ∨ k = w.heap.size := by
  obtain ⟨i, hi, hz, h1, h2⟩ := info_parts L.info
  have hb := L.small
  have hm' := hm
  have hby : (l.length + m.length) * i.bytes ≤ 1000000 * 4000 := by rw [h2]; exact Nat.mul_le_mul hlen hb
  have hby2 : m.length * i.bytes ≤ 1000000 * 4000 := by rw [h2]; exact Nat.mul_le_mul (by omega) hb
  have hl1 : (L.flat m).length = m.length * i.size := by rw [L.flat_length, h1]
  obtain ⟨v', w', hr, a1, a2, a3⟩ := run_append_own (P := Try.prog) w base L.st ty L.et i L.zero L.n L.bytes L.und hi hz h1 h2 L.zcells L.pos v l.length (L.flat l) hown ad m.length c (L.flat m) (by rw [L.flat_length]) hm' (L.flat_one m) (by simp only [maxLen]; omega) (by rw [← h2]; omega) hbase
  refine ⟨v', w', hr, by unfold OwnG; rw [List.length_append, L.flat_append]; exact a1, calm_grownBy a2, fun k hk => ?_⟩
  rcases hown.2 with ⟨rfl, h0⟩ | ⟨g, cap, cur, rfl, b1, b2, b3, b4, b5, b6⟩
  · by_cases hm0 : m.length = 0
    · have : v' = .slice none 0 0 := a3.2 ⟨rfl, hm0⟩
      rw [this] at hk; cases hk
    · have e := run_append_nil (P := Try.prog) w L.st ty L.et i L.zero L.und hi hz ad m.length c (L.flat m) hl1 hm' (by omega) (by omega) (by omega)
      rw [hr] at e
      have e' := (Result.ok.inj e).1
      rw [e'] at hk
      exact .inr (Option.some.inj hk).symm
  · by_cases hroom : l.length + m.length ≤ cap
    · have e := run_append_room (P := Try.prog) w L.st ty L.et i L.und hi g l.length cap cur b2 ad m.length c (L.flat m) hl1 hm' (L.flat_one m) hroom (by
        rw [h1, L.flat_length, b5, ← Nat.add_mul]; exact Nat.mul_le_mul_right _ hroom)
      rw [hr] at e
      have e' := (Result.ok.inj e).1
      rw [e'] at hk
      exact .inl hk
    · have e := run_append_grow (P := Try.prog) w L.st ty L.et i L.zero L.und hi hz ⟨g, 0, none⟩ l.length cap (L.flat l) (by rw [L.flat_length, h1]) (World.ownsRow.cells hown (g := g) rfl) ad m.length c (L.flat m) hl1 hm' (by omega) (by omega) (growslice_fits (by omega) (by omega))
      rw [hr] at e
      have e' := (Result.ok.inj e).1
      rw [e'] at hk
      exact .inr (Option.some.inj hk).symm

theorem wpList_append_g (L : Lay α) {ops : Array Oper} {rest : List Oper} {o : Oper} {a : Act} {w : World} {Q : Exit → Act → World → Prop} (hgd : o.guard = none) (s x : Operand)
    (ho : o.op = .call { callee := .builtin .append, args := #[s, x], argTypes := #[L.st, L.st] }) (base : Nat) (v : Value) (l : List α) (hs : a.eval s = v) (hown : OwnG L w base v l)
    (ad : Addr) (c : Nat) (m : List α) (hx : a.eval x = .slice (some ad) m.length c) (hm : ∀ j u, (L.flat m)[j]? = some u → w.cell? (ad.add j) = some u) (hlen : l.length + m.length ≤ 1000000) (hbase : base ≤ w.heap.size)
    (h : ∀ v' w', OwnG L w' base v' (l ++ m) → Calm v.ownBlock.toList w w' → (∀ k, v'.ownBlock = some k → v.ownBlock = some k ∨ k = w.heap.size) → wpList Try.prog ops Q rest (a.put o.dst v') w') : wpList Try.prog ops Q (o :: rest) a w :=
  wpList_plain hgd fun K hK => by
    obtain ⟨v', w', hr, h1, h2, h3⟩ := run_append_g L o.type base v l hown ad c m hm hlen hbase
    unfold Oper.wp execOp
    simp only [ho, resolve, invoke, builtin, Sem.run_bind, Sem.run_pure, Result.andThen_ok, List.map_toArray, List.map_cons, List.map_nil, hs, hx, hr]
    exact hK _ _ (h v' w' h1 h2 h3)
/-- one element -/
theorem wpList_append_g1 (L : Lay α) {ops : Array Oper} {rest : List Oper} {o : Oper} {a : Act} {w : World} {Q : Exit → Act → World → Prop} (hgd : o.guard = none) (s x : Operand)
    (ho : o.op = .call { callee := .builtin .append, args := #[s, x], argTypes := #[L.st, L.st] }) (base : Nat) (v : Value) (l : List α) (hs : a.eval s = v) (hown : OwnG L w base v l)
    (g c : Nat) (y : α) (hx : a.eval x = .slice (some ⟨g, 0, none⟩) 1 c) (hy : ∀ i u, (L.cells y)[i]? = some u → w.cell? ⟨g, i, none⟩ = some u) (hlen : l.length < 1000000) (hbase : base ≤ w.heap.size)
    (h : ∀ v' w', OwnG L w' base v' (l ++ [y]) → Calm v.ownBlock.toList w w' → (∀ k, v'.ownBlock = some k → v.ownBlock = some k ∨ k = w.heap.size) → wpList Try.prog ops Q rest (a.put o.dst v') w') : wpList Try.prog ops Q (o :: rest) a w :=
  wpList_append_g L hgd s x ho base v l hs hown ⟨g, 0, none⟩ c [y] hx (fun j u hj => by
    rw [L.flat_single] at hj
    have := hy j u hj
    rcases Nat.eq_zero_or_pos j with h0 | h0
    · subst h0; simpa [Addr.add] using this
    · simpa [Addr.add, Nat.ne_of_gt h0] using this) (by simp; omega) hbase h
/-- one element, as a step of a region that draws -/
theorem step_append_g1 (L : Lay α) {ops : Array Oper} {o : Oper} {a : Act} {w : World} {K : Act → World → Prop} {Q : Exit → Act → World → Prop} {E : Prop} (hgd : o.guard = none) (s x : Operand)
    (ho : o.op = .call { callee := .builtin .append, args := #[s, x], argTypes := #[L.st, L.st] }) (base : Nat) (v : Value) (l : List α) (hs : a.eval s = v) (hown : OwnG L w base v l)
    (g c : Nat) (y : α) (hx : a.eval x = .slice (some ⟨g, 0, none⟩) 1 c) (hy : ∀ i u, (L.cells y)[i]? = some u → w.cell? ⟨g, i, none⟩ = some u) (hlen : l.length < 1000000) (hbase : base ≤ w.heap.size)
    (h : ∀ v' w', OwnG L w' base v' (l ++ [y]) → Calm v.ownBlock.toList w w' → (∀ k, v'.ownBlock = some k → v.ownBlock = some k ∨ k = w.heap.size) → K (a.put o.dst v') w') :
    if Region.wanted o (yielded ops a.tmps) = true then Oper.wp Try.prog o a w K Q else E := by
  have hw : Region.wanted o (yielded ops a.tmps) = true := by simp [Region.wanted, hgd]
  rw [if_pos hw]
  obtain ⟨v', w', hr, h1, h2, h3⟩ := run_append_g L o.type base v l hown ⟨g, 0, none⟩ c [y] (fun j u hj => by
    rw [L.flat_single] at hj
    have := hy j u hj
    rcases Nat.eq_zero_or_pos j with h0 | h0
    · subst h0; simpa [Addr.add] using this
    · simpa [Addr.add, Nat.ne_of_gt h0] using this) (by simp; omega) hbase
  rw [List.length_singleton] at hr
  unfold Oper.wp execOp
  simp only [ho, resolve, invoke, builtin, Sem.run_bind, Sem.run_pure, Result.andThen_ok, List.map_toArray, List.map_cons, List.map_nil, hs, hx, hr]
  exact h v' w' h1 h2 h3
/-- all of another slice of the call's own (or nil) -/
theorem wpList_append_gs (L : Lay α) {ops : Array Oper} {rest : List Oper} {o : Oper} {a : Act} {w : World} {Q : Exit → Act → World → Prop} (hgd : o.guard = none) (s x : Operand)
    (ho : o.op = .call { callee := .builtin .append, args := #[s, x], argTypes := #[L.st, L.st] }) (base : Nat) (v : Value) (l : List α) (hs : a.eval s = v) (hown : OwnG L w base v l)
    (base' : Nat) (vx : Value) (m : List α) (hx : a.eval x = vx) (hm : OwnG L w base' vx m) (hlen : l.length + m.length ≤ 1000000) (hbase : base ≤ w.heap.size)
    (h : ∀ v' w', OwnG L w' base v' (l ++ m) → Calm v.ownBlock.toList w w' → (∀ k, v'.ownBlock = some k → v.ownBlock = some k ∨ k = w.heap.size) → wpList Try.prog ops Q rest (a.put o.dst v') w') : wpList Try.prog ops Q (o :: rest) a w := by
  obtain ⟨ao, c, rfl, h1, h2⟩ := hm.slice
  cases ao with
  | none =>
    obtain ⟨rfl, rfl⟩ := h1 rfl
    obtain ⟨i, hi, _, _, _⟩ := info_parts L.info
    refine wpList_append_own_none hgd s x L.st ho base L.et i L.n L.und hi v l.length (L.flat l) hs hown hx (h v w (by simpa using hown) (Calm.refl _ _) fun k hk => .inl hk)
  | some ad =>
    have e := h2 ad rfl
    rw [e] at hm hx
    exact wpList_append_g L hgd s x ho base v l hs hown ⟨ad.block, 0, none⟩ c m hx (World.ownsRow.cells hm (g := ad.block) rfl) hlen hbase h
end Go.Proofs.Ytglehnmkdapnpaa

namespace Go.Proofs.Ytglehnmkdapnpaa
open Go.ChangeShapes Go.WideShapes Go.RowKit Go.Deep
set_option linter.unusedVariables false

/-- a slice, as a value -/
structure SlV where
  ao : Option Addr
  n : Nat
  c : Nat
abbrev SlV.v (s : SlV) : Value := .slice s.ao s.n s.c
abbrev SlV.nil : SlV := ⟨none, 0, 0⟩

section
variable {α : Type} {H : Type} {enc : TypeId × Value → H} {w : World} {base : Nat} {spare : Nat → Bool} {held : Bool}

theorem g_int {fuel : Nat} {c : Value} {x : DataW H × List MemPlace} {t : TypeId} {k : IntKind} (ht : Try.prog.underlying t = some (.int k)) (h : DataW.trod enc Try.prog w base spare held fuel t [c] = some x) : ∃ n, c = .int k n ∧ (Lit.int k n).wf = true := by
  obtain ⟨n, e, _, hw⟩ := DataW.trod_int ht h
  exact ⟨n, by simpa using e, hw⟩
theorem g_bool {fuel : Nat} {c : Value} {x : DataW H × List MemPlace} {t : TypeId} (ht : Try.prog.underlying t = some .bool) (h : DataW.trod enc Try.prog w base spare held fuel t [c] = some x) : ∃ n, c = .bool n := by
  obtain ⟨n, e, _⟩ := DataW.trod_bool ht h
  exact ⟨n, by simpa using e⟩

/-- the cell of a slice: what it leads to -/
theorem cells_g [Inhabited α] (L : Lay α) (Q : α → Prop) (hc : Try.prog.cellsOf L.et = L.n)
    (each : ∀ (fuel : Nat) (cs : List Value) (x : DataW H × List MemPlace), DataW.trod enc Try.prog w base spare held fuel L.et cs = some x → ∃ a, cs = L.cells a ∧ Q a)
    {fuel : Nat} {cs : List Value} {x : DataW H × List MemPlace} (h : DataW.trod enc Try.prog w base spare held fuel L.st cs = some x) :
    ∃ (s : SlV) (xs : List α), cs = [s.v] ∧ PArrG L w s.v xs ∧ (∀ a ∈ xs, Q a) ∧ xs.length ≤ maxLen := by
  rcases open_slice L.und h with ⟨hcs, _⟩ | ⟨a, len, cap, m, n, D, Pl, hcs, _, hl, hm, hmm, _, hat⟩
  · exact ⟨SlV.nil, [], hcs, ⟨none, 0, rfl, fun h => absurd rfl h⟩, (fun a ha => by cases ha), Nat.zero_le _⟩
  · have hle : len ≤ m := by rw [hmm]; split <;> omega
    have each' : ∀ i, i < len → ∃ p : α, Q p ∧ ∀ k u, (L.cells p)[k]? = some u → w.cell? ((a.add (i * L.n)).add k) = some u := by
      intro i hi
      obtain ⟨cs', h1, h2⟩ := hat i (by omega)
      rw [hc] at h1
      obtain ⟨q, rfl, hq⟩ := each _ _ _ h2
      obtain ⟨_, _, h3⟩ := World.cells?_some h1
      refine ⟨q, hq, fun k u hk => ?_⟩
      rw [h3 k (by
        have := (List.getElem?_eq_some_iff.1 hk).1
        rwa [L.len] at this)]
      exact hk
    obtain ⟨g, hg⟩ := choose_lt each'
    refine ⟨⟨some a, len, cap⟩, (List.range len).map g, hcs, ⟨some a, cap, by simp, fun hne => ?_⟩, fun q hq => ?_, by simp; omega⟩
    · have hpos : 0 < len := by
        rcases Nat.eq_zero_or_pos len with h0 | h0
        · rw [h0] at hne; simp at hne
        · exact h0
      obtain ⟨b, off, spot⟩ := a
      have hspot : spot = none := by
        have h0 : 0 < (L.cells (g 0)).length := by rw [L.len]; exact L.pos
        have := (hg 0 hpos).2 0 _ (List.getElem?_eq_getElem h0)
        simpa [Addr.add] using World.cell?_spot this
      subst hspot
      refine ⟨b, off, rfl, fun j q hq k u hk => ?_⟩
      have hj : j < len := by
        have := (List.getElem?_eq_some_iff.1 hq).1
        simpa using this
      have eq : q = g j := by
        rw [List.getElem?_map, List.getElem?_range hj] at hq
        simpa using hq.symm
      subst eq
      have := (hg j hj).2 k u hk
      simp only [add_plain] at this
      exact this
    · obtain ⟨j, hj, rfl⟩ := List.mem_map.1 hq
      exact (hg j (List.mem_range.1 hj)).1

set_option maxRecDepth 100000 in
/-- a slice that came in -/
theorem open_g [Inhabited α] (L : Lay α) (Q : α → Prop) (hc : Try.prog.cellsOf L.et = L.n)
    (each : ∀ (fuel : Nat) (cs : List Value) (x : DataW H × List MemPlace), DataW.trod enc Try.prog w base spare held fuel L.et cs = some x → ∃ a, cs = L.cells a ∧ Q a)
    {r : Reach} {b0 : Nat} {v : Value} {dt : DataW H} {p : List MemPlace} (hv : Value.okWide Try.prog w r b0 L.st v) (h : DataW.Trod enc Try.prog w base spare held L.st v dt p) :
    ∃ (s : SlV) (xs : List α), v = s.v ∧ PArrG L w s.v xs ∧ (∀ a ∈ xs, Q a) ∧ xs.length ≤ maxLen := by
  obtain ⟨a0, len, cap, rfl⟩ := okWide_slice L.und hv
  obtain ⟨fuel, hf⟩ := h
  obtain ⟨s, xs, hcs, h2⟩ := cells_g L Q hc each hf
  simp [Value.cells] at hcs
  exact ⟨s, xs, by rw [SlV.v, ← hcs.1, ← hcs.2.1, ← hcs.2.2], h2⟩

set_option maxRecDepth 100000 in
/-- the cell of a slice of integers: what it leads to -/
theorem cells_arr {k : IntKind} {t e : TypeId} (ht : Try.prog.underlying t = some (.slice e)) (he : Try.prog.underlying e = some (.int k)) (hc : Try.prog.cellsOf e = 1) {fuel : Nat} {cs : List Value} {x : DataW H × List MemPlace} (hf : DataW.trod enc Try.prog w base spare held fuel t cs = some x) :
    ∃ (s : SlV) (xs : List Int), cs = [s.v] ∧ Arr w k s.v xs := by
  rcases open_ints ht he hc hf with ⟨hcs, hx⟩ | ⟨a, len', cap', zs, hcs, _, hl, hm, hz, hx, hcell, hwz⟩
  · exact ⟨SlV.nil, [], hcs, ⟨none, 0, rfl, Nat.le_refl _, fun h => absurd rfl h, fun _ => rfl⟩, Nat.zero_le _, fun n hn => by cases hn⟩
  · have hle : len' ≤ zs.length := by rw [hz]; split <;> omega
    have hlen : (zs.take len').length = len' := by simp [hle]
    refine ⟨⟨some a, len', cap'⟩, zs.take len', hcs, ⟨some a, cap', by rw [hlen], by rw [hlen]; exact hl, fun hne => ?_, fun h => by cases h⟩, by rw [hlen]; omega, fun n hn => hwz n (List.mem_of_mem_take hn)⟩
    have hp : 0 < zs.length := by
      rcases Nat.eq_zero_or_pos zs.length with h0 | h0
      · rw [List.eq_nil_of_length_eq_zero h0] at hne; simp at hne
      · exact h0
    obtain ⟨b, off, rfl, hat⟩ := ints_at hcell hp
    refine ⟨b, off, rfl, fun j hj => ?_⟩
    rw [hlen] at hj
    rw [hat j (by omega)]
    simp [List.getD, hj]
end
end Go.Proofs.Ytglehnmkdapnpaa

namespace Go.Proofs.Ytglehnmkdapnpaa
open Go.RowKit
set_option linter.unusedVariables false
variable {P : Program}
/-- the marked operations, one behind the other: but the last one they leave what is read as it is -/
def tailL (P : Program) (O1 O : List Nat) (w0 : World) (K : Act → World → Prop) : List Oper → Act → World → Prop
  | [], A, u => ∀ u', Ext u u' → Calm O w0 u' → K A u'
  | o :: r, A, u => ∀ u', Ext u u' → Calm O1 w0 u' → Gives P o A u' (fun v w' => Calm O w0 w' ∧ (r ≠ [] → Calm O1 w0 w') ∧ tailL P O1 O w0 K r (A.put o.dst v) w')
theorem tailL_ext {O1 O : List Nat} {w0 : World} {K : Act → World → Prop} {l : List Oper} {A : Act} {u u' : World} (h : tailL P O1 O w0 K l A u) (x : Ext u u') : tailL P O1 O w0 K l A u' := by
  cases l with
  | nil => exact fun u2 x2 => h u2 (x.trans x2)
  | cons o r => exact fun u2 x2 => h u2 (x.trans x2)
/-- each quiet operation is waited for by a marked one -/
def lateB (l : List Oper) (m : List Bool) (n : Nat) : Bool :=
  (List.range l.length).all fun i => m.getD i false || (marks l m).any fun j => befB l n i j

structure JLast (P : Program) (l : List Oper) (m : List Bool) (bs : List Tmp) (O1 O : List Nat) (w0 : World) (F : Act) (K : Act → World → Prop) (listed : Array Bool) (c : Act) (u : World) : Prop where
  closed : ∀ j oj, l[j]? = some oj → listed.getD j false = true → ∀ e ∈ oj.after, Region.binds .any e = true → listed.getD e.on false = true
  rest : ∃ (dn rem : List Nat) (A : Act), dn ++ rem = marks l m ∧ (∀ i ∈ dn, listed.getD i false = true) ∧ (∀ i ∈ rem, listed.getD i false = false) ∧ (rem ≠ [] → Calm O1 w0 u) ∧
    tailL P O1 O w0 K (rem.filterMap (l[·]?)) A u ∧ A.defers = F.defers ∧ A.tmps.size = F.tmps.size ∧ (∀ d, bs.contains d = false → slot A d = slot F d) ∧
    (∀ i ∈ dn, ∀ o d, l[i]? = some o → o.dst = some d → slot A d = slot c d)

theorem wp_region_last {id : Nat} {l : List Oper} (n : Nat) (m : List Bool) (bs : List Tmp) (O1 O : List Nat) {w : World} {a : Act} (F : Act) {Q : Exit → Act → World → Prop} (hm : P.follows .mixedOrders = true)
    (hB : calmB l m bs = true) (hT : tailB l m bs n = true) (hL : lateB l m n = true) (hF : F.tmps.size = a.tmps.size)
    (H : ∀ x, Calm O1 w x → wpQuiet P (eraseM m l).toArray (fun w' => ∃ y : Wx x, w' = y.val) (fun a' => a' = F) (eraseM m l) a)
    (T : tailL P O1 O w (fun A u => Q .normal A u) ((marks l m).filterMap (l[·]?)) F w) :
    (Code.region id l.toArray true).wp P Q a w := by
  simp only [tailB, Bool.and_eq_true, List.all_eq_true] at hT
  obtain ⟨⟨t1, t2⟩, t3⟩ := hT
  obtain ⟨hsel, hsp⟩ := calmB_spec hB
  have step : ∀ (listed : Array Bool) (i : Nat), i ∈ Region.ready .any l.toArray listed → (∀ j oj, l[j]? = some oj → listed.getD j false = true → ∀ e ∈ oj.after, Region.binds .any e = true → listed.getD e.on false = true) →
      ∀ j oj, l[j]? = some oj → (listed.setIfInBounds i true).getD j false = true → ∀ e ∈ oj.after, Region.binds .any e = true → (listed.setIfInBounds i true).getD e.on false = true := by
    intro listed i hr hc j oj hj hl e he hb
    obtain ⟨hun, oi, hoi, hall⟩ := mem_ready.1 hr
    rw [List.getElem?_toArray] at hoi
    by_cases hij : i = j
    · subst hij
      have : oj = oi := Option.some.inj (hj.symm.trans hoi)
      subst this
      exact getD_set_true (hall e he hb)
    · rw [getD_set_ne false hij] at hl
      exact getD_set_true (hc j oj hj hl e he hb)
  refine wp_region_calm_gen m bs O F (fun listed c u => JLast P l m bs O1 O w F (fun A u => Q .normal A u) listed c u) hm hB (fun x => Calm O1 w x) (Calm.refl _ _) (fun listed i u hmi hli hil hcl _ _ hJ => ?_) H ?_ ?_ ?_ ?_
  · obtain ⟨c, -, dn, rem, A, h1, h2, h3, h3', -⟩ := hJ
    refine h3' fun hr => ?_
    subst hr
    have k1 := List.all_eq_true.1 hL i (List.mem_range.2 hil)
    rw [hmi, Bool.false_or] at k1
    obtain ⟨j, hj, k2⟩ := List.any_eq_true.1 k1
    have hjl := (mem_marks.1 hj).1
    rw [← h1, List.append_nil] at hj
    have := befB_spec hcl n i j hjl k2 (h2 j hj)
    rw [hli] at this
    cases this
  · exact ⟨fun j oj _ hl => (by rw [rep_false] at hl; cases hl), [], marks l m, F, rfl, (fun i hi => by cases hi), (fun i _ => rep_false _ _), (fun _ => (Ext.refl w).drew.calm O1), tailL_ext T (Ext.refl w).drew, rfl, rfl, fun _ _ => rfl, fun i hi => by cases hi⟩
  · intro listed c u u' i o v hi hmi hr x hJ
    obtain ⟨hc, dn, rem, A, h1, h2, h3, h3', h4, h5, h6, h7, h8⟩ := hJ
    refine ⟨step listed i hr hc, dn, rem, A, h1, fun j hj => getD_set_true (h2 j hj), fun j hj => ?_, fun hr => (h3' hr).trans (x.calm O1), tailL_ext h4 x, h5, h6, h7, fun j hj oj d hoj hd => ?_⟩
    · have hne : i ≠ j := fun e => by
        subst e
        have := (mem_marks.1 (h1 ▸ List.mem_append_right dn hj)).2
        rw [hmi] at this
        cases this
      rw [getD_set_ne false hne]
      exact h3 j hj
    · have hne : i ≠ j := fun e => by
        subst e
        have := (mem_marks.1 (h1 ▸ List.mem_append_left rem hj)).2
        rw [hmi] at this
        cases this
      rw [slot_put_ne ((hsp j oj hoj).one i o d hi hne hd)]
      exact h8 j hj oj d hoj hd
  · intro listed c u i o hi hmi hr hw hJ hsz hlook
    obtain ⟨hc, dn, rem, A, h1, h2, h3, h3', h4, h5, h6, h7, h8⟩ := hJ
    obtain ⟨hun, oi, hoi, hall⟩ := mem_ready.1 hr
    obtain ⟨hunf, hlt⟩ := getD_f hun
    have hil : i < l.length := (List.getElem?_eq_some_iff.1 hi).1
    have hiM : i ∈ dn ++ rem := by rw [h1]; exact mem_marks.2 ⟨hil, hmi⟩
    have hirem : i ∈ rem := by
      rcases List.mem_append.1 hiM with h | h
      · have := h2 i h
        rw [hunf] at this
        cases this
      · exact h
    have hsort : (dn ++ rem).Pairwise (· < ·) := h1 ▸ marks_sorted l m
    obtain ⟨i0, r, rfl⟩ : ∃ i0 r, rem = i0 :: r := by
      cases rem with
      | nil => cases hirem
      | cons x y => exact ⟨x, y, rfl⟩
    have hs2 := List.pairwise_append.1 hsort
    have hi0M : i0 ∈ marks l m := by rw [← h1]; simp
    have e0 : i0 = i := by
      rcases List.mem_cons.1 hirem with h | h
      · exact h.symm
      · exfalso
        have hlt0 : i0 < i := (List.pairwise_cons.1 hs2.2.1).1 i h
        have hb := t1 i0 hi0M i (mem_marks.2 ⟨hil, hmi⟩)
        simp only [hlt0, decide_true, Bool.not_true, Bool.false_or] at hb
        have hl2 := befB_spec (step listed i hr hc) n i0 i hil hb (getD_at hlt)
        rw [getD_set_ne false (by omega)] at hl2
        have := h3 i0 (by simp)
        rw [hl2] at this
        cases this
    subst e0
    have hops : (i0 :: r).filterMap (l[·]?) = o :: r.filterMap (l[·]?) := by simp [hi]
    rw [hops] at h4
    have hsame : ∀ d ∈ o.looksAt l.toArray, slot c d = slot A d := by
      intro d hd
      cases hb : bs.contains d with
      | false => rw [hlook d hd hb, h7 d hb]
      | true =>
        have := t3 i0 hi0M
        rw [hi] at this
        have := List.all_eq_true.1 this d hd
        simp only [hb, Bool.not_true, Bool.false_or] at this
        obtain ⟨j, hjM, hj⟩ := List.any_eq_true.1 this
        simp only [Bool.and_eq_true, decide_eq_true_eq] at hj
        obtain ⟨oj, hoj, hjd⟩ := dst_of hj.2
        have hjdn : j ∈ dn := by
          rw [← h1] at hjM
          rcases List.mem_append.1 hjM with h | h
          · exact h
          · exfalso
            rcases List.mem_cons.1 h with h | h
            · omega
            · have := (List.pairwise_cons.1 hs2.2.1).1 j h
              omega
        exact (h8 j hjdn oj d hoj hjd).symm
    have hex : execOp c.eval o = execOp A.eval o := execOp_congr o (fun cs bb => Region.noSelect_spec hsel i0 o cs bb (by rw [List.getElem?_toArray]; exact hi)) fun x hx => by
      cases x with
      | tmp t => exact hsame t (List.mem_append_left _ (List.mem_filterMap.2 ⟨.tmp t, by simpa using hx, rfl⟩))
      | _ => rfl
    refine Oper.wp_mono (fun c' w' hh => ?_) (h4 u (Ext.refl u) (h3' (by simp)) c Q hex)
    obtain ⟨v, rfl, hcw, hcm, ht⟩ := hh
    refine ⟨v, rfl, hcw, step listed i0 hr hc, dn ++ [i0], r, A.put o.dst v, by rw [List.append_assoc]; exact h1, fun j hj => ?_, fun j hj => ?_, fun hr => hcm ?_, ht, by rw [defers_put, h5], by rw [size_put, h6], fun d hd => ?_, fun j hj oj d hoj hd => ?_⟩
    · rcases List.mem_append.1 hj with h | h
      · exact getD_set_true (h2 j h)
      · rw [List.mem_singleton.1 h]; exact getD_at hlt
    · have hne : i0 ≠ j := by
        have := (List.pairwise_cons.1 hs2.2.1).1 j hj
        omega
      rw [getD_set_ne false hne]
      exact h3 j (List.mem_cons_of_mem _ hj)
    · cases r with
      | nil => exact absurd rfl hr
      | cons j r' =>
        have hjM : j ∈ marks l m := by rw [← h1]; simp
        simp [List.getElem?_eq_getElem (mem_marks.1 hjM).1]
    · have hne : o.dst ≠ some d := fun hod => by
        have := (hsp i0 o hi).own d hod
        rw [hmi, hd] at this
        cases this
      rw [slot_put_ne hne]
      exact h7 d hd
    · rcases List.mem_append.1 hj with h | h
      · have hne : i0 ≠ j := fun e => by
          subst e
          have := hs2.2.2 i0 h i0 (by simp)
          omega
        have h9 := (hsp j oj hoj).one i0 o d hi hne hd
        rw [slot_put_ne h9, slot_put_ne h9]
        exact h8 j h oj d hoj hd
      · have ej := List.mem_singleton.1 h
        subst ej
        have : oj = o := Option.some.inj (hoj.symm.trans hi)
        subst this
        rw [hd]
        rcases Nat.lt_or_ge d c.tmps.size with k | k
        · rw [slot_put_eq k, slot_put_eq (by rw [h6, hF, ← hsz]; exact k)]
        · rw [slot_out (a := A.put (some d) v) (by rw [size_put, h6, hF, ← hsz]; exact k), slot_out (by rw [size_put]; exact k)]
  · intro c u hw hdf hsz hsl hJ
    obtain ⟨hc, dn, rem, A, h1, h2, h3, h3', h4, h5, h6, h7, h8⟩ := hJ
    have hrem : rem = [] := by
      cases rem with
      | nil => rfl
      | cons i r =>
        exfalso
        have hiM : i ∈ marks l m := by rw [← h1]; simp
        have := h3 i (by simp)
        simp [(mem_marks.1 hiM).1] at this
    subst hrem
    have hA : A = c := act_ext (h5.trans hdf.symm) (h6.trans hsz.symm) fun d hd => by
      cases hb : bs.contains d with
      | false => rw [h7 d hb, hsl d hb]
      | true =>
        obtain ⟨j, hjM, hj⟩ := List.any_eq_true.1 (t2 d (by simpa using hb))
        obtain ⟨oj, hoj, hjd⟩ := dst_of hj
        rw [List.append_nil] at h1
        exact h8 j (by rw [h1]; exact hjM) oj d hoj hjd
    subst hA
    exact h4 u (Ext.refl u) hw

/-- an append of one element, as a marked operation -/
theorem gives_append_g1 {α : Type} (L : Lay α) {o : Oper} {A : Act} {u : World} {R : Value → World → Prop} (s x : Operand) (ho : o.op = .call { callee := .builtin .append, args := #[s, x], argTypes := #[L.st, L.st] }) (base : Nat) (v : Value) (l : List α) (hs : A.eval s = v) (hown : OwnG L u base v l)
    (g c : Nat) (y : α) (hx : A.eval x = .slice (some ⟨g, 0, none⟩) 1 c) (hy : ∀ i t, (L.cells y)[i]? = some t → u.cell? ⟨g, i, none⟩ = some t) (hlen : l.length < 1000000) (hbase : base ≤ u.heap.size)
    (h : ∀ v' w', OwnG L w' base v' (l ++ [y]) → Calm v.ownBlock.toList u w' → (∀ k, v'.ownBlock = some k → v.ownBlock = some k ∨ k = u.heap.size) → R v' w') : Gives Try.prog o A u R := by
  obtain ⟨v', w', hr, h1, h2, h3⟩ := run_append_g L o.type base v l hown ⟨g, 0, none⟩ c [y] (fun j t hj => by
    rw [L.flat_single] at hj
    have := hy j t hj
    rcases Nat.eq_zero_or_pos j with h0 | h0
    · subst h0; simpa [Addr.add] using this
    · simpa [Addr.add, Nat.ne_of_gt h0] using this) (by simp; omega) hbase
  rw [List.length_singleton] at hr
  refine gives_value (u' := w') (v := v') ?_ (h v' w' h1 h2 h3)
  unfold execOp
  simp only [ho, resolve, invoke, builtin, Sem.run_bind, Sem.run_pure, Result.andThen_ok, List.map_toArray, List.map_cons, List.map_nil, hs, hx, hr]
end Go.Proofs.Ytglehnmkdapnpaa

namespace Go.Proofs.Ytglehnmkdapnpaa
open Go.RowKit
set_option linter.unusedVariables false
theorem wpList_load_blkG {P : Program} {ops : Array Oper} {rest : List Oper} {op : Oper} {a : Act} {w : World} {Q : Exit → Act → World → Prop} (hgd : Region.wanted op (yielded ops a.tmps) = true) (ty : TypeId) (x : Operand) (ho : op.op = .load ty x) (b : Nat) (hx : a.eval x = .pointer (some ⟨b, 0, none⟩)) {z : Array Value} {T : TypeId} (hB : Blk w b z T)
    {d : TypeDesc} (hu : P.underlying ty = some d) (hd : d.isRow = true) (hi : (P.info? ty).map (·.size) = some z.size) (h : wpList P ops Q rest (a.put op.dst (.agg z)) w) : wpList P ops Q (op :: rest) a w := by
  unfold wpList
  rw [if_pos hgd]
  refine .inl ?_
  have hl := run_loadVar_mid (P := P) w b 0 ty z.toList d hB.range hu hd (by simpa using hi)
  unfold Oper.wp execOp
  simp only [ho, hx, Instr.loadAt, Instr.sureAddr, Sem.run_bind, Sem.run_pure, Result.andThen_ok, hl]
  exact h
theorem wpList_build13G {P : Program} {ops : Array Oper} {rest : List Oper} {o : Oper} {a : Act} {w : World} {Q : Exit → Act → World → Prop} (hgd : Region.wanted o (yielded ops a.tmps) = true) (t : TypeId) (parts : Array (Nat × Operand)) (ho : o.op = .build t parts) (cells : Array Value)
    (hb : P.built t (parts.map fun (i, x) => (i, a.eval x)).toList = some cells) (h : wpList P ops Q rest (a.put o.dst (.agg cells)) w) : wpList P ops Q (o :: rest) a w := by
  unfold wpList
  rw [if_pos hgd]
  exact .inl (wp_build t parts ho (by rw [hb]; rfl) (by rw [hb]; exact h))
theorem quiet_build {P : Program} {op : Oper} {a : Act} {C : World → Prop} {K : Act → Prop} (t : TypeId) (parts : Array (Nat × Operand)) (ho : op.op = .build t parts) (cells : Array Value)
    (hb : P.built t (parts.map fun (i, x) => (i, a.eval x)).toList = some cells) (h : K (a.put op.dst (.agg cells))) : op.quiet P a C K := by
  refine ⟨.agg cells, fun u _ => ?_, h⟩
  unfold Oper.quietAt execOp
  simp only [ho, Sem.run_bind, run_build u t _ cells hb, Result.andThen_ok]
  exact ⟨rfl, by simp⟩
end Go.Proofs.Ytglehnmkdapnpaa

