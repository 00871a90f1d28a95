/-
  DERIVED. Slices of bytes of the call's own: what they hold, one byte appended, through draws, new blocks and stores elsewhere.
-/
import Derived.Test.YtjohcngmoemmbaaBlkLaws
import Derived.Test.YtjohcngmoemmbaaCalmMine
import Derived.Laws.AppendOwn
import Derived.OwnWalk
import Derived.Laws.BytesArg
import Derived.Laws.Cover3
namespace Go.Proofs.Ytjohcngmoemmbaa
open Go.RowKit
set_option linter.unusedVariables false

def bytesV (l : List Int) : List Value := l.map (Value.int .u8)
theorem bytesV_append (l m : List Int) : bytesV (l ++ m) = bytesV l ++ bytesV m := List.map_append
theorem bytesV_length (l : List Int) : (bytesV l).length = l.length := List.length_map ..
theorem bytesV_get (l : List Int) (j : Nat) (u : Value) (h : (bytesV l)[j]? = some u) : ∃ y, l[j]? = some y ∧ u = .int .u8 y := by
  simp only [bytesV, List.getElem?_map, Option.map_eq_some_iff] at h
  obtain ⟨y, h1, h2⟩ := h
  exact ⟨y, h1, h2.symm⟩
theorem bytesV_one (l : List Int) : ∀ u ∈ bytesV l, u.oneCell' = true := by
  intro u hu
  obtain ⟨y, _, rfl⟩ := List.mem_map.1 hu
  rfl

/-- v is a slice of the call's own (of a block from base on) and holds these bytes -/
def Own (w : World) (base : Nat) (v : Value) (l : List Int) : Prop := w.ownsRow base 5 1 v l.length (bytesV l)

theorem Own.lt {w : World} {base : Nat} {v : Value} {l : List Int} (h : Own w base v l) : ∀ k, v.ownBlock = some k → base ≤ k ∧ k < w.heap.size := World.ownsRow.lt h
theorem Own.nil (w : World) (base : Nat) : Own w base (.slice none 0 0) [] := World.ownsRow_nil w base _ 1
theorem Own.kept {w w' : World} {base : Nat} {v : Value} {l : List Int} (h : Own w base v l) (hb : ∀ k, v.ownBlock = some k → w'.heap[k]? = w.heap[k]?) : Own w' base v l := by
  obtain ⟨h1, h2⟩ := h
  refine ⟨h1, ?_⟩
  rcases h2 with h2 | ⟨g, cap, cur, rfl, a1, a2, a3, a4, a5, a6⟩
  · exact .inl h2
  · exact .inr ⟨g, cap, cur, rfl, a1, (hb g rfl).trans a2, a3, a4, a5, a6⟩
theorem Own.ext {w w' : World} {base : Nat} {v : Value} {l : List Int} (h : Own w base v l) (hx : Ext w w') : Own w' base v l := h.kept fun k hk => hx.block (h.lt k hk).2
theorem Own.calm {O : List Nat} {w w' : World} {base : Nat} {v : Value} {l : List Int} (h : Own w base v l) (hx : Calm O w w') (hO : ∀ k, v.ownBlock = some k → k ∉ O) : Own w' base v l := h.kept fun k hk => hx.block k (h.lt k hk).2 (hO k hk)
theorem Own.mono {w : World} {base base' : Nat} {v : Value} {l : List Int} (h : Own w base v l) (hb : base' ≤ base) : Own w base' v l := by
  obtain ⟨h1, h2⟩ := h
  refine ⟨h1, ?_⟩
  rcases h2 with h2 | ⟨g, cap, cur, rfl, a1, a2⟩
  · exact .inl h2
  · exact .inr ⟨g, cap, cur, rfl, Nat.le_trans hb a1, a2⟩

theorem Own.slice {w : World} {base : Nat} {v : Value} {l : List Int} (h : Own w base v l) : ∃ (ao : Option Addr) (c : Nat), v = .slice ao l.length c ∧ (ao = none → l = [] ∧ c = 0) ∧ ∀ a, ao = some a → a = ⟨a.block, 0, none⟩ := by
  rcases h.2 with ⟨rfl, h0⟩ | ⟨g, cap, cur, rfl, _⟩
  · have h0' : l = [] := List.eq_nil_of_length_eq_zero h0
    subst h0'
    exact ⟨none, 0, rfl, (fun _ => ⟨rfl, rfl⟩), (fun a ha => by cases ha)⟩
  · exact ⟨_, cap, rfl, (fun h => by cases h), (fun a ha => by cases ha; rfl)⟩
theorem Own.cellA {w : World} {base : Nat} {l : List Int} {g c : Nat} (h : Own w base (.slice (some ⟨g, 0, none⟩) l.length c) l) : ∀ j y, l[j]? = some y → w.cell? ((⟨g, 0, none⟩ : Addr).add j) = some (.int .u8 y) :=
  fun j y hj => World.ownsRow.cells h (g := g) rfl j (.int .u8 y) (by simp [bytesV, hj])
/-- the bytes where they lie -/
theorem Own.cell {w : World} {base : Nat} {l : List Int} {g c : Nat} (h : Own w base (.slice (some ⟨g, 0, none⟩) l.length c) l) : ∀ j y, l[j]? = some y → w.cell? ⟨g, j, none⟩ = some (.int .u8 y) := fun j y hj => by
  have := World.ownsRow.cells h (g := g) rfl j (.int .u8 y) (by simp [bytesV, hj])
  rcases Nat.eq_zero_or_pos j with h0 | h0
  · subst h0; simpa [Addr.add] using this
  · simpa [Addr.add, Nat.ne_of_gt h0] using this

theorem calm_grownBy {w w' : World} {row : Option Nat} (h : w.grownBy w' row) : Calm row.toList w w' :=
  ⟨h.os, h.tape, h.output, h.size, fun k hk hO => h.block k hk fun e => hO (by rw [← e]; simp)⟩

theorem info_u8 : (Try.prog.info? 5).map (fun i => (i.zero, i.size, i.bytes)) = some (some (.int .u8 0), 1, 1) := by kernel_rfl

/-- a number's bytes: seven bits each, the lowest first -/
def leb (n : Nat) : List Int := if n < 128 then [(n : Int)] else ((n % 128 + 128 : Nat) : Int) :: leb (n / 128)
termination_by n
decreasing_by omega
theorem leb_small {n : Nat} (h : n < 128) : leb n = [(n : Int)] := by rw [leb, if_pos h]
theorem leb_great {n : Nat} (h : 128 ≤ n) : leb n = ((n % 128 + 128 : Nat) : Int) :: leb (n / 128) := by rw [leb, if_neg (by omega)]
theorem leb_pos (n : Nat) : 0 < (leb n).length := by rw [leb]; split <;> simp
theorem leb_len : ∀ (k n : Nat), n < 128 ^ (k + 1) → (leb n).length ≤ k + 1
  | 0, n, h => by rw [leb_small (by simpa using h)]; simp
  | k + 1, n, h => by
    by_cases hn : n < 128
    · rw [leb_small hn]; simp
    · rw [leb_great (by omega), List.length_cons]
      have := leb_len k (n / 128) (Nat.div_lt_of_lt_mul (by rw [Nat.mul_comm, ← Nat.pow_succ]; exact h))
      omega
theorem leb_len10 {n : Nat} (h : n < 18446744073709551616) : (leb n).length ≤ 10 := leb_len 9 n (by omega)

end Go.Proofs.Ytjohcngmoemmbaa
