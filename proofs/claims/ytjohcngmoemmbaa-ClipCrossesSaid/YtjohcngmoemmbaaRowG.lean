/-
  DERIVED. Slices that came in, whatever their elements (slices among them): what a law's walk knows of them.
-/
import Derived.Test.YtjohcngmoemmbaaRowing
import Derived.Test.YtjohcngmoemmbaaArr
import Derived.Test.YtjohcngmoemmbaaGs
import Derived.Deep.Slices
namespace Go.Proofs.Ytjohcngmoemmbaa
open Go.ChangeShapes Go.WideShapes Go.RowKit Go.Deep
set_option linter.unusedVariables false

/-- a slice, as a value -/
structure SlV where
  ao : Option Addr
  n : Nat
  c : Nat
abbrev SlV.v (s : SlV) : Value := .slice s.ao s.n s.c
abbrev SlV.nil : SlV := ⟨none, 0, 0⟩

section
variable {α : Type} {H : Type} {enc : TypeId × Value → H} {w : World} {base : Nat} {spare : Nat → Bool} {held : Bool}

theorem g_int {fuel : Nat} {c : Value} {x : DataW H × List MemPlace} {t : TypeId} {k : IntKind} (ht : Try.prog.underlying t = some (.int k)) (h : DataW.trod enc Try.prog w base spare held fuel t [c] = some x) : ∃ n, c = .int k n ∧ (Lit.int k n).wf = true := by
  obtain ⟨n, e, _, hw⟩ := DataW.trod_int ht h
  exact ⟨n, by simpa using e, hw⟩
theorem g_bool {fuel : Nat} {c : Value} {x : DataW H × List MemPlace} {t : TypeId} (ht : Try.prog.underlying t = some .bool) (h : DataW.trod enc Try.prog w base spare held fuel t [c] = some x) : ∃ n, c = .bool n := by
  obtain ⟨n, e, _⟩ := DataW.trod_bool ht h
  exact ⟨n, by simpa using e⟩

/-- the cell of a slice: what it leads to -/
theorem cells_g [Inhabited α] (L : Lay α) (Q : α → Prop) (hc : Try.prog.cellsOf L.et = L.n)
    (each : ∀ (fuel : Nat) (cs : List Value) (x : DataW H × List MemPlace), DataW.trod enc Try.prog w base spare held fuel L.et cs = some x → ∃ a, cs = L.cells a ∧ Q a)
    {fuel : Nat} {cs : List Value} {x : DataW H × List MemPlace} (h : DataW.trod enc Try.prog w base spare held fuel L.st cs = some x) :
    ∃ (s : SlV) (xs : List α), cs = [s.v] ∧ PArrG L w s.v xs ∧ (∀ a ∈ xs, Q a) ∧ xs.length ≤ maxLen := by
  rcases open_slice L.und h with ⟨hcs, _⟩ | ⟨a, len, cap, m, n, D, Pl, hcs, _, hl, hm, hmm, _, hat⟩
  · exact ⟨SlV.nil, [], hcs, ⟨none, 0, rfl, fun h => absurd rfl h⟩, (fun a ha => by cases ha), Nat.zero_le _⟩
  · have hle : len ≤ m := by rw [hmm]; split <;> omega
    have each' : ∀ i, i < len → ∃ p : α, Q p ∧ ∀ k u, (L.cells p)[k]? = some u → w.cell? ((a.add (i * L.n)).add k) = some u := by
      intro i hi
      obtain ⟨cs', h1, h2⟩ := hat i (by omega)
      rw [hc] at h1
      obtain ⟨q, rfl, hq⟩ := each _ _ _ h2
      obtain ⟨_, _, h3⟩ := World.cells?_some h1
      refine ⟨q, hq, fun k u hk => ?_⟩
      rw [h3 k (by
        have := (List.getElem?_eq_some_iff.1 hk).1
        rwa [L.len] at this)]
      exact hk
    obtain ⟨g, hg⟩ := choose_lt each'
    refine ⟨⟨some a, len, cap⟩, (List.range len).map g, hcs, ⟨some a, cap, by simp, fun hne => ?_⟩, fun q hq => ?_, by simp; omega⟩
    · have hpos : 0 < len := by
        rcases Nat.eq_zero_or_pos len with h0 | h0
        · rw [h0] at hne; simp at hne
        · exact h0
      obtain ⟨b, off, spot⟩ := a
      have hspot : spot = none := by
        have h0 : 0 < (L.cells (g 0)).length := by rw [L.len]; exact L.pos
        have := (hg 0 hpos).2 0 _ (List.getElem?_eq_getElem h0)
        simpa [Addr.add] using World.cell?_spot this
      subst hspot
      refine ⟨b, off, rfl, fun j q hq k u hk => ?_⟩
      have hj : j < len := by
        have := (List.getElem?_eq_some_iff.1 hq).1
        simpa using this
      have eq : q = g j := by
        rw [List.getElem?_map, List.getElem?_range hj] at hq
        simpa using hq.symm
      subst eq
      have := (hg j hj).2 k u hk
      simp only [add_plain] at this
      exact this
    · obtain ⟨j, hj, rfl⟩ := List.mem_map.1 hq
      exact (hg j (List.mem_range.1 hj)).1

set_option maxRecDepth 100000 in
/-- a slice that came in -/
theorem open_g [Inhabited α] (L : Lay α) (Q : α → Prop) (hc : Try.prog.cellsOf L.et = L.n)
    (each : ∀ (fuel : Nat) (cs : List Value) (x : DataW H × List MemPlace), DataW.trod enc Try.prog w base spare held fuel L.et cs = some x → ∃ a, cs = L.cells a ∧ Q a)
    {r : Reach} {b0 : Nat} {v : Value} {dt : DataW H} {p : List MemPlace} (hv : Value.okWide Try.prog w r b0 L.st v) (h : DataW.Trod enc Try.prog w base spare held L.st v dt p) :
    ∃ (s : SlV) (xs : List α), v = s.v ∧ PArrG L w s.v xs ∧ (∀ a ∈ xs, Q a) ∧ xs.length ≤ maxLen := by
  obtain ⟨a0, len, cap, rfl⟩ := okWide_slice L.und hv
  obtain ⟨fuel, hf⟩ := h
  obtain ⟨s, xs, hcs, h2⟩ := cells_g L Q hc each hf
  simp [Value.cells] at hcs
  exact ⟨s, xs, by rw [SlV.v, ← hcs.1, ← hcs.2.1, ← hcs.2.2], h2⟩

set_option maxRecDepth 100000 in
/-- the cell of a slice of integers: what it leads to -/
theorem cells_arr {k : IntKind} {t e : TypeId} (ht : Try.prog.underlying t = some (.slice e)) (he : Try.prog.underlying e = some (.int k)) (hc : Try.prog.cellsOf e = 1) {fuel : Nat} {cs : List Value} {x : DataW H × List MemPlace} (hf : DataW.trod enc Try.prog w base spare held fuel t cs = some x) :
    ∃ (s : SlV) (xs : List Int), cs = [s.v] ∧ Arr w k s.v xs := by
  rcases open_ints ht he hc hf with ⟨hcs, hx⟩ | ⟨a, len', cap', zs, hcs, _, hl, hm, hz, hx, hcell, hwz⟩
  · exact ⟨SlV.nil, [], hcs, ⟨none, 0, rfl, Nat.le_refl _, fun h => absurd rfl h, fun _ => rfl⟩, Nat.zero_le _, fun n hn => by cases hn⟩
  · have hle : len' ≤ zs.length := by rw [hz]; split <;> omega
    have hlen : (zs.take len').length = len' := by simp [hle]
    refine ⟨⟨some a, len', cap'⟩, zs.take len', hcs, ⟨some a, cap', by rw [hlen], by rw [hlen]; exact hl, fun hne => ?_, fun h => by cases h⟩, by rw [hlen]; omega, fun n hn => hwz n (List.mem_of_mem_take hn)⟩
    have hp : 0 < zs.length := by
      rcases Nat.eq_zero_or_pos zs.length with h0 | h0
      · rw [List.eq_nil_of_length_eq_zero h0] at hne; simp at hne
      · exact h0
    obtain ⟨b, off, rfl, hat⟩ := ints_at hcell hp
    refine ⟨b, off, rfl, fun j hj => ?_⟩
    rw [hlen] at hj
    rw [hat j (by omega)]
    simp [List.getD, hj]
end
end Go.Proofs.Ytjohcngmoemmbaa
