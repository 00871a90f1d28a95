/-
  DERIVED. Openers of layer 6's rows: a Bend, slices of Bends and of Acts, a slice that is written to.
-/
import Derived.Test.YtmoihbpjcdmmbaaRowing
import Derived.Test.YtmoihbpjcdmmbaaArr
namespace Go.Proofs.Ytmoihbpjcdmmbaa
open Go.ChangeShapes Go.WideShapes Go.RowKit
set_option linter.unusedVariables false

/-- a slice of integers that came in, with the places of its cells -/
theorem open_arrw {H : Type} {enc : TypeId × Value → H} {P : Program} {w : World} {base : Nat} {spare : Nat → Bool} {held : Bool} {r : Reach} {b0 : Nat} {k : IntKind} {t e : TypeId} {v : Value} {dt : DataW H} {p : List MemPlace}
    (ht : P.underlying t = some (.slice e)) (he : P.underlying e = some (.int k)) (hc : P.cellsOf e = 1) (hv : Value.okWide P w r b0 t v) (h : DataW.Trod enc P w base spare held t v dt p) : ∃ xs : List Int, Arr w k v xs ∧ ∀ b off n c, v = .slice (some ⟨b, off, none⟩) n c → ∀ j, j < xs.length → MemPlace.cell b (off + j) ∈ p := by
  obtain ⟨a0, len, cap, rfl⟩ := okWide_slice ht hv
  obtain ⟨fuel, hf⟩ := h
  rcases open_ints ht he hc hf with ⟨hcs, hx⟩ | ⟨a, len', cap', zs, hcs, _, hl, hm, hz, hx, hcell, hwz⟩
  · simp [Value.cells] at hcs
    obtain ⟨rfl, rfl, rfl⟩ := hcs
    exact ⟨[], ⟨⟨none, 0, rfl, Nat.le_refl _, fun h => absurd rfl h, fun _ => rfl⟩, Nat.zero_le _, fun n hn => by cases hn⟩, fun b off n c e => by cases e⟩
  · simp [Value.cells] at hcs
    obtain ⟨rfl, rfl, rfl⟩ := hcs
    have hle : len ≤ zs.length := by rw [hz]; split <;> omega
    have hlen : (zs.take len).length = len := by simp [hle]
    refine ⟨zs.take len, ⟨⟨some a, cap, by rw [hlen], by rw [hlen]; exact hl, fun hne => ?_, fun h => by cases h⟩, by rw [hlen]; omega, fun n hn => hwz n (List.mem_of_mem_take hn)⟩, fun b off n c e j hj => ?_⟩
    · have hp : 0 < zs.length := by
        rcases Nat.eq_zero_or_pos zs.length with h0 | h0
        · rw [List.eq_nil_of_length_eq_zero h0] at hne; simp at hne
        · exact h0
      obtain ⟨b, off, rfl, hat⟩ := ints_at hcell hp
      refine ⟨b, off, rfl, fun j hj => ?_⟩
      rw [hlen] at hj
      rw [hat j (by omega)]
      simp [List.getD, hj]
    · rw [hlen] at hj
      have ea : a = ⟨b, off, none⟩ := by cases e; rfl
      have hp : p = MemPlace.row a zs.length := congrArg Prod.snd hx
      rw [hp, ea]
      exact MemPlace.mem_row.2 ⟨j, by omega, rfl⟩

theorem cells_int {H : Type} {enc : TypeId × Value → H} {w : World} {base : Nat} {spare : Nat → Bool} {held : Bool} {fuel : Nat} {c : Value} {x : DataW H × List MemPlace} {t : TypeId} {k : IntKind} (ht : Try.prog.underlying t = some (.int k)) (h : DataW.trod enc Try.prog w base spare held fuel t [c] = some x) : ∃ n, c = .int k n ∧ (Lit.int k n).wf = true := by
  obtain ⟨n, e, _, hw⟩ := DataW.trod_int ht h
  exact ⟨n, by simpa using e, hw⟩

set_option maxRecDepth 100000 in
theorem bend_cells {H : Type} {enc : TypeId × Value → H} {w : World} {base : Nat} {spare : Nat → Bool} {held : Bool} {fuel : Nat} {cs : List Value} {x : DataW H × List MemPlace} (h : DataW.trod enc Try.prog w base spare held fuel 32 cs = some x) :
    ∃ f m : Int, cs = [.int .i64 f, .int .u32 m] ∧ (-9223372036854775808 ≤ f ∧ f ≤ 9223372036854775807) ∧ (0 ≤ m ∧ m ≤ 4294967295) := by
  obtain ⟨xs, n, _, _, hl, hlen, hf⟩ := DataW.trod_struct Try.underlying32 h
  have hl2 : cs.length = 2 := hl.trans (by kernel_rfl)
  have hlen2 : xs.length = 2 := hlen
  match cs, hl2, xs, hlen2 with
  | [c0, c1], _, [y0, y1], _ =>
    have h0 : DataW.trod enc Try.prog w base spare held n 3 [c0] = some y0 := hf 0 _ rfl
    have h1 : DataW.trod enc Try.prog w base spare held n 30 [c1] = some y1 := hf 1 _ rfl
    obtain ⟨f, rfl, w0⟩ := cells_int Try.underlying3 h0
    obtain ⟨m, rfl, w1⟩ := cells_int Try.underlying30 h1
    exact ⟨f, m, rfl, bounds_i64 w0, bounds_u32 w1⟩
theorem openB {H : Type} {enc : TypeId × Value → H} {w : World} {base : Nat} {spare : Nat → Bool} {held : Bool} {r : Reach} {b0 : Nat} {v : Value} {dt : DataW H} {p : List MemPlace} (hv : Value.okWide Try.prog w r b0 32 v) (h : DataW.Trod enc Try.prog w base spare held 32 v dt p) :
    ∃ f m : Int, v = .agg #[.int .i64 f, .int .u32 m] ∧ (-9223372036854775808 ≤ f ∧ f ≤ 9223372036854775807) ∧ (0 ≤ m ∧ m ≤ 4294967295) := by
  obtain ⟨cs, rfl, hs⟩ := okWide_struct Try.underlying32 hv
  obtain ⟨fuel, hf⟩ := h
  obtain ⟨f, m, e, h1, h2⟩ := bend_cells hf
  refine ⟨f, m, ?_, h1, h2⟩
  have : cs.toList = [.int .i64 f, .int .u32 m] := e
  congr 1
  exact Array.ext' this
end Go.Proofs.Ytmoihbpjcdmmbaa
