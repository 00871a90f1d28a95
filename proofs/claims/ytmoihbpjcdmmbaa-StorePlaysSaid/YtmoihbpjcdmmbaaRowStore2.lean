/-
  DERIVED. Openers of layer 6's rows: slices of Bends and of Acts.
-/
import Derived.Test.YtmoihbpjcdmmbaaRowStore
import Derived.Deep.Slices
namespace Go.Proofs.Ytmoihbpjcdmmbaa
open Go.ChangeShapes Go.WideShapes Go.RowKit Go.Deep
set_option linter.unusedVariables false

/-- a slice of bends that came in -/
structure BArr (w : World) (v : Value) (xs : List (Int × Nat)) : Prop where
  slice : ∃ ao cap, v = .slice ao xs.length cap ∧ (xs ≠ [] → ∃ b off, ao = some ⟨b, off, none⟩ ∧ ∀ j p, xs[j]? = some p → w.cell? ⟨b, off + j * 2, none⟩ = some (.int .i64 p.1) ∧ w.cell? ⟨b, off + j * 2 + 1, none⟩ = some (.int .u32 p.2))
  most : xs.length ≤ maxLen
  bd : ∀ p ∈ xs, (-9223372036854775808 ≤ p.1 ∧ p.1 ≤ 9223372036854775807) ∧ p.2 < 4294967296
theorem BArr.ext {w w' : World} {v : Value} {xs : List (Int × Nat)} (h : BArr w v xs) (hx : Ext w w') : BArr w' v xs := by
  obtain ⟨⟨ao, cap, rfl, h1⟩, h2, h3⟩ := h
  refine ⟨⟨ao, cap, rfl, fun hne => ?_⟩, h2, h3⟩
  obtain ⟨b, off, rfl, hc⟩ := h1 hne
  exact ⟨b, off, rfl, fun j p hj => ⟨hx.old (hc j p hj).1, hx.old (hc j p hj).2⟩⟩
/-- an act -/
structure ActD where
  k : Int
  n : Int
  s : Int
  l : Bool
instance : Inhabited ActD := ⟨⟨0, 0, 0, false⟩⟩
structure AArr (w : World) (v : Value) (xs : List ActD) : Prop where
  slice : ∃ ao cap, v = .slice ao xs.length cap ∧ (xs ≠ [] → ∃ b off, ao = some ⟨b, off, none⟩ ∧ ∀ j p, xs[j]? = some p → w.cell? ⟨b, off + j * 4, none⟩ = some (.int .u8 p.k) ∧ w.cell? ⟨b, off + j * 4 + 1, none⟩ = some (.int .u8 p.n) ∧ w.cell? ⟨b, off + j * 4 + 2, none⟩ = some (.int .u8 p.s) ∧ w.cell? ⟨b, off + j * 4 + 3, none⟩ = some (.bool p.l))
  most : xs.length ≤ maxLen
  bd : ∀ p ∈ xs, (0 ≤ p.k ∧ p.k ≤ 255) ∧ (0 ≤ p.n ∧ p.n ≤ 255) ∧ (0 ≤ p.s ∧ p.s ≤ 255)
theorem AArr.ext {w w' : World} {v : Value} {xs : List ActD} (h : AArr w v xs) (hx : Ext w w') : AArr w' v xs := by
  obtain ⟨⟨ao, cap, rfl, h1⟩, h2, h3⟩ := h
  refine ⟨⟨ao, cap, rfl, fun hne => ?_⟩, h2, h3⟩
  obtain ⟨b, off, rfl, hc⟩ := h1 hne
  exact ⟨b, off, rfl, fun j p hj => ⟨hx.old (hc j p hj).1, hx.old (hc j p hj).2.1, hx.old (hc j p hj).2.2.1, hx.old (hc j p hj).2.2.2⟩⟩

theorem openBs {H : Type} {enc : TypeId × Value → H} {w : World} {base : Nat} {spare : Nat → Bool} {held : Bool} {r : Reach} {b0 : Nat} {v : Value} {dt : DataW H} {p : List MemPlace} (hv : Value.okWide Try.prog w r b0 23 v) (h : DataW.Trod enc Try.prog w base spare held 23 v dt p) :
    ∃ xs, BArr w v xs := by
  obtain ⟨a0, len, cap, rfl⟩ := okWide_slice Try.underlying23 hv
  obtain ⟨fuel, hf⟩ := h
  have c2 : Try.prog.cellsOf 32 = 2 := by kernel_rfl
  rcases open_slice Try.underlying23 hf with ⟨hcs, _⟩ | ⟨a, len', cap', m, n, D, Pl, hcs, _, hl, hm, hmm, _, hat⟩
  · simp [Value.cells] at hcs
    obtain ⟨rfl, rfl, rfl⟩ := hcs
    exact ⟨[], ⟨none, 0, rfl, fun h => absurd rfl h⟩, Nat.zero_le _, fun p hp => by cases hp⟩
  · simp [Value.cells] at hcs
    obtain ⟨rfl, rfl, rfl⟩ := hcs
    have hle : len ≤ m := by rw [hmm]; split <;> omega
    have each : ∀ i, i < len → ∃ q : Int × Nat, ((-9223372036854775808 ≤ q.1 ∧ q.1 ≤ 9223372036854775807) ∧ q.2 < 4294967296) ∧ w.cell? (a.add (i * 2)) = some (.int .i64 q.1) ∧ w.cell? ((a.add (i * 2)).add 1) = some (.int .u32 q.2) := by
      intro i hi
      obtain ⟨cs', h1, h2⟩ := hat i (by omega)
      rw [c2] at h1
      obtain ⟨f, mm, rfl, hf1, hm1⟩ := bend_cells h2
      obtain ⟨_, _, h3⟩ := World.cells?_some h1
      refine ⟨(f, mm.toNat), ⟨hf1, by omega⟩, ?_, ?_⟩
      · simpa [Addr.add] using h3 0 (by omega)
      · have := h3 1 (by omega)
        have e : ((mm.toNat : Nat) : Int) = mm := by omega
        simpa [e] using this
    obtain ⟨g, hg⟩ := choose_lt each
    refine ⟨(List.range len).map g, ⟨⟨some a, cap, by simp, fun hne => ?_⟩, by simp; omega, fun q hq => ?_⟩⟩
    · have hpos : 0 < len := by
        rcases Nat.eq_zero_or_pos len with h0 | h0
        · rw [h0] at hne; simp at hne
        · exact h0
      obtain ⟨b, off, spot⟩ := a
      have hspot : spot = none := by simpa [Addr.add] using World.cell?_spot (hg 0 hpos).2.1
      subst hspot
      refine ⟨b, off, rfl, fun j q hq => ?_⟩
      have hj : j < len := by
        have := (List.getElem?_eq_some_iff.1 hq).1
        simpa using this
      have eq : q = g j := by
        rw [List.getElem?_map, List.getElem?_range hj] at hq
        simpa using hq.symm
      subst eq
      obtain ⟨_, k1, k2⟩ := hg j hj
      rw [add_plain] at k1 k2
      rw [add_plain] at k2
      exact ⟨k1, k2⟩
    · obtain ⟨j, hj, rfl⟩ := List.mem_map.1 hq
      exact (hg j (List.mem_range.1 hj)).1

theorem cells_bool {H : Type} {enc : TypeId × Value → H} {w : World} {base : Nat} {spare : Nat → Bool} {held : Bool} {fuel : Nat} {c : Value} {x : DataW H × List MemPlace} {t : TypeId} (ht : Try.prog.underlying t = some .bool) (h : DataW.trod enc Try.prog w base spare held fuel t [c] = some x) : ∃ n, c = .bool n := by
  obtain ⟨n, e, _⟩ := DataW.trod_bool ht h
  exact ⟨n, by simpa using e⟩
set_option maxRecDepth 100000 in
theorem act_cells {H : Type} {enc : TypeId × Value → H} {w : World} {base : Nat} {spare : Nat → Bool} {held : Bool} {fuel : Nat} {cs : List Value} {x : DataW H × List MemPlace} (h : DataW.trod enc Try.prog w base spare held fuel 37 cs = some x) :
    ∃ p : ActD, cs = [.int .u8 p.k, .int .u8 p.n, .int .u8 p.s, .bool p.l] ∧ (0 ≤ p.k ∧ p.k ≤ 255) ∧ (0 ≤ p.n ∧ p.n ≤ 255) ∧ (0 ≤ p.s ∧ p.s ≤ 255) := by
  obtain ⟨xs, n, _, _, hl, hlen, hf⟩ := DataW.trod_struct Try.underlying37 h
  have hl2 : cs.length = 4 := hl.trans (by kernel_rfl)
  have hlen2 : xs.length = 4 := hlen
  match cs, hl2, xs, hlen2 with
  | [c0, c1, c2, c3], _, [y0, y1, y2, y3], _ =>
    have h0 : DataW.trod enc Try.prog w base spare held n 5 [c0] = some y0 := hf 0 _ rfl
    have h1 : DataW.trod enc Try.prog w base spare held n 5 [c1] = some y1 := hf 1 _ rfl
    have h2 : DataW.trod enc Try.prog w base spare held n 5 [c2] = some y2 := hf 2 _ rfl
    have h3 : DataW.trod enc Try.prog w base spare held n 4 [c3] = some y3 := hf 3 _ rfl
    obtain ⟨k, rfl, w0⟩ := cells_int Try.underlying5 h0
    obtain ⟨m, rfl, w1⟩ := cells_int Try.underlying5 h1
    obtain ⟨s, rfl, w2⟩ := cells_int Try.underlying5 h2
    obtain ⟨l, rfl⟩ := cells_bool Try.underlying4 h3
    exact ⟨⟨k, m, s, l⟩, rfl, bounds_u8 w0, bounds_u8 w1, bounds_u8 w2⟩
theorem openAs {H : Type} {enc : TypeId × Value → H} {w : World} {base : Nat} {spare : Nat → Bool} {held : Bool} {r : Reach} {b0 : Nat} {v : Value} {dt : DataW H} {p : List MemPlace} (hv : Value.okWide Try.prog w r b0 24 v) (h : DataW.Trod enc Try.prog w base spare held 24 v dt p) :
    ∃ xs, AArr w v xs := by
  obtain ⟨a0, len, cap, rfl⟩ := okWide_slice Try.underlying24 hv
  obtain ⟨fuel, hf⟩ := h
  have c4 : Try.prog.cellsOf 37 = 4 := by kernel_rfl
  rcases open_slice Try.underlying24 hf with ⟨hcs, _⟩ | ⟨a, len', cap', m, n, D, Pl, hcs, _, hl, hm, hmm, _, hat⟩
  · simp [Value.cells] at hcs
    obtain ⟨rfl, rfl, rfl⟩ := hcs
    exact ⟨[], ⟨none, 0, rfl, fun h => absurd rfl h⟩, Nat.zero_le _, fun p hp => by cases hp⟩
  · simp [Value.cells] at hcs
    obtain ⟨rfl, rfl, rfl⟩ := hcs
    have hle : len ≤ m := by rw [hmm]; split <;> omega
    have each : ∀ i, i < len → ∃ q : ActD, ((0 ≤ q.k ∧ q.k ≤ 255) ∧ (0 ≤ q.n ∧ q.n ≤ 255) ∧ (0 ≤ q.s ∧ q.s ≤ 255)) ∧ w.cell? (a.add (i * 4)) = some (.int .u8 q.k) ∧ w.cell? ((a.add (i * 4)).add 1) = some (.int .u8 q.n) ∧ w.cell? ((a.add (i * 4)).add 2) = some (.int .u8 q.s) ∧ w.cell? ((a.add (i * 4)).add 3) = some (.bool q.l) := by
      intro i hi
      obtain ⟨cs', h1, h2⟩ := hat i (by omega)
      rw [c4] at h1
      obtain ⟨q, rfl, hq⟩ := act_cells h2
      obtain ⟨_, _, h3⟩ := World.cells?_some h1
      refine ⟨q, hq, ?_, ?_, ?_, ?_⟩
      · simpa [Addr.add] using h3 0 (by omega)
      · simpa using h3 1 (by omega)
      · simpa using h3 2 (by omega)
      · simpa using h3 3 (by omega)
    obtain ⟨g, hg⟩ := choose_lt each
    refine ⟨(List.range len).map g, ⟨⟨some a, cap, by simp, fun hne => ?_⟩, by simp; omega, fun q hq => ?_⟩⟩
    · have hpos : 0 < len := by
        rcases Nat.eq_zero_or_pos len with h0 | h0
        · rw [h0] at hne; simp at hne
        · exact h0
      obtain ⟨b, off, spot⟩ := a
      have hspot : spot = none := by simpa [Addr.add] using World.cell?_spot (hg 0 hpos).2.1
      subst hspot
      refine ⟨b, off, rfl, fun j q hq => ?_⟩
      have hj : j < len := by
        have := (List.getElem?_eq_some_iff.1 hq).1
        simpa using this
      have eq : q = g j := by
        rw [List.getElem?_map, List.getElem?_range hj] at hq
        simpa using hq.symm
      subst eq
      obtain ⟨_, k1, k2, k3, k4⟩ := hg j hj
      simp only [add_plain] at k1 k2 k3 k4
      exact ⟨k1, k2, k3, k4⟩
    · obtain ⟨j, hj, rfl⟩ := List.mem_map.1 hq
      exact (hg j (List.mem_range.1 hj)).1
end Go.Proofs.Ytmoihbpjcdmmbaa
