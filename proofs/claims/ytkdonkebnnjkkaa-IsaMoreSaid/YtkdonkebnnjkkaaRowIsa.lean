/-
  DERIVED. Layer 7's rows: a slice of Smalls that came in.
-/
import Derived.Test.YtkdonkebnnjkkaaRowing
import Derived.Test.YtkdonkebnnjkkaaArr
import Derived.Test.YtkdonkebnnjkkaaIsaPlain
import Derived.Deep.Slices
namespace Go.Proofs.Ytkdonkebnnjkkaa
open Go.ChangeShapes Go.WideShapes Go.RowKit Go.Deep
set_option linter.unusedVariables false

structure Sm where
  op : Int
  dst : Int
  a : Int
  b : Int
  imm : Int
  raw : Bool
instance : Inhabited Sm := ⟨⟨0, 0, 0, 0, 0, false⟩⟩
def Sm.ok (p : Sm) : Prop := ((0 ≤ p.op ∧ p.op ≤ 255) ∧ (0 ≤ p.dst ∧ p.dst ≤ 255) ∧ (0 ≤ p.a ∧ p.a ≤ 255) ∧ (0 ≤ p.b ∧ p.b ≤ 255) ∧ (-32768 ≤ p.imm ∧ p.imm ≤ 32767))
/-- a slice of Smalls that came in -/
structure SArr (w : World) (v : Value) (xs : List Sm) : Prop where
  slice : ∃ ao cap, v = .slice ao xs.length cap ∧ (xs ≠ [] → ∃ b off, ao = some ⟨b, off, none⟩ ∧ ∀ j p, xs[j]? = some p → w.cell? ⟨b, off + j * 6, none⟩ = some (.int .u8 p.op) ∧ w.cell? ⟨b, off + j * 6 + 1, none⟩ = some (.int .u8 p.dst) ∧ w.cell? ⟨b, off + j * 6 + 2, none⟩ = some (.int .u8 p.a) ∧ w.cell? ⟨b, off + j * 6 + 3, none⟩ = some (.int .u8 p.b) ∧ w.cell? ⟨b, off + j * 6 + 4, none⟩ = some (.int .i16 p.imm) ∧ w.cell? ⟨b, off + j * 6 + 5, none⟩ = some (.bool p.raw))
  most : xs.length ≤ maxLen
  bd : ∀ p ∈ xs, p.ok
theorem SArr.ext {w w' : World} {v : Value} {xs : List Sm} (h : SArr w v xs) (hx : Ext w w') : SArr w' v xs := by
  obtain ⟨⟨ao, cap, rfl, h1⟩, h2, h3⟩ := h
  refine ⟨⟨ao, cap, rfl, fun hne => ?_⟩, h2, h3⟩
  obtain ⟨b, off, rfl, hc⟩ := h1 hne
  exact ⟨b, off, rfl, fun j p hj => ⟨hx.old (hc j p hj).1, hx.old (hc j p hj).2.1, hx.old (hc j p hj).2.2.1, hx.old (hc j p hj).2.2.2.1, hx.old (hc j p hj).2.2.2.2.1, hx.old (hc j p hj).2.2.2.2.2⟩⟩
theorem SArr.nth {w : World} {ao : Option Addr} {c : Nat} {xs : List Sm} (h : SArr w (.slice ao xs.length c) xs) (j : Nat) (hj : j < xs.length) : ∃ b off p, ao = some ⟨b, off, none⟩ ∧ xs[j]? = some p ∧ p.ok ∧ w.cell? ⟨b, off + j * 6, none⟩ = some (.int .u8 p.op) ∧ w.cell? ⟨b, off + j * 6 + 1, none⟩ = some (.int .u8 p.dst) ∧ w.cell? ⟨b, off + j * 6 + 2, none⟩ = some (.int .u8 p.a) ∧ w.cell? ⟨b, off + j * 6 + 3, none⟩ = some (.int .u8 p.b) ∧ w.cell? ⟨b, off + j * 6 + 4, none⟩ = some (.int .i16 p.imm) ∧ w.cell? ⟨b, off + j * 6 + 5, none⟩ = some (.bool p.raw) := by
  obtain ⟨⟨ao', c', e, h1⟩, _, hb⟩ := h
  cases e
  obtain ⟨b, off, rfl, hc⟩ := h1 (by intro e; subst e; simp at hj)
  exact ⟨b, off, xs[j], rfl, by simp [hj], hb _ (List.getElem_mem hj), hc j xs[j] (by simp [hj])⟩
theorem cells_int {H : Type} {enc : TypeId × Value → H} {w : World} {base : Nat} {spare : Nat → Bool} {held : Bool} {fuel : Nat} {c : Value} {x : DataW H × List MemPlace} {t : TypeId} {k : IntKind} (ht : Try.prog.underlying t = some (.int k)) (h : DataW.trod enc Try.prog w base spare held fuel t [c] = some x) : ∃ n, c = .int k n ∧ (Lit.int k n).wf = true := by
  obtain ⟨n, e, _, hw⟩ := DataW.trod_int ht h
  exact ⟨n, by simpa using e, hw⟩

theorem cells_bool {H : Type} {enc : TypeId × Value → H} {w : World} {base : Nat} {spare : Nat → Bool} {held : Bool} {fuel : Nat} {c : Value} {x : DataW H × List MemPlace} {t : TypeId} (ht : Try.prog.underlying t = some .bool) (h : DataW.trod enc Try.prog w base spare held fuel t [c] = some x) : ∃ n, c = .bool n := by
  obtain ⟨n, e, _⟩ := DataW.trod_bool ht h
  exact ⟨n, by simpa using e⟩

set_option maxRecDepth 100000 in
theorem sm_cells {H : Type} {enc : TypeId × Value → H} {w : World} {base : Nat} {spare : Nat → Bool} {held : Bool} {fuel : Nat} {cs : List Value} {x : DataW H × List MemPlace} (h : DataW.trod enc Try.prog w base spare held fuel 52 cs = some x) :
    ∃ p : Sm, cs = [.int .u8 p.op, .int .u8 p.dst, .int .u8 p.a, .int .u8 p.b, .int .i16 p.imm, .bool p.raw] ∧ p.ok := by
  obtain ⟨xs, n, _, _, hl, hlen, hf⟩ := DataW.trod_struct Try.underlying52 h
  have hl2 : cs.length = 6 := hl.trans (by kernel_rfl)
  have hlen2 : xs.length = 6 := hlen
  match cs, hl2, xs, hlen2 with
  | [c0, c1, c2, c3, c4, c5], _, [y0, y1, y2, y3, y4, y5], _ =>
    have h0 : DataW.trod enc Try.prog w base spare held n 5 [c0] = some y0 := hf 0 _ rfl
    have h1 : DataW.trod enc Try.prog w base spare held n 5 [c1] = some y1 := hf 1 _ rfl
    have h2 : DataW.trod enc Try.prog w base spare held n 5 [c2] = some y2 := hf 2 _ rfl
    have h3 : DataW.trod enc Try.prog w base spare held n 5 [c3] = some y3 := hf 3 _ rfl
    have h4 : DataW.trod enc Try.prog w base spare held n 47 [c4] = some y4 := hf 4 _ rfl
    have h5 : DataW.trod enc Try.prog w base spare held n 4 [c5] = some y5 := hf 5 _ rfl
    obtain ⟨k0, rfl, w0⟩ := cells_int Try.underlying5 h0
    obtain ⟨k1, rfl, w1⟩ := cells_int Try.underlying5 h1
    obtain ⟨k2, rfl, w2⟩ := cells_int Try.underlying5 h2
    obtain ⟨k3, rfl, w3⟩ := cells_int Try.underlying5 h3
    obtain ⟨k4, rfl, w4⟩ := cells_int Try.underlying47 h4
    obtain ⟨l, rfl⟩ := cells_bool Try.underlying4 h5
    exact ⟨⟨k0, k1, k2, k3, k4, l⟩, rfl, bounds_u8 w0, bounds_u8 w1, bounds_u8 w2, bounds_u8 w3, bounds_i16 w4⟩
theorem openSm {H : Type} {enc : TypeId × Value → H} {w : World} {base : Nat} {spare : Nat → Bool} {held : Bool} {r : Reach} {b0 : Nat} {v : Value} {dt : DataW H} {p : List MemPlace} (hv : Value.okWide Try.prog w r b0 22 v) (h : DataW.Trod enc Try.prog w base spare held 22 v dt p) :
    ∃ xs, SArr w v xs := by
  obtain ⟨a0, len, cap, rfl⟩ := okWide_slice Try.underlying22 hv
  obtain ⟨fuel, hf⟩ := h
  have c6 : Try.prog.cellsOf 52 = 6 := by kernel_rfl
  rcases open_slice Try.underlying22 hf with ⟨hcs, _⟩ | ⟨a, len', cap', m, n, D, Pl, hcs, _, hl, hm, hmm, _, hat⟩
  · simp [Value.cells] at hcs
    obtain ⟨rfl, rfl, rfl⟩ := hcs
    exact ⟨[], ⟨none, 0, rfl, fun h => absurd rfl h⟩, Nat.zero_le _, fun p hp => by cases hp⟩
  · simp [Value.cells] at hcs
    obtain ⟨rfl, rfl, rfl⟩ := hcs
    have hle : len ≤ m := by rw [hmm]; split <;> omega
    have each : ∀ i, i < len → ∃ p : Sm, p.ok ∧ w.cell? (a.add (i * 6)) = some (.int .u8 p.op) ∧ w.cell? ((a.add (i * 6)).add 1) = some (.int .u8 p.dst) ∧ w.cell? ((a.add (i * 6)).add 2) = some (.int .u8 p.a) ∧ w.cell? ((a.add (i * 6)).add 3) = some (.int .u8 p.b) ∧ w.cell? ((a.add (i * 6)).add 4) = some (.int .i16 p.imm) ∧ w.cell? ((a.add (i * 6)).add 5) = some (.bool p.raw) := by
      intro i hi
      obtain ⟨cs', h1, h2⟩ := hat i (by omega)
      rw [c6] at h1
      obtain ⟨q, rfl, hq⟩ := sm_cells h2
      obtain ⟨_, _, h3⟩ := World.cells?_some h1
      refine ⟨q, hq, ?_, ?_, ?_, ?_, ?_, ?_⟩
      · simpa [Addr.add] using h3 0 (by omega)
      · simpa using h3 1 (by omega)
      · simpa using h3 2 (by omega)
      · simpa using h3 3 (by omega)
      · simpa using h3 4 (by omega)
      · simpa using h3 5 (by omega)
    obtain ⟨g, hg⟩ := choose_lt each
    refine ⟨(List.range len).map g, ⟨⟨some a, cap, by simp, fun hne => ?_⟩, by simp; omega, fun q hq => ?_⟩⟩
    · have hpos : 0 < len := by
        rcases Nat.eq_zero_or_pos len with h0 | h0
        · rw [h0] at hne; simp at hne
        · exact h0
      obtain ⟨b, off, spot⟩ := a
      have hspot : spot = none := by simpa [Addr.add] using World.cell?_spot (hg 0 hpos).2.1
      subst hspot
      refine ⟨b, off, rfl, fun j q hq => ?_⟩
      have hj : j < len := by
        have := (List.getElem?_eq_some_iff.1 hq).1
        simpa using this
      have eq : q = g j := by
        rw [List.getElem?_map, List.getElem?_range hj] at hq
        simpa using hq.symm
      subst eq
      obtain ⟨_, k1, k2, k3, k4, k5, k6⟩ := hg j hj
      simp only [add_plain] at k1 k2 k3 k4 k5 k6
      exact ⟨k1, k2, k3, k4, k5, k6⟩
    · obtain ⟨j, hj, rfl⟩ := List.mem_map.1 hq
      exact (hg j (List.mem_range.1 hj)).1
end Go.Proofs.Ytkdonkebnnjkkaa
