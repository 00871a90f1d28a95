/-
  DERIVED. Stage 12's rows: a small vertex, three, vectors (made by mkrowvx.py).
-/
import Derived.Test.YtjohcngmoemmbaaRowing
import Derived.Test.YtjohcngmoemmbaaRowG
import Derived.Test.YtjohcngmoemmbaaVx
namespace Go.Proofs.Ytjohcngmoemmbaa
open Go.ChangeShapes Go.WideShapes Go.RowKit Go.Deep
set_option linter.unusedVariables false
set_option maxRecDepth 100000 in
theorem vxx_cells {H : Type} {enc : TypeId × Value → H} {w : World} {base : Nat} {spare : Nat → Bool} {held : Bool} {fuel : Nat} {cs : List Value} {x0 : DataW H × List MemPlace} (h : DataW.trod enc Try.prog w base spare held fuel 25 cs = some x0) : ∃ v : VSm, cs = v.l ∧ v.ok := by
  obtain ⟨xs, n, _, _, hl, hlen, hf⟩ := DataW.trod_struct Try.underlying25 h
  have hl2 : cs.length = 9 := hl.trans (by kernel_rfl)
  have hlen2 : xs.length = 6 := hlen
  match cs, hl2, xs, hlen2 with
  | [cx, cy, cz, cw, cr, cg, cb, ca, cf], _, [y0, y1, y2, y3, y4, y5], _ =>
    have h0 : DataW.trod enc Try.prog w base spare held n 22 [cx] = some y0 := hf 0 _ rfl
    have h1 : DataW.trod enc Try.prog w base spare held n 22 [cy] = some y1 := hf 1 _ rfl
    have h2 : DataW.trod enc Try.prog w base spare held n 22 [cz] = some y2 := hf 2 _ rfl
    have h3 : DataW.trod enc Try.prog w base spare held n 22 [cw] = some y3 := hf 3 _ rfl
    have h4 : DataW.trod enc Try.prog w base spare held n 23 [cr, cg, cb, ca] = some y4 := hf 4 _ rfl
    have h5 : DataW.trod enc Try.prog w base spare held n 4 [cf] = some y5 := hf 5 _ rfl
    obtain ⟨x, rfl, wx⟩ := g_int Try.underlying22 h0
    obtain ⟨y, rfl, wy⟩ := g_int Try.underlying22 h1
    obtain ⟨z, rfl, wz⟩ := g_int Try.underlying22 h2
    obtain ⟨ww, rfl, www⟩ := g_int Try.underlying22 h3
    obtain ⟨r, rfl, wr⟩ := intsAt_cells (k := .u8) 3 23 n _ _ (by kernel_rfl) h4 cr (by simp)
    obtain ⟨g, rfl, wg⟩ := intsAt_cells (k := .u8) 3 23 n _ _ (by kernel_rfl) h4 cg (by simp)
    obtain ⟨b, rfl, wb⟩ := intsAt_cells (k := .u8) 3 23 n _ _ (by kernel_rfl) h4 cb (by simp)
    obtain ⟨a, rfl, wa⟩ := intsAt_cells (k := .u8) 3 23 n _ _ (by kernel_rfl) h4 ca (by simp)
    obtain ⟨far, rfl⟩ := g_bool Try.underlying4 h5
    exact ⟨⟨x, y, z, ww, r, g, b, a, far⟩, rfl, bounds_i16 wx, bounds_i16 wy, bounds_i16 wz, bounds_i16 www, bounds_u8 wr, bounds_u8 wg, bounds_u8 wb, bounds_u8 wa⟩
set_option maxRecDepth 100000 in
theorem openVx {H : Type} {enc : TypeId × Value → H} {w : World} {base : Nat} {spare : Nat → Bool} {held : Bool} {r : Reach} {b0 : Nat} {v : Value} {dt : DataW H} {p : List MemPlace} (hv : Value.okWide Try.prog w r b0 25 v) (h : DataW.Trod enc Try.prog w base spare held 25 v dt p) : ∃ x : VSm, v = .agg x.l.toArray ∧ x.ok := by
  obtain ⟨cs, rfl, hs⟩ := okWide_struct Try.underlying25 hv
  obtain ⟨fuel, hf⟩ := h
  obtain ⟨x, e, hb⟩ := vxx_cells hf
  refine ⟨x, ?_, hb⟩
  have : cs.toList = x.l := e
  rw [← this]
set_option maxRecDepth 100000 in
theorem openThree {H : Type} {enc : TypeId × Value → H} {w : World} {base : Nat} {spare : Nat → Bool} {held : Bool} {r : Reach} {b0 : Nat} {v : Value} {dt : DataW H} {p : List MemPlace} (hv : Value.okWide Try.prog w r b0 27 v) (h : DataW.Trod enc Try.prog w base spare held 27 v dt p) : ∃ x y z : VSm, v = .agg (x.l ++ (y.l ++ z.l)).toArray ∧ x.ok ∧ y.ok ∧ z.ok := by
  obtain ⟨cs, rfl, hs⟩ := okWide_array Try.underlying27 hv
  obtain ⟨fuel, hf⟩ := h
  obtain ⟨xs, m, _, _, hl, hlen, hfx⟩ := DataW.trod_array Try.underlying27 hf
  have hc : Try.prog.cellsOf 25 = 9 := by kernel_rfl
  have hl2 : cs.toList.length = 27 := hl.trans (by kernel_rfl)
  have hlen2 : xs.length = 3 := hlen
  rw [hc] at hfx
  match xs, hlen2 with
  | [y0, y1, y2], _ =>
    obtain ⟨x, e0, b0⟩ := vxx_cells (x0 := y0) (hfx 0 (by decide))
    obtain ⟨y, e1, b1⟩ := vxx_cells (x0 := y1) (hfx 1 (by decide))
    obtain ⟨z, e2, b2⟩ := vxx_cells (x0 := y2) (hfx 2 (by decide))
    have e0 : cs.toList.take 9 = x.l := e0
    have e1 : (cs.toList.drop 9).take 9 = y.l := e1
    have e2 : (cs.toList.drop 18).take 9 = z.l := e2
    refine ⟨x, y, z, ?_, b0, b1, b2⟩
    have : cs.toList = x.l ++ (y.l ++ z.l) := by
      rw [← e0, ← e1, ← e2]
      have a1 := List.take_append_drop 9 cs.toList
      have a2 := List.take_append_drop 9 (cs.toList.drop 9)
      have a3 : (cs.toList.drop 18).take 9 = cs.toList.drop 18 := List.take_of_length_le (by rw [List.length_drop, hl2]; decide)
      rw [List.drop_drop] at a2
      rw [a3, a2, a1]
    rw [← this]
set_option maxRecDepth 100000 in
theorem openV3 {H : Type} {enc : TypeId × Value → H} {w : World} {base : Nat} {spare : Nat → Bool} {held : Bool} {r : Reach} {b0 : Nat} {v : Value} {dt : DataW H} {p : List MemPlace} (hv : Value.okWide Try.prog w r b0 52 v) (h : DataW.Trod enc Try.prog w base spare held 52 v dt p) :
    ∃ x0 x1 x2 x3 x4 x5 x6 x7 x8 x9 x10 x11 : Int, v = .agg #[.int .i64 x0, .int .i64 x1, .int .i64 x2, .int .i64 x3, .int .i64 x4, .int .i64 x5, .int .i64 x6, .int .i64 x7, .int .i64 x8, .int .i64 x9, .int .i64 x10, .int .i64 x11] ∧ (-9223372036854775808 ≤ x0 ∧ x0 ≤ 9223372036854775807) ∧ (-9223372036854775808 ≤ x1 ∧ x1 ≤ 9223372036854775807) ∧ (-9223372036854775808 ≤ x2 ∧ x2 ≤ 9223372036854775807) ∧ (-9223372036854775808 ≤ x3 ∧ x3 ≤ 9223372036854775807) ∧ (-9223372036854775808 ≤ x4 ∧ x4 ≤ 9223372036854775807) ∧ (-9223372036854775808 ≤ x5 ∧ x5 ≤ 9223372036854775807) ∧ (-9223372036854775808 ≤ x6 ∧ x6 ≤ 9223372036854775807) ∧ (-9223372036854775808 ≤ x7 ∧ x7 ≤ 9223372036854775807) ∧ (-9223372036854775808 ≤ x8 ∧ x8 ≤ 9223372036854775807) ∧ (-9223372036854775808 ≤ x9 ∧ x9 ≤ 9223372036854775807) ∧ (-9223372036854775808 ≤ x10 ∧ x10 ≤ 9223372036854775807) ∧ (-9223372036854775808 ≤ x11 ∧ x11 ≤ 9223372036854775807) := by
  obtain ⟨cs, rfl, hl, hc⟩ := open_ints_agg (k := .i64) (d := 4) (okWide_array Try.underlying52 hv) (by kernel_rfl) h
  have hl' : cs.length = 12 := hl.trans (by kernel_rfl)
  match cs, hl' with
  | [c0, c1, c2, c3, c4, c5, c6, c7, c8, c9, c10, c11], _ =>
    obtain ⟨x0, rfl, wx0⟩ := hc c0 (by simp)
    obtain ⟨x1, rfl, wx1⟩ := hc c1 (by simp)
    obtain ⟨x2, rfl, wx2⟩ := hc c2 (by simp)
    obtain ⟨x3, rfl, wx3⟩ := hc c3 (by simp)
    obtain ⟨x4, rfl, wx4⟩ := hc c4 (by simp)
    obtain ⟨x5, rfl, wx5⟩ := hc c5 (by simp)
    obtain ⟨x6, rfl, wx6⟩ := hc c6 (by simp)
    obtain ⟨x7, rfl, wx7⟩ := hc c7 (by simp)
    obtain ⟨x8, rfl, wx8⟩ := hc c8 (by simp)
    obtain ⟨x9, rfl, wx9⟩ := hc c9 (by simp)
    obtain ⟨x10, rfl, wx10⟩ := hc c10 (by simp)
    obtain ⟨x11, rfl, wx11⟩ := hc c11 (by simp)
    exact ⟨x0, x1, x2, x3, x4, x5, x6, x7, x8, x9, x10, x11, rfl, bounds_i64 wx0, bounds_i64 wx1, bounds_i64 wx2, bounds_i64 wx3, bounds_i64 wx4, bounds_i64 wx5, bounds_i64 wx6, bounds_i64 wx7, bounds_i64 wx8, bounds_i64 wx9, bounds_i64 wx10, bounds_i64 wx11⟩
end Go.Proofs.Ytjohcngmoemmbaa
