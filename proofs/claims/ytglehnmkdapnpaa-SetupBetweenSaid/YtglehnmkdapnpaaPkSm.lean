/-
  DERIVED. azulejolaw13's Small.Tri in plain numbers. · Stage 13's rows: a small triangle, a corner, a triangle, four colours (made by mkrowset.py).
-/
import Derived.Test.YtglehnmkdapnpaaPkSmP
import Derived.Test.YtglehnmkdapnpaaPkSmZ
import Derived.Test.YtglehnmkdapnpaaPkSmN
import Derived.Test.YtglehnmkdapnpaaPkPlain
import Derived.Test.YtglehnmkdapnpaaPkEdgeR
import Derived.Test.YtglehnmkdapnpaaPkVx
namespace Go.Proofs.Ytglehnmkdapnpaa
open Go.RowKit
set_option linter.unusedVariables false
/-- a triangle by small numbers -/
structure S13 where
  (s0 s1 s2 s3 s4 s5 e0 e1 e2 n0 n1 n2 a0 a1 a2 a3 b0 b1 b2 b3 c0 c1 c2 c3 sz : Int)
abbrev S13.l (s : S13) : List Value := [.int .i8 s.s0, .int .i8 s.s1, .int .i8 s.s2, .int .i8 s.s3, .int .i8 s.s4, .int .i8 s.s5, .int .u16 s.e0, .int .u16 s.e1, .int .u16 s.e2, .int .u16 s.n0, .int .u16 s.n1, .int .u16 s.n2, .int .u16 s.a0, .int .u16 s.a1, .int .u16 s.a2, .int .u16 s.a3, .int .u16 s.b0, .int .u16 s.b1, .int .u16 s.b2, .int .u16 s.b3, .int .u16 s.c0, .int .u16 s.c1, .int .u16 s.c2, .int .u16 s.c3, .int .u8 s.sz]
structure S13.ok (s : S13) : Prop where
  s0 : -128 ≤ s.s0 ∧ s.s0 ≤ 127
  s1 : -128 ≤ s.s1 ∧ s.s1 ≤ 127
  s2 : -128 ≤ s.s2 ∧ s.s2 ≤ 127
  s3 : -128 ≤ s.s3 ∧ s.s3 ≤ 127
  s4 : -128 ≤ s.s4 ∧ s.s4 ≤ 127
  s5 : -128 ≤ s.s5 ∧ s.s5 ≤ 127
  e0 : 0 ≤ s.e0 ∧ s.e0 ≤ 65535
  e1 : 0 ≤ s.e1 ∧ s.e1 ≤ 65535
  e2 : 0 ≤ s.e2 ∧ s.e2 ≤ 65535
  n0 : 0 ≤ s.n0 ∧ s.n0 ≤ 65535
  n1 : 0 ≤ s.n1 ∧ s.n1 ≤ 65535
  n2 : 0 ≤ s.n2 ∧ s.n2 ≤ 65535
  a0 : 0 ≤ s.a0 ∧ s.a0 ≤ 65535
  a1 : 0 ≤ s.a1 ∧ s.a1 ≤ 65535
  a2 : 0 ≤ s.a2 ∧ s.a2 ≤ 65535
  a3 : 0 ≤ s.a3 ∧ s.a3 ≤ 65535
  b0 : 0 ≤ s.b0 ∧ s.b0 ≤ 65535
  b1 : 0 ≤ s.b1 ∧ s.b1 ≤ 65535
  b2 : 0 ≤ s.b2 ∧ s.b2 ≤ 65535
  b3 : 0 ≤ s.b3 ∧ s.b3 ≤ 65535
  c0 : 0 ≤ s.c0 ∧ s.c0 ≤ 65535
  c1 : 0 ≤ s.c1 ∧ s.c1 ≤ 65535
  c2 : 0 ≤ s.c2 ∧ s.c2 ≤ 65535
  c3 : 0 ≤ s.c3 ∧ s.c3 ≤ 65535
  sz : 0 ≤ s.sz ∧ s.sz ≤ 255
def S13.k (s : S13) : Int := 1 + s.sz.tmod 4
def S13.raw (s : S13) : Tr := ⟨s.s0 * s.k + 100, s.s1 * s.k + 100, s.s2 * s.k + 100, s.s3 * s.k + 100, s.s4 * s.k + 100, s.s5 * s.k + 100, s.e0, s.e1, s.e2, 1 + s.n0.tmod 1024, 1 + s.n1.tmod 1024, 1 + s.n2.tmod 1024, s.a0, s.a1, s.a2, s.a3, s.b0, s.b1, s.b2, s.b3, s.c0, s.c1, s.c2, s.c3⟩
/-- the last two points exchanged -/
def Tr.swp (t : Tr) : Tr := { t with bx := t.cx, by' := t.cy, cx := t.bx, cy := t.by' }
def S13.tri (s : S13) : Tr := if s.raw.area < 0 then s.raw.swp else s.raw
theorem swp_area (t : Tr) : t.swp.area = - t.area := Edge.side_swap _ _ _ _ _ _
theorem S13.ok.k {s : S13} (h : s.ok) : 1 ≤ s.k ∧ s.k ≤ 4 := by
  have := tm_bd (m := 4) h.sz.1 (by omega)
  unfold S13.k
  omega
theorem mul_k {x k : Int} (hx : -128 ≤ x ∧ x ≤ 127) (hk : 1 ≤ k ∧ k ≤ 4) : -512 ≤ x * k ∧ x * k ≤ 508 := by
  obtain rfl | rfl | rfl | rfl : k = 1 ∨ k = 2 ∨ k = 3 ∨ k = 4 := by omega
  all_goals omega
theorem S13.ok.raw {s : S13} (h : s.ok) : s.raw.rng := by
  have g0 := mul_k h.s0 h.k
  have g1 := mul_k h.s1 h.k
  have g2 := mul_k h.s2 h.k
  have g3 := mul_k h.s3 h.k
  have g4 := mul_k h.s4 h.k
  have g5 := mul_k h.s5 h.k
  have k0 := tm_bd (m := 1024) h.n0.1 (by omega)
  have k1 := tm_bd (m := 1024) h.n1.1 (by omega)
  have k2 := tm_bd (m := 1024) h.n2.1 (by omega)
  have z : (0 : Int) < 1024 := by omega
  unfold Tr.rng S13.raw In
  dsimp only
  refine ⟨⟨?_, ?_, ?_, ?_, ?_, ?_⟩, ⟨h.e0, h.e1, h.e2⟩, ⟨?_, ?_, ?_⟩, ⟨?_, ?_, ?_, ?_⟩, ⟨?_, ?_, ?_, ?_⟩, ⟨?_, ?_, ?_, ?_⟩⟩
  case refine_1 => omega
  case refine_2 => omega
  case refine_3 => omega
  case refine_4 => omega
  case refine_5 => omega
  case refine_6 => omega
  case refine_7 => omega
  case refine_8 => omega
  case refine_9 => omega
  case refine_10 => exact ⟨h.a0.1, Int.le_trans h.a0.2 (by omega)⟩
  case refine_11 => exact ⟨h.a1.1, Int.le_trans h.a1.2 (by omega)⟩
  case refine_12 => exact ⟨h.a2.1, Int.le_trans h.a2.2 (by omega)⟩
  case refine_13 => exact ⟨h.a3.1, Int.le_trans h.a3.2 (by omega)⟩
  case refine_14 => exact ⟨h.b0.1, Int.le_trans h.b0.2 (by omega)⟩
  case refine_15 => exact ⟨h.b1.1, Int.le_trans h.b1.2 (by omega)⟩
  case refine_16 => exact ⟨h.b2.1, Int.le_trans h.b2.2 (by omega)⟩
  case refine_17 => exact ⟨h.b3.1, Int.le_trans h.b3.2 (by omega)⟩
  case refine_18 => exact ⟨h.c0.1, Int.le_trans h.c0.2 (by omega)⟩
  case refine_19 => exact ⟨h.c1.1, Int.le_trans h.c1.2 (by omega)⟩
  case refine_20 => exact ⟨h.c2.1, Int.le_trans h.c2.2 (by omega)⟩
  case refine_21 => exact ⟨h.c3.1, Int.le_trans h.c3.2 (by omega)⟩
theorem swp_rng {t : Tr} (h : t.rng) : t.swp.rng := by
  obtain ⟨⟨p1, p2, p3, p4, p5, p6⟩, q, r, s1, s2, s3⟩ := h
  exact ⟨⟨p1, p2, p5, p6, p3, p4⟩, q, r, s1, s2, s3⟩
theorem S13.ok.tri {s : S13} (h : s.ok) : s.tri.rng := by
  unfold S13.tri
  split
  · exact swp_rng h.raw
  · exact h.raw
theorem S13.tri_area (s : S13) : 0 ≤ s.tri.area := by
  unfold S13.tri
  split
  · rw [swp_area]; omega
  · omega
theorem S13.ok.chk {s : S13} (h : s.ok) (ha : 0 < s.tri.area) : chkT s.tri = 0 := by
  unfold chkT
  rw [if_pos h.tri, if_neg (by omega)]
theorem S13.ok.col {s : S13} (h : s.ok) : In 0 65535 s.tri.a0 ∧ In 0 65535 s.tri.a1 ∧ In 0 65535 s.tri.a2 ∧ In 0 65535 s.tri.a3 ∧ In 0 65535 s.tri.b0 ∧ In 0 65535 s.tri.b1 ∧ In 0 65535 s.tri.b2 ∧ In 0 65535 s.tri.b3 ∧ In 0 65535 s.tri.c0 ∧ In 0 65535 s.tri.c1 ∧ In 0 65535 s.tri.c2 ∧ In 0 65535 s.tri.c3 := by
  unfold S13.tri
  split
  · exact ⟨h.a0, h.a1, h.a2, h.a3, h.b0, h.b1, h.b2, h.b3, h.c0, h.c1, h.c2, h.c3⟩
  · exact ⟨h.a0, h.a1, h.a2, h.a3, h.b0, h.b1, h.b2, h.b3, h.c0, h.c1, h.c2, h.c3⟩
set_option maxRecDepth 100000 in
set_option maxHeartbeats 4000000 in
theorem small13_any (s : S13) (h : s.ok) (w : World) :
    Calls Try.prog 18 #[.agg s.l.toArray] w fun e w' => e = .returned (.tuple #[.agg s.tri.l.toArray, .bool (decide (0 < s.tri.area))]) ∧ Ext w w' := by
  have hk := h.k
  have hsz := h.sz
  have g0 := mul_k h.s0 hk
  have g1 := mul_k h.s1 hk
  have g2 := mul_k h.s2 hk
  have g3 := mul_k h.s3 hk
  have g4 := mul_k h.s4 hk
  have g5 := mul_k h.s5 hk
  have hA : ∀ u : World, Calls Try.prog 37 #[.agg #[.int .i64 (s.s0 * s.k + 100), .int .i64 (s.s1 * s.k + 100), .int .i64 (s.s2 * s.k + 100), .int .i64 (s.s3 * s.k + 100), .int .i64 (s.s4 * s.k + 100), .int .i64 (s.s5 * s.k + 100)]] u fun e w' => e = .returned (.int .i64 s.raw.area) ∧ Ext u w' := fun u =>
    (area_any (s.s0 * s.k + 100) (s.s1 * s.k + 100) (s.s2 * s.k + 100) (s.s3 * s.k + 100) (s.s4 * s.k + 100) (s.s5 * s.k + 100) (by omega) (by omega) (by omega) (by omega) (by omega) (by omega) u).mono fun e w' h => ⟨h.1, h.2⟩
  have hz : (0 : Int) < 1024 := by omega
  rcases Int.lt_trichotomy s.raw.area 0 with hs | hs | hs
  · have e1 : s.tri = s.raw.swp := by unfold S13.tri; rw [if_pos hs]
    have e2 : decide (0 < s.tri.area) = true := by rw [e1, swp_area]; simp only [decide_eq_true_eq]; omega
    rw [e2, e1]
    have hB : ∀ u : World, Calls Try.prog 37 #[.agg #[.int .i64 (s.s0 * s.k + 100), .int .i64 (s.s1 * s.k + 100), .int .i64 (s.s4 * s.k + 100), .int .i64 (s.s5 * s.k + 100), .int .i64 (s.s2 * s.k + 100), .int .i64 (s.s3 * s.k + 100)]] u fun e w' => e = .returned (.int .i64 (-s.raw.area)) ∧ Ext u w' := fun u =>
      (area_any (s.s0 * s.k + 100) (s.s1 * s.k + 100) (s.s4 * s.k + 100) (s.s5 * s.k + 100) (s.s2 * s.k + 100) (s.s3 * s.k + 100) (by omega) (by omega) (by omega) (by omega) (by omega) (by omega) u).mono fun e w' h => ⟨h.1.trans (by rw [← swp_area]; rfl), h.2⟩
    have hT := fun u => turnedT_any (s.s0 * s.k + 100) (s.s1 * s.k + 100) (s.s2 * s.k + 100) (s.s3 * s.k + 100) (s.s4 * s.k + 100) (s.s5 * s.k + 100) (by omega) (by omega) (by omega) (by omega) (by omega) (by omega) u
    exact smallT_neg s.s0 s.s1 s.s2 s.s3 s.s4 s.s5 s.e0 s.e1 s.e2 s.n0 s.n1 s.n2 s.a0 s.a1 s.a2 s.a3 s.b0 s.b1 s.b2 s.b3 s.c0 s.c1 s.c2 s.c3 s.sz s.k (s.sz.tmod 4) (s.s0 * s.k) (s.s1 * s.k) (s.s2 * s.k) (s.s3 * s.k) (s.s4 * s.k) (s.s5 * s.k) (s.n0.tmod 1024) (s.n1.tmod 1024) (s.n2.tmod 1024) s.raw.area h.s0 h.s1 h.s2 h.s3 h.s4 h.s5 h.e0 h.e1 h.e2 h.n0 h.n1 h.n2 h.a0 h.a1 h.a2 h.a3 h.b0 h.b1 h.b2 h.b3 h.c0 h.c1 h.c2 h.c3 h.sz rfl rfl hk rfl (by omega) rfl (by omega) rfl (by omega) rfl (by omega) rfl (by omega) rfl (by omega) rfl (by have := tm_bd (m := 1024) h.n0.1 (by omega); omega) rfl (by have := tm_bd (m := 1024) h.n1.1 (by omega); omega) rfl (by have := tm_bd (m := 1024) h.n2.1 (by omega); omega) hA hs hB hT w
  · have e1 : s.tri = s.raw := by unfold S13.tri; rw [if_neg (by omega)]
    have e2 : decide (0 < s.tri.area) = false := by rw [e1]; simp only [decide_eq_false_iff_not]; omega
    rw [e2, e1]
    exact smallT_zero s.s0 s.s1 s.s2 s.s3 s.s4 s.s5 s.e0 s.e1 s.e2 s.n0 s.n1 s.n2 s.a0 s.a1 s.a2 s.a3 s.b0 s.b1 s.b2 s.b3 s.c0 s.c1 s.c2 s.c3 s.sz s.k (s.sz.tmod 4) (s.s0 * s.k) (s.s1 * s.k) (s.s2 * s.k) (s.s3 * s.k) (s.s4 * s.k) (s.s5 * s.k) (s.n0.tmod 1024) (s.n1.tmod 1024) (s.n2.tmod 1024) s.raw.area h.s0 h.s1 h.s2 h.s3 h.s4 h.s5 h.e0 h.e1 h.e2 h.n0 h.n1 h.n2 h.a0 h.a1 h.a2 h.a3 h.b0 h.b1 h.b2 h.b3 h.c0 h.c1 h.c2 h.c3 h.sz rfl rfl hk rfl (by omega) rfl (by omega) rfl (by omega) rfl (by omega) rfl (by omega) rfl (by omega) rfl (by have := tm_bd (m := 1024) h.n0.1 (by omega); omega) rfl (by have := tm_bd (m := 1024) h.n1.1 (by omega); omega) rfl (by have := tm_bd (m := 1024) h.n2.1 (by omega); omega) hA hs w
  · have e1 : s.tri = s.raw := by unfold S13.tri; rw [if_neg (by omega)]
    have e2 : decide (0 < s.tri.area) = true := by rw [e1]; simp only [decide_eq_true_eq]; omega
    rw [e2, e1]
    exact smallT_pos s.s0 s.s1 s.s2 s.s3 s.s4 s.s5 s.e0 s.e1 s.e2 s.n0 s.n1 s.n2 s.a0 s.a1 s.a2 s.a3 s.b0 s.b1 s.b2 s.b3 s.c0 s.c1 s.c2 s.c3 s.sz s.k (s.sz.tmod 4) (s.s0 * s.k) (s.s1 * s.k) (s.s2 * s.k) (s.s3 * s.k) (s.s4 * s.k) (s.s5 * s.k) (s.n0.tmod 1024) (s.n1.tmod 1024) (s.n2.tmod 1024) s.raw.area h.s0 h.s1 h.s2 h.s3 h.s4 h.s5 h.e0 h.e1 h.e2 h.n0 h.n1 h.n2 h.a0 h.a1 h.a2 h.a3 h.b0 h.b1 h.b2 h.b3 h.c0 h.c1 h.c2 h.c3 h.sz rfl rfl hk rfl (by omega) rfl (by omega) rfl (by omega) rfl (by omega) rfl (by omega) rfl (by omega) rfl (by have := tm_bd (m := 1024) h.n0.1 (by omega); omega) rfl (by have := tm_bd (m := 1024) h.n1.1 (by omega); omega) rfl (by have := tm_bd (m := 1024) h.n2.1 (by omega); omega) hA hs w
end Go.Proofs.Ytglehnmkdapnpaa

namespace Go.Proofs.Ytglehnmkdapnpaa
open Go.ChangeShapes Go.WideShapes Go.RowKit
set_option linter.unusedVariables false
theorem st13_int {H : Type} {enc : TypeId × Value → H} {w : World} {base : Nat} {spare : Nat → Bool} {held : Bool} {fuel : Nat} {c : Value} {x : DataW H × List MemPlace} {t : TypeId} {k : IntKind} (ht : Try.prog.underlying t = some (.int k)) (h : DataW.trod enc Try.prog w base spare held fuel t [c] = some x) : ∃ n, c = .int k n ∧ (Lit.int k n).wf = true := by
  obtain ⟨n, e, _, hw⟩ := DataW.trod_int ht h
  exact ⟨n, by simpa using e, hw⟩
theorem st13_bool {H : Type} {enc : TypeId × Value → H} {w : World} {base : Nat} {spare : Nat → Bool} {held : Bool} {fuel : Nat} {c : Value} {x : DataW H × List MemPlace} {t : TypeId} (ht : Try.prog.underlying t = some .bool) (h : DataW.trod enc Try.prog w base spare held fuel t [c] = some x) : ∃ n, c = .bool n := by
  obtain ⟨n, e, _⟩ := DataW.trod_bool ht h
  exact ⟨n, by simpa using e⟩
set_option maxRecDepth 100000 in
theorem openCn8 {H : Type} {enc : TypeId × Value → H} {w : World} {base : Nat} {spare : Nat → Bool} {held : Bool} {r : Reach} {b0 : Nat} {v : Value} {dt : DataW H} {p : List MemPlace} (hv : Value.okWide Try.prog w r b0 59 v) (h : DataW.Trod enc Try.prog w base spare held 59 v dt p) :
    ∃ x0 x1 x2 x3 x4 x5 x6 x7 : Int, v = .agg #[.int .i64 x0, .int .i64 x1, .int .i64 x2, .int .i64 x3, .int .i64 x4, .int .i64 x5, .int .i64 x6, .int .i64 x7] ∧ (-9223372036854775808 ≤ x0 ∧ x0 ≤ 9223372036854775807) ∧ (-9223372036854775808 ≤ x1 ∧ x1 ≤ 9223372036854775807) ∧ (-9223372036854775808 ≤ x2 ∧ x2 ≤ 9223372036854775807) ∧ (-9223372036854775808 ≤ x3 ∧ x3 ≤ 9223372036854775807) ∧ (-9223372036854775808 ≤ x4 ∧ x4 ≤ 9223372036854775807) ∧ (-9223372036854775808 ≤ x5 ∧ x5 ≤ 9223372036854775807) ∧ (-9223372036854775808 ≤ x6 ∧ x6 ≤ 9223372036854775807) ∧ (-9223372036854775808 ≤ x7 ∧ x7 ≤ 9223372036854775807) := by
  obtain ⟨cs, rfl, hl, hc⟩ := open_ints_agg (k := .i64) (d := 3) (okWide_struct Try.underlying59 hv) (by kernel_rfl) h
  have hl' : cs.length = 8 := hl.trans (by kernel_rfl)
  match cs, hl' with
  | [c0, c1, c2, c3, c4, c5, c6, c7], _ =>
    obtain ⟨x0, rfl, wx0⟩ := hc c0 (by simp)
    obtain ⟨x1, rfl, wx1⟩ := hc c1 (by simp)
    obtain ⟨x2, rfl, wx2⟩ := hc c2 (by simp)
    obtain ⟨x3, rfl, wx3⟩ := hc c3 (by simp)
    obtain ⟨x4, rfl, wx4⟩ := hc c4 (by simp)
    obtain ⟨x5, rfl, wx5⟩ := hc c5 (by simp)
    obtain ⟨x6, rfl, wx6⟩ := hc c6 (by simp)
    obtain ⟨x7, rfl, wx7⟩ := hc c7 (by simp)
    exact ⟨x0, x1, x2, x3, x4, x5, x6, x7, rfl, bounds_i64 wx0, bounds_i64 wx1, bounds_i64 wx2, bounds_i64 wx3, bounds_i64 wx4, bounds_i64 wx5, bounds_i64 wx6, bounds_i64 wx7⟩
set_option maxRecDepth 100000 in
theorem openCn {H : Type} {enc : TypeId × Value → H} {w : World} {base : Nat} {spare : Nat → Bool} {held : Bool} {r : Reach} {b0 : Nat} {v : Value} {dt : DataW H} {p : List MemPlace} (hv : Value.okWide Try.prog w r b0 59 v) (h : DataW.Trod enc Try.prog w base spare held 59 v dt p) : ∃ c : Cn, v = .agg c.l.toArray ∧ c.in64 := by
  obtain ⟨x0, x1, x2, x3, x4, x5, x6, x7, rfl, hb⟩ := openCn8 hv h
  exact ⟨⟨x0, x1, x2, x3, x4, x5, x6, x7⟩, rfl, hb⟩
set_option maxRecDepth 100000 in
theorem openTr24 {H : Type} {enc : TypeId × Value → H} {w : World} {base : Nat} {spare : Nat → Bool} {held : Bool} {r : Reach} {b0 : Nat} {v : Value} {dt : DataW H} {p : List MemPlace} (hv : Value.okWide Try.prog w r b0 55 v) (h : DataW.Trod enc Try.prog w base spare held 55 v dt p) :
    ∃ x0 x1 x2 x3 x4 x5 x6 x7 x8 x9 x10 x11 x12 x13 x14 x15 x16 x17 x18 x19 x20 x21 x22 x23 : Int, v = .agg #[.int .i64 x0, .int .i64 x1, .int .i64 x2, .int .i64 x3, .int .i64 x4, .int .i64 x5, .int .i64 x6, .int .i64 x7, .int .i64 x8, .int .i64 x9, .int .i64 x10, .int .i64 x11, .int .i64 x12, .int .i64 x13, .int .i64 x14, .int .i64 x15, .int .i64 x16, .int .i64 x17, .int .i64 x18, .int .i64 x19, .int .i64 x20, .int .i64 x21, .int .i64 x22, .int .i64 x23] ∧ (-9223372036854775808 ≤ x0 ∧ x0 ≤ 9223372036854775807) ∧ (-9223372036854775808 ≤ x1 ∧ x1 ≤ 9223372036854775807) ∧ (-9223372036854775808 ≤ x2 ∧ x2 ≤ 9223372036854775807) ∧ (-9223372036854775808 ≤ x3 ∧ x3 ≤ 9223372036854775807) ∧ (-9223372036854775808 ≤ x4 ∧ x4 ≤ 9223372036854775807) ∧ (-9223372036854775808 ≤ x5 ∧ x5 ≤ 9223372036854775807) ∧ (-9223372036854775808 ≤ x6 ∧ x6 ≤ 9223372036854775807) ∧ (-9223372036854775808 ≤ x7 ∧ x7 ≤ 9223372036854775807) ∧ (-9223372036854775808 ≤ x8 ∧ x8 ≤ 9223372036854775807) ∧ (-9223372036854775808 ≤ x9 ∧ x9 ≤ 9223372036854775807) ∧ (-9223372036854775808 ≤ x10 ∧ x10 ≤ 9223372036854775807) ∧ (-9223372036854775808 ≤ x11 ∧ x11 ≤ 9223372036854775807) ∧ (-9223372036854775808 ≤ x12 ∧ x12 ≤ 9223372036854775807) ∧ (-9223372036854775808 ≤ x13 ∧ x13 ≤ 9223372036854775807) ∧ (-9223372036854775808 ≤ x14 ∧ x14 ≤ 9223372036854775807) ∧ (-9223372036854775808 ≤ x15 ∧ x15 ≤ 9223372036854775807) ∧ (-9223372036854775808 ≤ x16 ∧ x16 ≤ 9223372036854775807) ∧ (-9223372036854775808 ≤ x17 ∧ x17 ≤ 9223372036854775807) ∧ (-9223372036854775808 ≤ x18 ∧ x18 ≤ 9223372036854775807) ∧ (-9223372036854775808 ≤ x19 ∧ x19 ≤ 9223372036854775807) ∧ (-9223372036854775808 ≤ x20 ∧ x20 ≤ 9223372036854775807) ∧ (-9223372036854775808 ≤ x21 ∧ x21 ≤ 9223372036854775807) ∧ (-9223372036854775808 ≤ x22 ∧ x22 ≤ 9223372036854775807) ∧ (-9223372036854775808 ≤ x23 ∧ x23 ≤ 9223372036854775807) := by
  obtain ⟨cs, rfl, hl, hc⟩ := open_ints_agg (k := .i64) (d := 5) (okWide_struct Try.underlying55 hv) (by kernel_rfl) h
  have hl' : cs.length = 24 := hl.trans (by kernel_rfl)
  match cs, hl' with
  | [c0, c1, c2, c3, c4, c5, c6, c7, c8, c9, c10, c11, c12, c13, c14, c15, c16, c17, c18, c19, c20, c21, c22, c23], _ =>
    obtain ⟨x0, rfl, wx0⟩ := hc c0 (by simp)
    obtain ⟨x1, rfl, wx1⟩ := hc c1 (by simp)
    obtain ⟨x2, rfl, wx2⟩ := hc c2 (by simp)
    obtain ⟨x3, rfl, wx3⟩ := hc c3 (by simp)
    obtain ⟨x4, rfl, wx4⟩ := hc c4 (by simp)
    obtain ⟨x5, rfl, wx5⟩ := hc c5 (by simp)
    obtain ⟨x6, rfl, wx6⟩ := hc c6 (by simp)
    obtain ⟨x7, rfl, wx7⟩ := hc c7 (by simp)
    obtain ⟨x8, rfl, wx8⟩ := hc c8 (by simp)
    obtain ⟨x9, rfl, wx9⟩ := hc c9 (by simp)
    obtain ⟨x10, rfl, wx10⟩ := hc c10 (by simp)
    obtain ⟨x11, rfl, wx11⟩ := hc c11 (by simp)
    obtain ⟨x12, rfl, wx12⟩ := hc c12 (by simp)
    obtain ⟨x13, rfl, wx13⟩ := hc c13 (by simp)
    obtain ⟨x14, rfl, wx14⟩ := hc c14 (by simp)
    obtain ⟨x15, rfl, wx15⟩ := hc c15 (by simp)
    obtain ⟨x16, rfl, wx16⟩ := hc c16 (by simp)
    obtain ⟨x17, rfl, wx17⟩ := hc c17 (by simp)
    obtain ⟨x18, rfl, wx18⟩ := hc c18 (by simp)
    obtain ⟨x19, rfl, wx19⟩ := hc c19 (by simp)
    obtain ⟨x20, rfl, wx20⟩ := hc c20 (by simp)
    obtain ⟨x21, rfl, wx21⟩ := hc c21 (by simp)
    obtain ⟨x22, rfl, wx22⟩ := hc c22 (by simp)
    obtain ⟨x23, rfl, wx23⟩ := hc c23 (by simp)
    exact ⟨x0, x1, x2, x3, x4, x5, x6, x7, x8, x9, x10, x11, x12, x13, x14, x15, x16, x17, x18, x19, x20, x21, x22, x23, rfl, bounds_i64 wx0, bounds_i64 wx1, bounds_i64 wx2, bounds_i64 wx3, bounds_i64 wx4, bounds_i64 wx5, bounds_i64 wx6, bounds_i64 wx7, bounds_i64 wx8, bounds_i64 wx9, bounds_i64 wx10, bounds_i64 wx11, bounds_i64 wx12, bounds_i64 wx13, bounds_i64 wx14, bounds_i64 wx15, bounds_i64 wx16, bounds_i64 wx17, bounds_i64 wx18, bounds_i64 wx19, bounds_i64 wx20, bounds_i64 wx21, bounds_i64 wx22, bounds_i64 wx23⟩
set_option maxRecDepth 100000 in
theorem openTrS {H : Type} {enc : TypeId × Value → H} {w : World} {base : Nat} {spare : Nat → Bool} {held : Bool} {r : Reach} {b0 : Nat} {v : Value} {dt : DataW H} {p : List MemPlace} (hv : Value.okWide Try.prog w r b0 55 v) (h : DataW.Trod enc Try.prog w base spare held 55 v dt p) : ∃ c : Tr, v = .agg c.l.toArray ∧ c.in64 := by
  obtain ⟨x0, x1, x2, x3, x4, x5, x6, x7, x8, x9, x10, x11, x12, x13, x14, x15, x16, x17, x18, x19, x20, x21, x22, x23, rfl, hb⟩ := openTr24 hv h
  exact ⟨⟨x0, x1, x2, x3, x4, x5, x6, x7, x8, x9, x10, x11, x12, x13, x14, x15, x16, x17, x18, x19, x20, x21, x22, x23⟩, rfl, hb⟩
set_option maxRecDepth 100000 in
theorem openU4 {H : Type} {enc : TypeId × Value → H} {w : World} {base : Nat} {spare : Nat → Bool} {held : Bool} {r : Reach} {b0 : Nat} {v : Value} {dt : DataW H} {p : List MemPlace} (hv : Value.okWide Try.prog w r b0 72 v) (h : DataW.Trod enc Try.prog w base spare held 72 v dt p) :
    ∃ x0 x1 x2 x3 : Int, v = .agg #[.int .u16 x0, .int .u16 x1, .int .u16 x2, .int .u16 x3] ∧ (0 ≤ x0 ∧ x0 ≤ 65535) ∧ (0 ≤ x1 ∧ x1 ≤ 65535) ∧ (0 ≤ x2 ∧ x2 ≤ 65535) ∧ (0 ≤ x3 ∧ x3 ≤ 65535) := by
  obtain ⟨cs, rfl, hl, hc⟩ := open_ints_agg (k := .u16) (d := 3) (okWide_array Try.underlying72 hv) (by kernel_rfl) h
  have hl' : cs.length = 4 := hl.trans (by kernel_rfl)
  match cs, hl' with
  | [c0, c1, c2, c3], _ =>
    obtain ⟨x0, rfl, wx0⟩ := hc c0 (by simp)
    obtain ⟨x1, rfl, wx1⟩ := hc c1 (by simp)
    obtain ⟨x2, rfl, wx2⟩ := hc c2 (by simp)
    obtain ⟨x3, rfl, wx3⟩ := hc c3 (by simp)
    exact ⟨x0, x1, x2, x3, rfl, bounds_u16 wx0, bounds_u16 wx1, bounds_u16 wx2, bounds_u16 wx3⟩
set_option maxRecDepth 100000 in
theorem sm13_cells {H : Type} {enc : TypeId × Value → H} {w : World} {base : Nat} {spare : Nat → Bool} {held : Bool} {fuel : Nat} {cs : List Value} {x : DataW H × List MemPlace} (h : DataW.trod enc Try.prog w base spare held fuel 75 cs = some x) :
    ∃ (s0 : Int) (s1 : Int) (s2 : Int) (s3 : Int) (s4 : Int) (s5 : Int) (e0 : Int) (e1 : Int) (e2 : Int) (n0 : Int) (n1 : Int) (n2 : Int) (a0 : Int) (a1 : Int) (a2 : Int) (a3 : Int) (b0 : Int) (b1 : Int) (b2 : Int) (b3 : Int) (c0 : Int) (c1 : Int) (c2 : Int) (c3 : Int) (sz : Int), cs = [.int .i8 s0, .int .i8 s1, .int .i8 s2, .int .i8 s3, .int .i8 s4, .int .i8 s5, .int .u16 e0, .int .u16 e1, .int .u16 e2, .int .u16 n0, .int .u16 n1, .int .u16 n2, .int .u16 a0, .int .u16 a1, .int .u16 a2, .int .u16 a3, .int .u16 b0, .int .u16 b1, .int .u16 b2, .int .u16 b3, .int .u16 c0, .int .u16 c1, .int .u16 c2, .int .u16 c3, .int .u8 sz] ∧ (-128 ≤ s0 ∧ s0 ≤ 127) ∧ (-128 ≤ s1 ∧ s1 ≤ 127) ∧ (-128 ≤ s2 ∧ s2 ≤ 127) ∧ (-128 ≤ s3 ∧ s3 ≤ 127) ∧ (-128 ≤ s4 ∧ s4 ≤ 127) ∧ (-128 ≤ s5 ∧ s5 ≤ 127) ∧ (0 ≤ e0 ∧ e0 ≤ 65535) ∧ (0 ≤ e1 ∧ e1 ≤ 65535) ∧ (0 ≤ e2 ∧ e2 ≤ 65535) ∧ (0 ≤ n0 ∧ n0 ≤ 65535) ∧ (0 ≤ n1 ∧ n1 ≤ 65535) ∧ (0 ≤ n2 ∧ n2 ≤ 65535) ∧ (0 ≤ a0 ∧ a0 ≤ 65535) ∧ (0 ≤ a1 ∧ a1 ≤ 65535) ∧ (0 ≤ a2 ∧ a2 ≤ 65535) ∧ (0 ≤ a3 ∧ a3 ≤ 65535) ∧ (0 ≤ b0 ∧ b0 ≤ 65535) ∧ (0 ≤ b1 ∧ b1 ≤ 65535) ∧ (0 ≤ b2 ∧ b2 ≤ 65535) ∧ (0 ≤ b3 ∧ b3 ≤ 65535) ∧ (0 ≤ c0 ∧ c0 ≤ 65535) ∧ (0 ≤ c1 ∧ c1 ≤ 65535) ∧ (0 ≤ c2 ∧ c2 ≤ 65535) ∧ (0 ≤ c3 ∧ c3 ≤ 65535) ∧ (0 ≤ sz ∧ sz ≤ 255) := by
  obtain ⟨xs, n, _, _, hl, hlen, hf⟩ := DataW.trod_struct Try.underlying75 h
  have hl2 : cs.length = 25 := hl.trans (by kernel_rfl)
  have hlen2 : xs.length = 5 := hlen
  match cs, hl2, xs, hlen2 with
  | [cs0, cs1, cs2, cs3, cs4, cs5, ce0, ce1, ce2, cn0, cn1, cn2, ca0, ca1, ca2, ca3, cb0, cb1, cb2, cb3, cc0, cc1, cc2, cc3, csz], _, [y0, y1, y2, y3, y4], _ =>
    have h0 : DataW.trod enc Try.prog w base spare held n 69 [cs0, cs1, cs2, cs3, cs4, cs5] = some y0 := hf 0 _ rfl
    have h1 : DataW.trod enc Try.prog w base spare held n 71 [ce0, ce1, ce2] = some y1 := hf 1 _ rfl
    have h2 : DataW.trod enc Try.prog w base spare held n 71 [cn0, cn1, cn2] = some y2 := hf 2 _ rfl
    have h3 : DataW.trod enc Try.prog w base spare held n 73 [ca0, ca1, ca2, ca3, cb0, cb1, cb2, cb3, cc0, cc1, cc2, cc3] = some y3 := hf 3 _ rfl
    have h4 : DataW.trod enc Try.prog w base spare held n 5 [csz] = some y4 := hf 4 _ rfl
    obtain ⟨s0, rfl, ws0⟩ := intsAt_cells (k := .i8) 4 69 n _ _ (by kernel_rfl) h0 cs0 (by simp)
    obtain ⟨s1, rfl, ws1⟩ := intsAt_cells (k := .i8) 4 69 n _ _ (by kernel_rfl) h0 cs1 (by simp)
    obtain ⟨s2, rfl, ws2⟩ := intsAt_cells (k := .i8) 4 69 n _ _ (by kernel_rfl) h0 cs2 (by simp)
    obtain ⟨s3, rfl, ws3⟩ := intsAt_cells (k := .i8) 4 69 n _ _ (by kernel_rfl) h0 cs3 (by simp)
    obtain ⟨s4, rfl, ws4⟩ := intsAt_cells (k := .i8) 4 69 n _ _ (by kernel_rfl) h0 cs4 (by simp)
    obtain ⟨s5, rfl, ws5⟩ := intsAt_cells (k := .i8) 4 69 n _ _ (by kernel_rfl) h0 cs5 (by simp)
    obtain ⟨e0, rfl, we0⟩ := intsAt_cells (k := .u16) 3 71 n _ _ (by kernel_rfl) h1 ce0 (by simp)
    obtain ⟨e1, rfl, we1⟩ := intsAt_cells (k := .u16) 3 71 n _ _ (by kernel_rfl) h1 ce1 (by simp)
    obtain ⟨e2, rfl, we2⟩ := intsAt_cells (k := .u16) 3 71 n _ _ (by kernel_rfl) h1 ce2 (by simp)
    obtain ⟨n0, rfl, wn0⟩ := intsAt_cells (k := .u16) 3 71 n _ _ (by kernel_rfl) h2 cn0 (by simp)
    obtain ⟨n1, rfl, wn1⟩ := intsAt_cells (k := .u16) 3 71 n _ _ (by kernel_rfl) h2 cn1 (by simp)
    obtain ⟨n2, rfl, wn2⟩ := intsAt_cells (k := .u16) 3 71 n _ _ (by kernel_rfl) h2 cn2 (by simp)
    obtain ⟨a0, rfl, wa0⟩ := intsAt_cells (k := .u16) 4 73 n _ _ (by kernel_rfl) h3 ca0 (by simp)
    obtain ⟨a1, rfl, wa1⟩ := intsAt_cells (k := .u16) 4 73 n _ _ (by kernel_rfl) h3 ca1 (by simp)
    obtain ⟨a2, rfl, wa2⟩ := intsAt_cells (k := .u16) 4 73 n _ _ (by kernel_rfl) h3 ca2 (by simp)
    obtain ⟨a3, rfl, wa3⟩ := intsAt_cells (k := .u16) 4 73 n _ _ (by kernel_rfl) h3 ca3 (by simp)
    obtain ⟨b0, rfl, wb0⟩ := intsAt_cells (k := .u16) 4 73 n _ _ (by kernel_rfl) h3 cb0 (by simp)
    obtain ⟨b1, rfl, wb1⟩ := intsAt_cells (k := .u16) 4 73 n _ _ (by kernel_rfl) h3 cb1 (by simp)
    obtain ⟨b2, rfl, wb2⟩ := intsAt_cells (k := .u16) 4 73 n _ _ (by kernel_rfl) h3 cb2 (by simp)
    obtain ⟨b3, rfl, wb3⟩ := intsAt_cells (k := .u16) 4 73 n _ _ (by kernel_rfl) h3 cb3 (by simp)
    obtain ⟨c0, rfl, wc0⟩ := intsAt_cells (k := .u16) 4 73 n _ _ (by kernel_rfl) h3 cc0 (by simp)
    obtain ⟨c1, rfl, wc1⟩ := intsAt_cells (k := .u16) 4 73 n _ _ (by kernel_rfl) h3 cc1 (by simp)
    obtain ⟨c2, rfl, wc2⟩ := intsAt_cells (k := .u16) 4 73 n _ _ (by kernel_rfl) h3 cc2 (by simp)
    obtain ⟨c3, rfl, wc3⟩ := intsAt_cells (k := .u16) 4 73 n _ _ (by kernel_rfl) h3 cc3 (by simp)
    obtain ⟨sz, rfl, wsz⟩ := st13_int Try.underlying5 h4
    exact ⟨s0, s1, s2, s3, s4, s5, e0, e1, e2, n0, n1, n2, a0, a1, a2, a3, b0, b1, b2, b3, c0, c1, c2, c3, sz, rfl, bounds_i8 ws0, bounds_i8 ws1, bounds_i8 ws2, bounds_i8 ws3, bounds_i8 ws4, bounds_i8 ws5, bounds_u16 we0, bounds_u16 we1, bounds_u16 we2, bounds_u16 wn0, bounds_u16 wn1, bounds_u16 wn2, bounds_u16 wa0, bounds_u16 wa1, bounds_u16 wa2, bounds_u16 wa3, bounds_u16 wb0, bounds_u16 wb1, bounds_u16 wb2, bounds_u16 wb3, bounds_u16 wc0, bounds_u16 wc1, bounds_u16 wc2, bounds_u16 wc3, bounds_u8 wsz⟩
set_option maxRecDepth 100000 in
theorem openS13v {H : Type} {enc : TypeId × Value → H} {w : World} {base : Nat} {spare : Nat → Bool} {held : Bool} {r : Reach} {b0 : Nat} {v : Value} {dt : DataW H} {p : List MemPlace} (hv : Value.okWide Try.prog w r b0 75 v) (h : DataW.Trod enc Try.prog w base spare held 75 v dt p) :
    ∃ (s0 : Int) (s1 : Int) (s2 : Int) (s3 : Int) (s4 : Int) (s5 : Int) (e0 : Int) (e1 : Int) (e2 : Int) (n0 : Int) (n1 : Int) (n2 : Int) (a0 : Int) (a1 : Int) (a2 : Int) (a3 : Int) (b0 : Int) (b1 : Int) (b2 : Int) (b3 : Int) (c0 : Int) (c1 : Int) (c2 : Int) (c3 : Int) (sz : Int), v = .agg #[.int .i8 s0, .int .i8 s1, .int .i8 s2, .int .i8 s3, .int .i8 s4, .int .i8 s5, .int .u16 e0, .int .u16 e1, .int .u16 e2, .int .u16 n0, .int .u16 n1, .int .u16 n2, .int .u16 a0, .int .u16 a1, .int .u16 a2, .int .u16 a3, .int .u16 b0, .int .u16 b1, .int .u16 b2, .int .u16 b3, .int .u16 c0, .int .u16 c1, .int .u16 c2, .int .u16 c3, .int .u8 sz] ∧ (-128 ≤ s0 ∧ s0 ≤ 127) ∧ (-128 ≤ s1 ∧ s1 ≤ 127) ∧ (-128 ≤ s2 ∧ s2 ≤ 127) ∧ (-128 ≤ s3 ∧ s3 ≤ 127) ∧ (-128 ≤ s4 ∧ s4 ≤ 127) ∧ (-128 ≤ s5 ∧ s5 ≤ 127) ∧ (0 ≤ e0 ∧ e0 ≤ 65535) ∧ (0 ≤ e1 ∧ e1 ≤ 65535) ∧ (0 ≤ e2 ∧ e2 ≤ 65535) ∧ (0 ≤ n0 ∧ n0 ≤ 65535) ∧ (0 ≤ n1 ∧ n1 ≤ 65535) ∧ (0 ≤ n2 ∧ n2 ≤ 65535) ∧ (0 ≤ a0 ∧ a0 ≤ 65535) ∧ (0 ≤ a1 ∧ a1 ≤ 65535) ∧ (0 ≤ a2 ∧ a2 ≤ 65535) ∧ (0 ≤ a3 ∧ a3 ≤ 65535) ∧ (0 ≤ b0 ∧ b0 ≤ 65535) ∧ (0 ≤ b1 ∧ b1 ≤ 65535) ∧ (0 ≤ b2 ∧ b2 ≤ 65535) ∧ (0 ≤ b3 ∧ b3 ≤ 65535) ∧ (0 ≤ c0 ∧ c0 ≤ 65535) ∧ (0 ≤ c1 ∧ c1 ≤ 65535) ∧ (0 ≤ c2 ∧ c2 ≤ 65535) ∧ (0 ≤ c3 ∧ c3 ≤ 65535) ∧ (0 ≤ sz ∧ sz ≤ 255) := by
  obtain ⟨cs, rfl, hs⟩ := okWide_struct Try.underlying75 hv
  obtain ⟨fuel, hf⟩ := h
  obtain ⟨s0, s1, s2, s3, s4, s5, e0, e1, e2, n0, n1, n2, a0, a1, a2, a3, b0, b1, b2, b3, c0, c1, c2, c3, sz, e, hb⟩ := sm13_cells hf
  refine ⟨s0, s1, s2, s3, s4, s5, e0, e1, e2, n0, n1, n2, a0, a1, a2, a3, b0, b1, b2, b3, c0, c1, c2, c3, sz, ?_, hb⟩
  have : cs.toList = [.int .i8 s0, .int .i8 s1, .int .i8 s2, .int .i8 s3, .int .i8 s4, .int .i8 s5, .int .u16 e0, .int .u16 e1, .int .u16 e2, .int .u16 n0, .int .u16 n1, .int .u16 n2, .int .u16 a0, .int .u16 a1, .int .u16 a2, .int .u16 a3, .int .u16 b0, .int .u16 b1, .int .u16 b2, .int .u16 b3, .int .u16 c0, .int .u16 c1, .int .u16 c2, .int .u16 c3, .int .u8 sz] := e
  congr 1
  exact Array.ext' this
set_option maxRecDepth 100000 in
theorem openS13 {H : Type} {enc : TypeId × Value → H} {w : World} {base : Nat} {spare : Nat → Bool} {held : Bool} {r : Reach} {b0 : Nat} {v : Value} {dt : DataW H} {p : List MemPlace} (hv : Value.okWide Try.prog w r b0 75 v) (h : DataW.Trod enc Try.prog w base spare held 75 v dt p) : ∃ s : S13, v = .agg s.l.toArray ∧ s.ok := by
  obtain ⟨s0, s1, s2, s3, s4, s5, e0, e1, e2, n0, n1, n2, a0, a1, a2, a3, b0, b1, b2, b3, c0, c1, c2, c3, sz, rfl, ws0, ws1, ws2, ws3, ws4, ws5, we0, we1, we2, wn0, wn1, wn2, wa0, wa1, wa2, wa3, wb0, wb1, wb2, wb3, wc0, wc1, wc2, wc3, wsz⟩ := openS13v hv h
  exact ⟨⟨s0, s1, s2, s3, s4, s5, e0, e1, e2, n0, n1, n2, a0, a1, a2, a3, b0, b1, b2, b3, c0, c1, c2, c3, sz⟩, rfl, ⟨ws0, ws1, ws2, ws3, ws4, ws5, we0, we1, we2, wn0, wn1, wn2, wa0, wa1, wa2, wa3, wb0, wb1, wb2, wb3, wc0, wc1, wc2, wc3, wsz⟩⟩
end Go.Proofs.Ytglehnmkdapnpaa

