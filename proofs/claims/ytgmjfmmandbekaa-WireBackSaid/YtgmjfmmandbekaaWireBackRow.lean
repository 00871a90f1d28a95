/-
  DERIVED. The law WireBack, whatever comes in: it returns true.
-/
import Derived.Test.YtgmjfmmandbekaaWireBackLaw
namespace Go.Proofs.Ytgmjfmmandbekaa
open Go.RowKit
set_option linter.unusedVariables false

set_option maxRecDepth 100000 in
theorem wireBack_early0 (w : World) (v0 : Value) (xs0 : List Int) (v1 : Value) (xs1 : List Int) (v2 : Value) (xs2 : List Int) (h0 : Arr w .i64 v0 xs0) (h1 : Arr w .u32 v1 xs1) (h2 : Arr w .u8 v2 xs2) (k0 : 30 < xs0.length) :
    Calls Try.prog 3 #[v0, v1, v2] w fun e w' => e = .returned (.bool true) ∧ Ext w w' := by
  obtain ⟨⟨a0, c0, rfl, -, -, -⟩, hm0, -⟩ := h0
  obtain ⟨⟨a1, c1, rfl, -, -, -⟩, hm1, -⟩ := h1
  obtain ⟨⟨a2, c2, rfl, -, -, -⟩, hm2, -⟩ := h2
  unfold maxLen at hm0 hm1 hm2
  have d0 : decide (30 < (xs0.length : Int)) = true := by rw [decide_eq_true_iff]; omega
  go_enter Try.func3, Try.ntmps3
  go_wp2_with fail
  with_reducible refine (awake4_any _).mono ?_
  rintro e w1 ⟨rfl, x1⟩
  go_wp2
  go_ret
  exact ⟨rfl, x1⟩
set_option maxRecDepth 100000 in
theorem wireBack_early1 (w : World) (v0 : Value) (xs0 : List Int) (v1 : Value) (xs1 : List Int) (v2 : Value) (xs2 : List Int) (h0 : Arr w .i64 v0 xs0) (h1 : Arr w .u32 v1 xs1) (h2 : Arr w .u8 v2 xs2) (k0 : xs0.length ≤ 30) (k1 : 30 < xs1.length) :
    Calls Try.prog 3 #[v0, v1, v2] w fun e w' => e = .returned (.bool true) ∧ Ext w w' := by
  obtain ⟨⟨a0, c0, rfl, -, -, -⟩, hm0, -⟩ := h0
  obtain ⟨⟨a1, c1, rfl, -, -, -⟩, hm1, -⟩ := h1
  obtain ⟨⟨a2, c2, rfl, -, -, -⟩, hm2, -⟩ := h2
  unfold maxLen at hm0 hm1 hm2
  have d0 : decide (30 < (xs0.length : Int)) = false := by rw [decide_eq_false_iff_not]; omega
  have d1 : decide (30 < (xs1.length : Int)) = true := by rw [decide_eq_true_iff]; omega
  go_enter Try.func3, Try.ntmps3
  go_wp2_with fail
  with_reducible refine (awake4_any _).mono ?_
  rintro e w1 ⟨rfl, x1⟩
  go_wp2
  go_ret
  exact ⟨rfl, x1⟩
set_option maxRecDepth 100000 in
theorem wireBack_early2 (w : World) (v0 : Value) (xs0 : List Int) (v1 : Value) (xs1 : List Int) (v2 : Value) (xs2 : List Int) (h0 : Arr w .i64 v0 xs0) (h1 : Arr w .u32 v1 xs1) (h2 : Arr w .u8 v2 xs2) (k0 : xs0.length ≤ 30) (k1 : xs1.length ≤ 30) (k2 : 100 < xs2.length) :
    Calls Try.prog 3 #[v0, v1, v2] w fun e w' => e = .returned (.bool true) ∧ Ext w w' := by
  obtain ⟨⟨a0, c0, rfl, -, -, -⟩, hm0, -⟩ := h0
  obtain ⟨⟨a1, c1, rfl, -, -, -⟩, hm1, -⟩ := h1
  obtain ⟨⟨a2, c2, rfl, -, -, -⟩, hm2, -⟩ := h2
  unfold maxLen at hm0 hm1 hm2
  have d0 : decide (30 < (xs0.length : Int)) = false := by rw [decide_eq_false_iff_not]; omega
  have d1 : decide (30 < (xs1.length : Int)) = false := by rw [decide_eq_false_iff_not]; omega
  have d2 : decide (100 < (xs2.length : Int)) = true := by rw [decide_eq_true_iff]; omega
  go_enter Try.func3, Try.ntmps3
  go_wp2_with fail
  with_reducible refine (awake4_any _).mono ?_
  rintro e w1 ⟨rfl, x1⟩
  go_wp2
  go_ret
  exact ⟨rfl, x1⟩
theorem wireBack_row (w : World) (v0 : Value) (xs0 : List Int) (v1 : Value) (xs1 : List Int) (v2 : Value) (xs2 : List Int) (h0 : Arr w .i64 v0 xs0) (h1 : Arr w .u32 v1 xs1) (h2 : Arr w .u8 v2 xs2) :
    Calls Try.prog 3 #[v0, v1, v2] w fun e w' => e = .returned (.bool true) ∧ Ext w w' := by
  by_cases k0 : 30 < xs0.length
  · exact wireBack_early0 w v0 xs0 v1 xs1 v2 xs2 h0 h1 h2 k0
  · by_cases k1 : 30 < xs1.length
    · exact wireBack_early1 w v0 xs0 v1 xs1 v2 xs2 h0 h1 h2 (by omega) k1
    · by_cases k2 : 100 < xs2.length
      · exact wireBack_early2 w v0 xs0 v1 xs1 v2 xs2 h0 h1 h2 (by omega) (by omega) k2
      · exact wireBack_late w v0 xs0 v1 xs1 v2 xs2 h0 h1 h2 (by omega) (by omega) (by omega)
end Go.Proofs.Ytgmjfmmandbekaa
