/-
  DERIVED. The law WireAny, whatever comes in: it returns true.
-/
import Derived.Test.YtgmjfmmandbekaaWireAnyLaw
namespace Go.Proofs.Ytgmjfmmandbekaa
open Go.RowKit
set_option linter.unusedVariables false

set_option maxRecDepth 100000 in
theorem wireAny_early0 (w : World) (v0 : Value) (xs : List Int) (v1 : Value) (ks : List Int) (most : Int) (h0 : Arr w .u8 v0 xs) (h1 : Arr w .u8 v1 ks) (k0 : 100 < xs.length) :
    Calls Try.prog 4 #[v0, v1, .int .i64 most] w fun e w' => e = .returned (.bool true) ∧ Ext w w' := by
  obtain ⟨⟨a0, c0, rfl, hc0, hs0, hn0⟩, hm0, hw0⟩ := h0
  obtain ⟨⟨a1, c1, rfl, hc1, hs1, hn1⟩, hm1, hw1⟩ := h1
  unfold maxLen at hm0 hm1
  have d0 : decide (100 < (xs.length : Int)) = true := by rw [decide_eq_true_iff]; omega
  go_enter Try.func4, Try.ntmps4
  go_wp2_with fail
  with_reducible refine (awake4_any _).mono ?_
  rintro e w1 ⟨rfl, x1⟩
  go_wp2
  go_ret
  exact ⟨rfl, x1⟩
set_option maxRecDepth 100000 in
theorem wireAny_early1 (w : World) (v0 : Value) (xs : List Int) (v1 : Value) (ks : List Int) (most : Int) (h0 : Arr w .u8 v0 xs) (h1 : Arr w .u8 v1 ks) (k0 : xs.length ≤ 100) (k1 : 60 < ks.length) :
    Calls Try.prog 4 #[v0, v1, .int .i64 most] w fun e w' => e = .returned (.bool true) ∧ Ext w w' := by
  obtain ⟨⟨a0, c0, rfl, hc0, hs0, hn0⟩, hm0, hw0⟩ := h0
  obtain ⟨⟨a1, c1, rfl, hc1, hs1, hn1⟩, hm1, hw1⟩ := h1
  unfold maxLen at hm0 hm1
  have d0 : decide (100 < (xs.length : Int)) = false := by rw [decide_eq_false_iff_not]; omega
  have d1 : decide (60 < (ks.length : Int)) = true := by rw [decide_eq_true_iff]; omega
  go_enter Try.func4, Try.ntmps4
  go_wp2_with fail
  with_reducible refine (awake4_any _).mono ?_
  rintro e w1 ⟨rfl, x1⟩
  go_wp2
  go_ret
  exact ⟨rfl, x1⟩
theorem wireAny_row (w : World) (v0 : Value) (xs : List Int) (v1 : Value) (ks : List Int) (most : Int) (h0 : Arr w .u8 v0 xs) (h1 : Arr w .u8 v1 ks) (hmost : -9223372036854775808 ≤ most ∧ most ≤ 9223372036854775807) :
    Calls Try.prog 4 #[v0, v1, .int .i64 most] w fun e w' => e = .returned (.bool true) ∧ Ext w w' := by
  by_cases k0 : 100 < xs.length
  · exact wireAny_early0 w v0 xs v1 ks most h0 h1 k0
  · by_cases k1 : 60 < ks.length
    · exact wireAny_early1 w v0 xs v1 ks most h0 h1 (by omega) k1
    · exact wireAny_late w v0 xs v1 ks most h0 h1 hmost (by omega) (by omega)
end Go.Proofs.Ytgmjfmmandbekaa
