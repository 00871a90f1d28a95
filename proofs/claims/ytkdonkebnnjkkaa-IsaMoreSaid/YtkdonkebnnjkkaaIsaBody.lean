/-
  DERIVED. THE WALKS of layer 7 (isa): hasRegs, Body.
-/
import Derived.Test.YtkdonkebnnjkkaaPrs
import Derived.Test.YtkdonkebnnjkkaaBlkLaws
import Derived.Deep.DeepCutAuto
namespace Go.Proofs.Ytkdonkebnnjkkaa
open Go.RowKit
set_option linter.unusedVariables false
set_option maxRecDepth 100000 in
theorem regs_any (x : In) (hx : x.ok) (w : World) : Calls Try.prog 36 #[.agg #[.int .u8 x.op, .int .u8 x.dst, .int .u8 x.a, .int .u8 x.b, .int .i16 x.imm]] w fun e w' => e = .returned (.bool (regs x)) ∧ Ext w w' := by
  unfold regs
  cases h1 : decide (11 < x.dst)
  · cases h2 : decide (11 < x.a)
    · cases h3 : decide (11 < x.b)
      · by_cases h5 : x.op = 14
        · go_enter Try.func36, Try.ntmps36
          go_wp2
          go_ret
          exact ⟨by simp [h5], (Ext.refl _).alloc _ _⟩
        · go_enter Try.func36, Try.ntmps36
          go_wp2
          go_ret
          exact ⟨by simp [h5], (Ext.refl _).alloc _ _⟩
      · by_cases h4 : x.op = 12
        · go_enter Try.func36, Try.ntmps36
          go_wp2
          go_ret
          exact ⟨by simp [h4], (Ext.refl _).alloc _ _⟩
        · go_enter Try.func36, Try.ntmps36
          go_wp2
          go_ret
          exact ⟨by simp [h4], (Ext.refl _).alloc _ _⟩
    · go_enter Try.func36, Try.ntmps36
      go_wp2
      go_ret
      exact ⟨by simp, (Ext.refl _).alloc _ _⟩
  · go_enter Try.func36, Try.ntmps36
    go_wp2
    go_ret
    exact ⟨by simp, (Ext.refl _).alloc _ _⟩
set_option maxRecDepth 100000 in
theorem body_yes (w : World) (base : Nat) (v : Value) (xs : List In) (h : OwnP w base v xs) (hok : ∀ x ∈ xs, x.ok) (hl : xs.length ≤ 1000000) (k : Nat) (x : In) (hx : xs[k]? = some x) (ho : x.op = 12) : Calls Try.prog 42 #[v, .int .i64 k] w fun e w' => e = .returned (.tuple #[.int .i64 (k + 1), .int .i64 (k + 1 + x.b), .bool true]) ∧ Qt w w' := by
  have hk : k < xs.length := (List.getElem?_eq_some_iff.1 hx).1
  obtain ⟨ao, c, rfl, -, -⟩ := h.slice
  obtain ⟨g, y, rfl, -, hy, c0, c1, c2, c3, c4⟩ := h.nth k hk
  rw [hx] at hy
  cases hy
  have hkI : (k : Int) < (xs.length : Int) := by omega
  have hkN : decide ((k : Int) < 0) = false := by simp
  have hkD : ¬ xs.length ≤ k := by omega
  have hb := (hok x (List.mem_of_getElem? hx)).2.2.2.1
  clear hx
  go_enter Try.func42, Try.ntmps42
  go_wp2_with fail
  go_region
  all_goals go_wp2
  all_goals exact bodyPost_ret (v := .tuple #[.int .i64 (k + 1), .int .i64 (k + 1 + x.b), .bool true]) (by simp [results, Try.results42]) rfl ⟨rfl, ⟨1, rfl⟩⟩
theorem body_no (w : World) (base : Nat) (v : Value) (xs : List In) (h : OwnP w base v xs) (hok : ∀ x ∈ xs, x.ok) (hl : xs.length ≤ 1000000) (k : Int) (hk : -1000 ≤ k ∧ k ≤ 9223372036854775807) (hno : bodyEnd xs k = none) : Calls Try.prog 42 #[v, .int .i64 k] w fun e w' => e = .returned (.tuple #[.int .i64 0, .int .i64 0, .bool false]) ∧ w = w' := by
  obtain ⟨ao, c, rfl, -, -⟩ := h.slice
  have hcase : k < 0 ∨ (xs.length : Int) ≤ k ∨ ∃ n : Nat, k = n ∧ n < xs.length := by
    rcases Int.lt_or_le k 0 with h0 | h0
    · exact .inl h0
    · rcases Int.lt_or_le k xs.length with h1 | h1
      · exact .inr (.inr ⟨k.toNat, by omega, by omega⟩)
      · exact .inr (.inl h1)
  rcases hcase with h0 | h0 | ⟨n, rfl, hn⟩
  · go_enter Try.func42, Try.ntmps42
    go_wp2
    exact bodyPost_ret (v := .tuple #[.int .i64 0, .int .i64 0, .bool false]) (by simp [results, Try.results42]) rfl ⟨rfl, rfl⟩
  · have h1 : ¬ k < 0 := by omega
    go_enter Try.func42, Try.ntmps42
    go_wp2
    exact bodyPost_ret (v := .tuple #[.int .i64 0, .int .i64 0, .bool false]) (by simp [results, Try.results42]) rfl ⟨rfl, rfl⟩
  · obtain ⟨g, y, rfl, -, hy, c0, c1, c2, c3, c4⟩ := h.nth n hn
    have hop : y.op ≠ 12 := fun e => by rw [bodyEnd_at hy e] at hno; cases hno
    have hkI : (n : Int) < (xs.length : Int) := by omega
    have hkN : decide ((n : Int) < 0) = false := by simp
    have hkD : decide (xs.length ≤ n) = false := by simp; omega
    have hopD : (y.op != 12) = true := by simpa using hop
    clear hy
    go_enter Try.func42, Try.ntmps42
    go_wp2
    exact bodyPost_ret (v := .tuple #[.int .i64 0, .int .i64 0, .bool false]) (by simp [results, Try.results42]) rfl ⟨rfl, rfl⟩
end Go.Proofs.Ytkdonkebnnjkkaa
