/-
  DERIVED. Plain facts on numbers as bytes (layer 4).
-/
import Derived.Test.YtkdonkebnnjkkaaWireRefs
namespace Go.Proofs.Ytkdonkebnnjkkaa
set_option linter.unusedVariables false

theorem leb_bytes : ∀ (n : Nat) (y : Int), y ∈ leb n → 0 ≤ y ∧ y ≤ 255 := by
  intro n
  induction n using Nat.strongRecOn with
  | _ n ih =>
    intro y hy
    by_cases h : n < 128
    · rw [leb_small h] at hy
      have : y = n := by simpa using hy
      omega
    · rw [leb_great (by omega)] at hy
      rcases List.mem_cons.1 hy with e | e
      · omega
      · exact ih (n / 128) (by omega) y e
/-- no number's bytes begin another's -/
theorem leb_inj : ∀ (n m : Nat) (r s : List Int), leb n ++ r = leb m ++ s → n = m ∧ r = s := by
  intro n
  induction n using Nat.strongRecOn with
  | _ n ih =>
    intro m r s h
    by_cases hn : n < 128
    · by_cases hm : m < 128
      · rw [leb_small hn, leb_small hm] at h
        simp only [List.cons_append, List.nil_append, List.cons.injEq] at h
        exact ⟨by omega, h.2⟩
      · rw [leb_small hn, leb_great (by omega)] at h
        simp only [List.cons_append, List.nil_append, List.cons.injEq] at h
        have := h.1
        omega
    · by_cases hm : m < 128
      · rw [leb_small hm, leb_great (by omega)] at h
        simp only [List.cons_append, List.nil_append, List.cons.injEq] at h
        have := h.1
        omega
      · rw [leb_great (n := n) (by omega), leb_great (n := m) (by omega)] at h
        simp only [List.cons_append, List.cons.injEq] at h
        obtain ⟨h1, h2⟩ := h
        obtain ⟨k1, k2⟩ := ih (n / 128) (by omega) (m / 128) r s h2
        exact ⟨by omega, k2⟩
theorem leb_ne_nil (n : Nat) : leb n ≠ [] := fun h => by have := leb_pos n; rw [h] at this; simp at this
theorem leb_mono : ∀ (a b : Nat), a ≤ b → (leb a).length ≤ (leb b).length := by
  intro a
  induction a using Nat.strongRecOn with
  | _ a ih =>
    intro b h
    by_cases ha : a < 128
    · rw [leb_small ha]
      exact leb_pos b
    · rw [leb_great (n := a) (by omega), leb_great (n := b) (by omega), List.length_cons, List.length_cons]
      have := ih (a / 128) (by omega) (b / 128) (Nat.div_le_div_right h)
      omega
/-- a number and the next one have as many bytes, if the first is even -/
theorem leb_even (n : Nat) : (leb (2 * n)).length = (leb (2 * n + 1)).length := by
  by_cases h : 2 * n < 128
  · rw [leb_small h, leb_small (n := 2 * n + 1) (by omega)]; rfl
  · rw [leb_great (n := 2 * n) (by omega), leb_great (n := 2 * n + 1) (by omega), List.length_cons, List.length_cons, show (2 * n + 1) / 128 = 2 * n / 128 by omega]
def unzig (m : Nat) : Int := if m % 2 = 1 then -((m / 2 : Nat) : Int) - 1 else ((m / 2 : Nat) : Int)
theorem unzig_zig (n : Int) : unzig (zig n) = n := by
  unfold unzig zig
  split <;> split <;> omega
theorem zig_unzig (m : Nat) : zig (unzig m) = m := by
  unfold unzig zig
  split <;> split <;> omega
theorem zig_inj {a b : Int} (h : zig a = zig b) : a = b := by rw [← unzig_zig a, h, unzig_zig]
theorem unzig_bd {m : Nat} (h : m < 18446744073709551616) : -9223372036854775808 ≤ unzig m ∧ unzig m ≤ 9223372036854775807 := by
  unfold unzig; split <;> omega
theorem zig_not (n : Int) : (leb (zig (-n - 1))).length = (leb (zig n)).length := by
  unfold zig
  by_cases h : n < 0
  · rw [if_pos h, if_neg (by omega)]
    have := leb_even (-n - 1).toNat
    rw [show (-n - 1).toNat * 2 = 2 * (-n - 1).toNat by omega, show (-(n + 1)).toNat * 2 + 1 = 2 * (-n - 1).toNat + 1 by omega]
    exact this
  · rw [if_neg h, if_pos (by omega)]
    have := leb_even n.toNat
    rw [show n.toNat * 2 = 2 * n.toNat by omega, show (-(-n - 1 + 1)).toNat * 2 + 1 = 2 * n.toNat + 1 by omega]
    exact this.symm
theorem leb_len5 {n : Nat} (h : n < 4294967296) : (leb n).length ≤ 5 := leb_len 4 n (by omega)

/-- what stands at the head of some bytes: a number's bytes, or none's -/
def headNum (b : List Int) : Prop := ∃ n r, n < 18446744073709551616 ∧ b = leb n ++ r
theorem headNum_one {b : List Int} {n m : Nat} {r s : List Int} (h1 : b = leb n ++ r) (h2 : b = leb m ++ s) : n = m ∧ r = s := leb_inj n m r s (h1.symm.trans h2)

end Go.Proofs.Ytkdonkebnnjkkaa
