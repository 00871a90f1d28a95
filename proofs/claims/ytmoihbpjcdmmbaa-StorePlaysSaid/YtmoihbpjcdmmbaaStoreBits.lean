/-
  DERIVED. Layer 6 (store): bits inverted, as far as there are such bits.
-/
import Derived.Test.YtmoihbpjcdmmbaaCrcFacts
import Derived.Test.YtmoihbpjcdmmbaaMps
import Derived.Test.YtmoihbpjcdmmbaaInts
namespace Go.Proofs.Ytmoihbpjcdmmbaa
open Go.RowKit
set_option linter.unusedVariables false

/-- the bit at p inverted, if there is one -/
def flipB (L : List Int) (p : Int) : List Int := if 0 ≤ p ∧ p < 8 * (L.length : Int) then L.set (p.toNat / 8) (xorI (L.getD (p.toNat / 8) 0) ((2 ^ (7 - p.toNat % 8) : Nat) : Int)) else L
def bendK (L : List Int) (f : Int) (m : Nat) : Nat → List Int
  | 0 => L
  | k + 1 => if m.testBit (31 - k) then flipB (bendK L f m k) (IntKind.i64.wrap (f + k)) else bendK L f m k
def bendL (L : List Int) (f : Int) (m : Nat) : List Int := bendK L f m 32

theorem flipB_length (L : List Int) (p : Int) : (flipB L p).length = L.length := by
  unfold flipB
  split
  · simp
  · rfl
theorem flipB_bd (L : List Int) (p : Int) (hb : ∀ y ∈ L, 0 ≤ y ∧ y ≤ 255) : ∀ y ∈ flipB L p, 0 ≤ y ∧ y ≤ 255 := by
  unfold flipB
  split
  · rename_i h
    intro y hy
    have hl : p.toNat / 8 < L.length := by omega
    rcases List.mem_or_eq_of_mem_set hy with h1 | h1
    · exact hb y h1
    · rw [h1]
      refine xorI_bd _ _ (hb _ ?_) (pow7_bd _)
      rw [List.getD, List.getElem?_eq_getElem hl]
      exact List.getElem_mem ..
  · exact hb
theorem bendK_length (L : List Int) (f : Int) (m : Nat) : ∀ k, (bendK L f m k).length = L.length
  | 0 => rfl
  | k + 1 => by
    unfold bendK
    split
    · rw [flipB_length, bendK_length L f m k]
    · exact bendK_length L f m k
theorem bendK_bd (L : List Int) (f : Int) (m : Nat) (hb : ∀ y ∈ L, 0 ≤ y ∧ y ≤ 255) : ∀ k, ∀ y ∈ bendK L f m k, 0 ≤ y ∧ y ≤ 255
  | 0 => hb
  | k + 1 => by
    unfold bendK
    split
    · exact flipB_bd _ _ (bendK_bd L f m hb k)
    · exact bendK_bd L f m hb k
theorem bendK_zero (L : List Int) (f : Int) : ∀ k, bendK L f 0 k = L
  | 0 => rfl
  | k + 1 => by
    unfold bendK
    rw [if_neg (by simp), bendK_zero L f k]
theorem bendL_zero (L : List Int) (f : Int) : bendL L f 0 = L := bendK_zero L f 32
theorem bendK_stay (L : List Int) (f : Int) (m k : Nat) (h : m.testBit (31 - k) = false) : bendK L f m (k + 1) = bendK L f m k := by
  rw [bendK, if_neg (by simp [h])]
theorem bendK_out (L : List Int) (f : Int) (m k : Nat) (h : m.testBit (31 - k) = true) (h2 : ¬ (0 ≤ IntKind.i64.wrap (f + k) ∧ IntKind.i64.wrap (f + k) < 8 * (L.length : Int))) : bendK L f m (k + 1) = bendK L f m k := by
  rw [bendK, if_pos h, flipB, if_neg (by rw [bendK_length]; exact h2)]
theorem bendK_in (L : List Int) (f : Int) (m k p : Nat) (h : m.testBit (31 - k) = true) (h2 : IntKind.i64.wrap (f + k) = (p : Int)) (h3 : p < 8 * L.length) : bendK L f m (k + 1) = (bendK L f m k).set (p / 8) (xorI ((bendK L f m k).getD (p / 8) 0) ((2 ^ (7 - p % 8) : Nat) : Int)) := by
  rw [bendK, if_pos h, flipB, if_pos (by rw [bendK_length, h2]; omega), h2, Int.toNat_natCast]

/-- which bits a bend inverts -/
def bentAt (f : Int) (m : Nat) (k j : Nat) : Bool := decide (f ≤ (j : Int)) && decide ((j : Int) < f + k) && m.testBit (31 - ((j : Int) - f).toNat)
theorem wrap_eq (x : Int) : IntKind.i64.wrap x = (x + 9223372036854775808) % 18446744073709551616 - 9223372036854775808 := by
  show (if ((true && decide (x % 18446744073709551616 ≥ 9223372036854775808)) = true) then x % 18446744073709551616 - 18446744073709551616 else x % 18446744073709551616) = _
  rw [Bool.true_and]
  split
  · rename_i h
    have := of_decide_eq_true h
    omega
  · rename_i h
    have : ¬ (x % 18446744073709551616 ≥ 9223372036854775808) := fun k => h (decide_eq_true k)
    omega
theorem bendK_at (X : List Int) (f : Int) (m : Nat) (hf : -9223372036854775808 ≤ f ∧ f ≤ 9223372036854775807) (hX : X.length ≤ 1000000) (hb : ∀ y ∈ X, 0 ≤ y ∧ y ≤ 255) : ∀ k, k ≤ 32 → ∀ j, j < 8 * X.length → bitAt (bendK X f m k) j = (bitAt X j ^^ bentAt f m k j)
  | 0, _, j, _ => by
    have : bentAt f m 0 j = false := by
      unfold bentAt
      by_cases h : f ≤ (j : Int)
      · have e : decide ((j : Int) < f + ((0 : Nat) : Int)) = false := by simp; omega
        rw [e]
        simp
      · simp [h]
    rw [this, bendK]
    simp
  | k + 1, hk, j, hj => by
    have ih := bendK_at X f m hf hX hb k (by omega) j hj
    have key : bentAt f m (k + 1) j = (bentAt f m k j ^^ (decide ((j : Int) = f + k) && m.testBit (31 - k))) := by
      unfold bentAt
      by_cases e : (j : Int) = f + k
      · have e1 : ((j : Int) - f).toNat = k := by omega
        rw [e1]
        have e2 : decide (f ≤ (j : Int)) = true := by simp; omega
        have e3 : decide ((j : Int) < f + ((k + 1 : Nat) : Int)) = true := by simp; omega
        have e4 : decide ((j : Int) < f + (k : Int)) = false := by simp; omega
        rw [e2, e3, e4]
        simp [e]
      · have e3 : decide ((j : Int) < f + ((k + 1 : Nat) : Int)) = decide ((j : Int) < f + (k : Int)) := by
          congr 1
          apply propext
          omega
        rw [e3]
        simp [e]
    rw [key, ← Bool.xor_assoc, ← ih]
    cases hm : m.testBit (31 - k)
    · rw [bendK_stay X f m k hm]
      simp
    · by_cases h2 : 0 ≤ IntKind.i64.wrap (f + k) ∧ IntKind.i64.wrap (f + k) < 8 * (X.length : Int)
      · obtain ⟨p, hp⟩ : ∃ p : Nat, IntKind.i64.wrap (f + k) = (p : Int) := ⟨(IntKind.i64.wrap (f + k)).toNat, by omega⟩
        have hp3 : p < 8 * X.length := by omega
        rw [bendK_in X f m k p hm hp hp3, bitAt_flip _ p j (by rw [bendK_length]; exact hp3) (bendK_bd X f m hb k)]
        rw [wrap_eq] at hp
        congr 1
        rw [Bool.and_true]
        congr 1
        apply propext
        omega
      · rw [bendK_out X f m k hm h2]
        rw [wrap_eq] at h2
        have : decide ((j : Int) = f + k) = false := by
          simp
          omega
        rw [this]
        simp
theorem pow_split {n a b : Nat} (h : n = a + b) : 2 ^ n = 2 ^ a * 2 ^ b := by rw [h, Nat.pow_add]
/-- the bits inverted lie in a window of 32 that is all there -/
theorem window (f : Int) (m n : Nat) (hm : m < 4294967296) (hn : 4 ≤ n) : ∃ i m' : Nat, m' < 4294967296 ∧ i + 32 ≤ 8 * n ∧ ∀ j, j < 8 * n → bentAt f m 32 j = (decide (i ≤ j) && decide (j < i + 32) && m'.testBit (31 - (j - i))) := by
  have hbig : ∀ t, 32 ≤ t → m.testBit t = false := fun t ht => Nat.testBit_lt_two_pow (Nat.lt_of_lt_of_le hm (by rw [show 4294967296 = 2 ^ 32 from rfl]; exact Nat.pow_le_pow_right (by omega) ht))
  by_cases h1 : 0 ≤ f
  · by_cases h2 : f + 32 ≤ 8 * (n : Int)
    · refine ⟨f.toNat, m, hm, by omega, fun j hj => ?_⟩
      unfold bentAt
      have e1 : decide (f ≤ (j : Int)) = decide (f.toNat ≤ j) := by congr 1; apply propext; omega
      have e2 : decide ((j : Int) < f + ((32 : Nat) : Int)) = decide (j < f.toNat + 32) := by congr 1; apply propext; omega
      have e3 : ((j : Int) - f).toNat = j - f.toNat := by omega
      rw [e1, e2, e3]
    · refine ⟨8 * n - 32, m >>> (f.toNat - (8 * n - 32)), ?_, by omega, fun j hj => ?_⟩
      · rw [Nat.shiftRight_eq_div_pow]
        exact Nat.lt_of_le_of_lt (Nat.div_le_self ..) hm
      · unfold bentAt
        rw [Nat.testBit_shiftRight]
        by_cases k1 : f ≤ (j : Int)
        · have e1 : decide (f ≤ (j : Int)) = true := by simpa using k1
          have e2 : decide ((j : Int) < f + ((32 : Nat) : Int)) = true := by simp; omega
          have e3 : decide (8 * n - 32 ≤ j) = true := by simp; omega
          have e4 : decide (j < 8 * n - 32 + 32) = true := by simp; omega
          rw [e1, e2, e3, e4]
          congr 2
          omega
        · have e1 : decide (f ≤ (j : Int)) = false := by simpa using k1
          rw [e1]
          by_cases k2 : 8 * n - 32 ≤ j
          · rw [hbig (f.toNat - (8 * n - 32) + (31 - (j - (8 * n - 32)))) (by omega)]
            simp
          · simp [k2]
  · by_cases h2 : f ≤ -32
    · refine ⟨0, 0, by omega, by omega, fun j hj => ?_⟩
      unfold bentAt
      have e2 : decide ((j : Int) < f + ((32 : Nat) : Int)) = false := by simp; omega
      rw [e2]
      simp
    · refine ⟨0, (m <<< (-f).toNat) % 4294967296, Nat.mod_lt _ (by omega), by omega, fun j hj => ?_⟩
      unfold bentAt
      rw [show 4294967296 = 2 ^ 32 from rfl, Nat.testBit_mod_two_pow, Nat.testBit_shiftLeft]
      have e1 : decide (f ≤ (j : Int)) = true := by simp; omega
      rw [e1]
      by_cases k1 : j < 32
      · have e3 : decide (0 ≤ j) = true := by simp
        have e4 : decide (j < 0 + 32) = true := by simpa using k1
        have e5 : decide (31 - (j - 0) < 32) = true := by simp; omega
        rw [e3, e4, e5]
        by_cases k2 : (j : Int) < f + ((32 : Nat) : Int)
        · have e6 : decide ((j : Int) < f + ((32 : Nat) : Int)) = true := by simpa using k2
          have e7 : decide (31 - (j - 0) ≥ (-f).toNat) = true := by simp; omega
          rw [e6, e7]
          simp only [Bool.true_and, Bool.and_true]
          congr 1
          omega
        · have e6 : decide ((j : Int) < f + ((32 : Nat) : Int)) = false := by simpa using k2
          have e7 : decide (31 - (j - 0) ≥ (-f).toNat) = false := by simp; omega
          rw [e6, e7]
          simp
      · have e4 : decide (j < 0 + 32) = false := by simp; omega
        have e6 : decide ((j : Int) < f + ((32 : Nat) : Int)) = false := by simp; omega
        rw [e4, e6]
        simp
theorem bitAt_past (L : List Int) (j : Nat) (h : 8 * L.length ≤ j) : bitAt L j = false := by
  unfold bitAt
  have : L.getD (j / 8) 0 = 0 := by
    rw [List.getD, List.getElem?_eq_none (by omega)]
    rfl
  rw [this]
  simp
theorem byte_of_bits {x y : Int} (hx : 0 ≤ x ∧ x ≤ 255) (hy : 0 ≤ y ∧ y ≤ 255) (h : ∀ t, t < 8 → x.toNat.testBit (7 - t) = y.toNat.testBit (7 - t)) : x = y := by
  have : x.toNat = y.toNat := by
    apply Nat.eq_of_testBit_eq
    intro t
    rcases Nat.lt_or_ge t 8 with k | k
    · have := h (7 - t) (by omega)
      rwa [show 7 - (7 - t) = t by omega] at this
    · have hp : 256 ≤ 2 ^ t := by rw [show 256 = 2 ^ 8 from rfl]; exact Nat.pow_le_pow_right (by omega) k
      rw [Nat.testBit_lt_two_pow (by omega), Nat.testBit_lt_two_pow (by omega)]
  omega
theorem eq_of_bits {L X : List Int} (hl : L.length = X.length) (hL : ∀ y ∈ L, 0 ≤ y ∧ y ≤ 255) (hX : ∀ y ∈ X, 0 ≤ y ∧ y ≤ 255) (h : ∀ j, bitAt L j = bitAt X j) : L = X := by
  apply List.ext_getElem hl
  intro i h1 h2
  refine byte_of_bits (hL _ (List.getElem_mem ..)) (hX _ (List.getElem_mem ..)) fun t ht => ?_
  have := h (8 * i + t)
  unfold bitAt at this
  rw [show (8 * i + t) / 8 = i by omega, show (8 * i + t) % 8 = t by omega] at this
  simpa [List.getD, h1, h2] using this
/-- a bend either changes nothing or is told -/
theorem bend_told (X : List Int) (f : Int) (m : Nat) (hf : -9223372036854775808 ≤ f ∧ f ≤ 9223372036854775807) (hm : m < 4294967296) (hX : X.length ≤ 1000000) (h4 : 4 ≤ X.length) (hb : ∀ y ∈ X, 0 ≤ y ∧ y ≤ 255) (hr : crcR X = crcIt 32 ones)
    (ht : rightB (bendL X f m) = true) : bendL X f m = X := by
  obtain ⟨i, m', hm', hi, hw⟩ := window f m X.length hm h4
  have T : Turned X (bendL X f m) i m' 32 := by
    refine ⟨bendK_length X f m 32, bendK_bd X f m hb 32, fun j => ?_⟩
    rcases Nat.lt_or_ge j (8 * X.length) with k | k
    · unfold bendL
      rw [bendK_at X f m hf hX hb 32 (Nat.le_refl _) j k, hw j k]
    · unfold bendL
      rw [bitAt_past _ j (by rw [bendK_length]; exact k), bitAt_past _ j k]
      have e4 : decide (j < i + 32) = false := by simp; omega
      rw [e4]
      simp
  have hz := T.right hb hm' hi hr
  rw [ht] at hz
  have hz0 : m' = 0 := by simpa using hz.symm
  refine eq_of_bits T.1 T.2.1 hb fun j => ?_
  rw [T.2.2 j, hz0]
  simp
end Go.Proofs.Ytmoihbpjcdmmbaa
