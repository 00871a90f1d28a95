/-
  DERIVED. Plain facts on layer 5: when bytes end with their sum; bits by their place; what changed bits do.
-/
import Derived.Test.YtmoihbpjcdmmbaaCrcAid
namespace Go.Proofs.Ytmoihbpjcdmmbaa
open Go.RowKit
set_option linter.unusedVariables false

theorem list_four {l : List Int} (h : l.length = 4) : ∃ a b c d, l = [a, b, c, d] := by
  match l, h with
  | [a, b, c, d], _ => exact ⟨a, b, c, d, rfl⟩
theorem rightB_eq (L : List Int) (hb : ∀ y ∈ L, 0 ≤ y ∧ y ≤ 255) (h4 : 4 ≤ L.length) : rightB L = decide (crcR L = crcIt 32 ones) := by
  obtain ⟨a, b, c, d, e⟩ := list_four (l := L.drop (L.length - 4)) (by simp; omega)
  have hm : ∀ y ∈ [a, b, c, d], 0 ≤ y ∧ y ≤ 255 := fun y hy => hb y (List.mem_of_mem_drop (e ▸ hy))
  have k := crc_right (L.take (L.length - 4)) a b c d (hm a (by simp)).2 (hm b (by simp)).2 (hm c (by simp)).2 (hm d (by simp)).2
  rw [← e, List.take_append_drop] at k
  unfold rightB
  rw [e, beN_four]
  have d4 : decide (4 ≤ L.length) = true := by simpa using h4
  rw [d4, Bool.true_and]
  congr 1
  rw [← k]
  apply propext
  unfold bN
  omega
theorem beN_sum4 (s : Int) (h : 0 ≤ s ∧ s < 4294967296) : (beN (sum4 s) : Int) = s := by
  unfold sum4
  rw [beN_four]
  unfold be4
  omega
theorem sum4_bd (s : Int) (h : 0 ≤ s ∧ s < 4294967296) : ∀ y ∈ sum4 s, 0 ≤ y ∧ y ≤ 255 := by
  intro y hy
  simp [sum4] at hy
  omega
theorem put_bd (l : List Int) (hb : ∀ y ∈ l, 0 ≤ y ∧ y ≤ 255) : ∀ y ∈ l ++ sum4 (bN (crcSum l)), 0 ≤ y ∧ y ≤ 255 := by
  intro y hy
  rcases List.mem_append.1 hy with h | h
  · exact hb y h
  · exact sum4_bd _ (bN_lt _) y h
theorem put_length (l : List Int) (s : Int) : (l ++ sum4 s).length = l.length + 4 := by simp [sum4]
theorem put_right (l : List Int) : rightB (l ++ sum4 (bN (crcSum l))) = true := by
  unfold rightB
  rw [put_length, Nat.add_sub_cancel, List.take_left, List.drop_left, beN_sum4 _ (bN_lt _)]
  simp
theorem put_reg (l : List Int) (hb : ∀ y ∈ l, 0 ≤ y ∧ y ≤ 255) : crcR (l ++ sum4 (bN (crcSum l))) = crcIt 32 ones := by
  have h := put_right l
  rw [rightB_eq _ (put_bd l hb) (by rw [put_length]; omega)] at h
  simpa using h

/-- the bit at a place, in each byte the highest first -/
def bitAt (L : List Int) (j : Nat) : Bool := (L.getD (j / 8) 0).toNat.testBit (7 - j % 8)
theorem bitsOf_get : ∀ (k n t : Nat), t < k → (bitsOf k n)[t]? = some (n.testBit (k - 1 - t))
  | k + 1, n, 0, _ => by simp [bitsOf]
  | k + 1, n, t + 1, h => by
    rw [bitsOf, List.getElem?_cons_succ, bitsOf_get k n t (by omega)]
    congr 2
    omega
theorem bits_get : ∀ (L : List Int) (j : Nat), j < 8 * L.length → (bitsB L)[j]? = some (bitAt L j)
  | [], j, h => by simp at h
  | y :: L, j, h => by
    rw [bitsB_cons]
    rcases Nat.lt_or_ge j 8 with k | k
    · rw [List.getElem?_append_left (by rw [bitsOf_length]; exact k), bitsOf_get 8 _ j k]
      unfold bitAt
      rw [Nat.div_eq_of_lt k, Nat.mod_eq_of_lt k]
      rfl
    · rw [List.getElem?_append_right (by rw [bitsOf_length]; exact k), bitsOf_length, bits_get L (j - 8) (by simp at h; omega)]
      unfold bitAt
      rw [show j / 8 = (j - 8) / 8 + 1 by omega, show (j - 8) % 8 = j % 8 by omega]
      rfl
/-- one bit turned -/
theorem bitAt_flip (L : List Int) (p j : Nat) (hp : p < 8 * L.length) (hb : ∀ y ∈ L, 0 ≤ y ∧ y ≤ 255) :
    bitAt (L.set (p / 8) (xorI (L.getD (p / 8) 0) ((2 ^ (7 - p % 8) : Nat) : Int))) j = (bitAt L j ^^ decide (j = p)) := by
  unfold bitAt
  by_cases hq : j / 8 = p / 8
  · rw [hq]
    have hl : p / 8 < L.length := by omega
    have e : (L.set (p / 8) (xorI (L.getD (p / 8) 0) ((2 ^ (7 - p % 8) : Nat) : Int))).getD (p / 8) 0 = xorI (L.getD (p / 8) 0) ((2 ^ (7 - p % 8) : Nat) : Int) := by simp [List.getD, hl]
    rw [e]
    unfold xorI
    rw [Int.toNat_natCast, Int.toNat_natCast, Nat.testBit_xor, Nat.testBit_two_pow]
    congr 1
    by_cases h : j = p
    · subst h; simp
    · simp [h]
      omega
  · have e : (L.set (p / 8) (xorI (L.getD (p / 8) 0) ((2 ^ (7 - p % 8) : Nat) : Int))).getD (j / 8) 0 = L.getD (j / 8) 0 := by
      simp [List.getD, Ne.symm hq]
    have hne : ¬ j = p := fun h => hq (by rw [h])
    rw [e]
    simp [hne]
/-- bits changed within 32 neighbours, k of them so far -/
def Turned (X L : List Int) (i m k : Nat) : Prop := L.length = X.length ∧ (∀ y ∈ L, 0 ≤ y ∧ y ≤ 255) ∧ ∀ j, bitAt L j = (bitAt X j ^^ (decide (i ≤ j) && decide (j < i + k) && m.testBit (31 - (j - i))))
theorem Turned.start (X : List Int) (i m : Nat) (hb : ∀ y ∈ X, 0 ≤ y ∧ y ≤ 255) : Turned X X i m 0 := by
  refine ⟨rfl, hb, fun j => ?_⟩
  have : (decide (i ≤ j) && decide (j < i + 0)) = false := by
    by_cases h : i ≤ j
    · simp [h]
    · simp [h]
  rw [this]
  simp
theorem Turned.stay {X L : List Int} {i m k : Nat} (h : Turned X L i m k) (hk : k < 32) (hm : m.testBit (31 - k) = false) : Turned X L i m (k + 1) := by
  refine ⟨h.1, h.2.1, fun j => ?_⟩
  rw [h.2.2 j]
  congr 1
  by_cases hj : j = i + k
  · subst hj
    rw [Nat.add_sub_cancel_left, hm]
    simp
  · congr 2
    simp
    omega
theorem pow7_bd (r : Nat) : (0 : Int) ≤ ((2 ^ (7 - r) : Nat) : Int) ∧ ((2 ^ (7 - r) : Nat) : Int) ≤ 255 := by
  have h : 2 ^ (7 - r) ≤ 2 ^ 7 := Nat.pow_le_pow_right (by omega) (by omega)
  generalize 2 ^ (7 - r) = q at *
  omega
theorem Turned.turn {X L : List Int} {i m k : Nat} (h : Turned X L i m k) (hk : k < 32) (hm : m.testBit (31 - k) = true) (hi : i + k < 8 * X.length) :
    Turned X (L.set ((i + k) / 8) (xorI (L.getD ((i + k) / 8) 0) ((2 ^ (7 - (i + k) % 8) : Nat) : Int))) i m (k + 1) := by
  have hl : (i + k) / 8 < L.length := by rw [h.1]; omega
  refine ⟨by rw [List.length_set]; exact h.1, fun y hy => ?_, fun j => ?_⟩
  · rcases List.mem_or_eq_of_mem_set hy with h1 | h1
    · exact h.2.1 y h1
    · rw [h1]
      refine xorI_bd _ _ (h.2.1 _ ?_) (pow7_bd _)
      rw [List.getD, List.getElem?_eq_getElem hl]
      exact List.getElem_mem ..
  · rw [bitAt_flip L (i + k) j (by rw [h.1]; exact hi) h.2.1, h.2.2 j, Bool.xor_assoc]
    congr 1
    by_cases hj : j = i + k
    · subst hj
      rw [Nat.add_sub_cancel_left, hm]
      simp
    · have e : decide (j < i + (k + 1)) = decide (j < i + k) := by simp; omega
      rw [e]
      simp [hj]
theorem Turned.right {X L : List Int} {i m : Nat} (h : Turned X L i m 32) (hX : ∀ y ∈ X, 0 ≤ y ∧ y ≤ 255) (hm : m < 4294967296) (hi : i + 32 ≤ 8 * X.length) (hr : crcR X = crcIt 32 ones) : rightB L = decide (m = 0) := by
  rw [rightB_eq L h.2.1 (by rw [h.1]; omega)]
  congr 1
  apply propext
  have hz : bitsB L = List.zipWith (· ^^ ·) (bitsB X) (List.replicate i false ++ bitsOf 32 m ++ List.replicate (8 * X.length - i - 32) false) := by
    apply List.ext_getElem?
    intro j
    rcases Nat.lt_or_ge j (8 * X.length) with k | k
    · rw [bits_get L j (by rw [h.1]; exact k), List.getElem?_zipWith, bits_get X j k, h.2.2 j]
      rcases Nat.lt_or_ge j i with k1 | k1
      · have e : (List.replicate i false ++ bitsOf 32 m ++ List.replicate (8 * X.length - i - 32) false)[j]? = some false := by
          rw [List.append_assoc, List.getElem?_append_left (by simpa using k1)]
          simp [k1]
        have d : decide (i ≤ j) = false := by simp; omega
        rw [e, d]
        simp
      · rcases Nat.lt_or_ge j (i + 32) with k2 | k2
        · have e : (List.replicate i false ++ bitsOf 32 m ++ List.replicate (8 * X.length - i - 32) false)[j]? = some (m.testBit (31 - (j - i))) := by
            rw [List.append_assoc, List.getElem?_append_right (by simpa using k1), List.length_replicate, List.getElem?_append_left (by rw [bitsOf_length]; omega), bitsOf_get 32 m (j - i) (by omega)]
          have d1 : decide (i ≤ j) = true := by simpa using k1
          have d2 : decide (j < i + 32) = true := by simpa using k2
          rw [e, d1, d2]
          simp
        · have e : (List.replicate i false ++ bitsOf 32 m ++ List.replicate (8 * X.length - i - 32) false)[j]? = some false := by
            rw [List.getElem?_append_right (by simp [bitsOf_length]; omega), List.getElem?_replicate, if_pos (by simp [bitsOf_length]; omega)]
          have d2 : decide (j < i + 32) = false := by simp; omega
          rw [e, d2]
          simp
    · rw [List.getElem?_eq_none (by rw [bitsB_length, h.1]; exact k), List.getElem?_eq_none (by simp [bitsB_length, bitsOf_length]; omega)]
  have kb := crc_burst (bitsB X) i 32 m (8 * X.length - i - 32) (Nat.le_refl _) hm (by rw [bitsB_length]; omega)
  rw [← hz] at kb
  unfold crcR at hr ⊢
  rw [← hr]
  exact kb
/-- the bit of the mask that the law asks for -/
theorem mask_bit (m k : Nat) (hm : m < 4294967296) (hk : k < 32) : (m : Int) * 2 ^ k % 4294967296 / 2147483648 = if m.testBit (31 - k) then 1 else 0 := by
  have e : (m : Int) * 2 ^ k % 4294967296 / 2147483648 = ((m * 2 ^ k % 4294967296 / 2147483648 : Nat) : Int) := by
    rw [Int.natCast_ediv, Int.natCast_emod, Int.natCast_mul, Int.natCast_pow]
    rfl
  have e2 : m * 2 ^ k % 4294967296 / 2147483648 = m * 2 ^ k / 2147483648 % 2 := by omega
  have e3 : m * 2 ^ k / 2147483648 = m / 2 ^ (31 - k) := by
    have : 2147483648 = 2 ^ (31 - k) * 2 ^ k := by rw [← Nat.pow_add, show 31 - k + k = 31 by omega]
    rw [this, Nat.mul_div_mul_right _ _ (Nat.two_pow_pos k)]
  rw [e, e2, e3, Nat.testBit_eq_decide_div_mod_eq]
  by_cases h : m / 2 ^ (31 - k) % 2 = 1
  · simp [h]
  · have h0 : m / 2 ^ (31 - k) % 2 = 0 := by omega
    simp [h0]
end Go.Proofs.Ytmoihbpjcdmmbaa
