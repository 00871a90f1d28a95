/-
  DERIVED. Plain facts on the document's way to the sum: division bit by bit, in place, is the register.
-/
import Derived.Test.YtjghfknpgnecgaaCrcFacts
namespace Go.Proofs.Ytjghfknpgnecgaa
open Go.RowKit
set_option linter.unusedVariables false

def b2i (b : Bool) : Int := if b then 1 else 0
theorem b2i_bd (b : Bool) : 0 ≤ b2i b ∧ b2i b ≤ 1 := by cases b <;> decide
theorem b2i_not (b : Bool) : 1 - b2i b = b2i (!b) := by cases b <;> decide
/-- bits as bytes of 0 and 1 -/
def bitV (l : List Bool) : List Int := l.map b2i
theorem bitV_length (l : List Bool) : (bitV l).length = l.length := List.length_map ..
theorem bitV_append (l m : List Bool) : bitV (l ++ m) = bitV l ++ bitV m := List.map_append
theorem bitV_set (l : List Bool) (i : Nat) (b : Bool) : (bitV l).set i (b2i b) = bitV (l.set i b) := by unfold bitV; rw [List.map_set]
theorem bitV_get (l : List Bool) (i : Nat) (h : i < l.length) : (bitV l)[i]? = some (b2i (l.getD i false)) := by simp [bitV, List.getD, h]
theorem bitV_bd (l : List Bool) : ∀ y ∈ bitV l, 0 ≤ y ∧ y ≤ 255 := by
  intro y hy
  obtain ⟨b, _, rfl⟩ := List.mem_map.1 hy
  have := b2i_bd b
  omega
theorem bitV_zeros (n : Nat) : bitV (List.replicate n false) = List.replicate n 0 := by simp [bitV, b2i]

/-- the bit at p turned -/
def flipB (l : List Bool) (p : Nat) : List Bool := l.set p (!l.getD p false)
theorem flipB_length (l : List Bool) (p : Nat) : (flipB l p).length = l.length := List.length_set
theorem flipB_split (l : List Bool) (p : Nat) (h : p < l.length) : ∃ A b B, l = A ++ b :: B ∧ flipB l p = A ++ (!b) :: B ∧ A.length = p ∧ B.length = l.length - 1 - p := by
  refine ⟨l.take p, l[p], l.drop (p + 1), by simp, ?_, by simp; omega, by simp; omega⟩
  unfold flipB
  rw [List.set_eq_take_append_cons_drop, if_pos h]
  simp [List.getD, h]
theorem crcReg_two (a d : B32) (B : List Bool) : crcReg (a ^^^ d) B = crcReg a B ^^^ crcIt B.length d := by
  rw [crcReg_off (a ^^^ d), crcReg_off a, crcIt_xor]
  ac_rfl
theorem crcBit_not (c : B32) (b : Bool) : crcBit c (!b) = crcBit c b ^^^ crcP := by
  have := crcBit_xor c 0#32 b true
  rw [BitVec.xor_zero, show crcBit 0#32 true = crcP by decide] at this
  rw [← this]
  congr 1
  cases b <;> rfl
theorem crcReg_flip (l : List Bool) (p : Nat) (h : p < l.length) : crcReg 0#32 (flipB l p) = crcReg 0#32 l ^^^ crcIt (l.length - 1 - p) crcP := by
  obtain ⟨A, b, B, e1, e2, _, e4⟩ := flipB_split l p h
  rw [e2, ← e4, e1, crcReg_append, crcReg_append, crcReg_cons, crcReg_cons, crcBit_not, crcReg_two]
/-- the places of the divisor's bits -/
def terms : List Nat := [0, 6, 9, 10, 16, 20, 21, 22, 24, 25, 27, 28, 30, 31, 32]
def term (k : Nat) : Nat := terms.getD k 0
theorem term_le : ∀ k, k < 15 → term k ≤ 32 := by decide
theorem term_pos : ∀ k, k < 15 → 0 < k → 0 < term k := by decide
def flips (l : List Bool) (i : Nat) : Nat → List Bool
  | 0 => l
  | k + 1 => flipB (flips l i k) (i + term k)
theorem flips_length (l : List Bool) (i : Nat) : ∀ k, (flips l i k).length = l.length
  | 0 => rfl
  | k + 1 => by rw [flips, flipB_length, flips_length l i k]
def accum : Nat → B32
  | 0 => 0#32
  | k + 1 => accum k ^^^ crcIt (32 - term k) crcP
theorem accum_15 : accum 15 = 0#32 := by decide +kernel
theorem flips_reg (l : List Bool) (i : Nat) (h : i + 32 < l.length) : ∀ k, k ≤ 15 → crcReg 0#32 (flips l i k) = crcReg 0#32 l ^^^ crcIt (l.length - 33 - i) (accum k)
  | 0, _ => by rw [flips, accum, crcIt_zero, BitVec.xor_zero]
  | k + 1, hk => by
    have ht := term_le k (by omega)
    rw [flips, crcReg_flip _ _ (by rw [flips_length]; omega), flips_reg l i h k (by omega), flips_length, accum, crcIt_xor, show l.length - 1 - (i + term k) = (32 - term k) + (l.length - 33 - i) by omega, crcIt_add]
    ac_rfl
theorem flipB_get (l : List Bool) (p j : Nat) (h : j ≠ p) : (flipB l p).getD j false = l.getD j false := by
  unfold flipB
  simp [List.getD, Ne.symm h]
theorem flipB_self (l : List Bool) (p : Nat) (h : p < l.length) : (flipB l p).getD p false = !l.getD p false := by
  unfold flipB
  simp [List.getD, h]
theorem flips_below (l : List Bool) (i j : Nat) (h : j < i) : ∀ k, (flips l i k).getD j false = l.getD j false
  | 0 => rfl
  | k + 1 => by rw [flips, flipB_get _ _ _ (by omega), flips_below l i j h k]
theorem flips_at (l : List Bool) (i : Nat) (h : i < l.length) : ∀ k, k < 15 → (flips l i (k + 1)).getD i false = !l.getD i false
  | 0, _ => by
    rw [flips, flips, show i + term 0 = i from rfl, flipB_self l i h]
  | k + 1, hk => by
    have := term_pos (k + 1) hk (by omega)
    rw [flips, flipB_get _ _ _ (by omega), flips_at l i h k (by omega)]
/-- one step of the division -/
theorem flips_all (l : List Bool) (i : Nat) (h : i + 32 < l.length) (h1 : l.getD i false = true) (hz : ∀ j, j < i → l.getD j false = false) :
    (flips l i 15).length = l.length ∧ crcReg 0#32 (flips l i 15) = crcReg 0#32 l ∧ ∀ j, j < i + 1 → (flips l i 15).getD j false = false := by
  refine ⟨flips_length _ _ _, by rw [flips_reg l i h 15 (by omega), accum_15, crcIt_zero, BitVec.xor_zero], fun j hj => ?_⟩
  by_cases hji : j = i
  · subst hji
    rw [flips_at l j (by omega) 14 (by omega), h1]
    rfl
  · rw [flips_below l i j (by omega), hz j (by omega)]

/-- the first i bits turned -/
def firsts (l : List Bool) (i : Nat) : List Bool := (l.take i).map (!·) ++ l.drop i
theorem firsts_length (l : List Bool) (i : Nat) : (firsts l i).length = l.length := by simp [firsts]; omega
theorem firsts_get (l : List Bool) (i : Nat) (h : i < l.length) : (firsts l i).getD i false = l.getD i false := by
  unfold firsts
  have e : ((l.take i).map (!·)).length = i := by simp; omega
  rw [List.getD, List.getElem?_append_right (by omega), e, Nat.sub_self]
  simp [List.getD]
theorem firsts_set (l : List Bool) (i : Nat) (h : i < l.length) : (firsts l i).set i (!(firsts l i).getD i false) = firsts l (i + 1) := by
  rw [firsts_get l i h]
  unfold firsts
  have e : ((l.take i).map (!·)).length = i := by simp; omega
  rw [List.set_append_right _ _ (by omega), e, Nat.sub_self, List.drop_eq_getElem_cons h, List.set_cons_zero, List.take_add_one, List.getElem?_eq_getElem h, List.map_append, List.append_assoc]
  congr 1
  simp [List.getD, h]
theorem firsts_xor (l : List Bool) (h : 32 ≤ l.length) : firsts l 32 = List.zipWith (· ^^ ·) l (List.replicate 32 true ++ List.replicate (l.length - 32) false) := by
  apply List.ext_getElem?
  intro j
  unfold firsts
  rcases Nat.lt_or_ge j 32 with k | k
  · rw [List.getElem?_append_left (by simp; omega), List.getElem?_zipWith, List.getElem?_append_left (by simpa using k)]
    have hj : j < l.length := by omega
    rw [List.getElem?_map, List.getElem?_take_of_lt k, List.getElem?_eq_getElem hj, List.getElem?_replicate, if_pos k]
    simp
  · rw [List.getElem?_append_right (by simp; omega), List.getElem?_zipWith, List.getElem?_append_right (by simpa using k)]
    have e : ((l.take 32).map (!·)).length = 32 := by simp; omega
    rw [e, List.getElem?_drop, show 32 + (j - 32) = j by omega]
    rcases Nat.lt_or_ge j l.length with k2 | k2
    · rw [List.getElem?_eq_getElem k2, List.length_replicate, List.getElem?_replicate, if_pos (by omega)]
      simp
    · rw [List.getElem?_eq_none k2]
theorem bits_ones : bitsOf 32 4294967295 = List.replicate 32 true := by decide +kernel
/-- where the division starts -/
theorem start_reg (M : List Bool) : crcReg 0#32 (firsts (M ++ List.replicate 32 false) 32) = crcIt 32 (crcReg ones M) := by
  have hl : (M ++ List.replicate 32 false).length = M.length + 32 := by simp
  have e1 : crcReg 0#32 (List.replicate 32 true) = crcIt 32 ones := by
    rw [← bits_ones, crcReg_bits 32 (Nat.le_refl _) _ _ (by omega)]
    rfl
  have k := crcReg_xor (M ++ List.replicate 32 false) (List.replicate 32 true ++ List.replicate M.length false) (by rw [List.length_append, List.length_append, List.length_replicate, List.length_replicate, List.length_replicate]; omega) 0#32 0#32
  rw [BitVec.xor_zero] at k
  have k1 : crcReg 0#32 (M ++ List.replicate 32 false) = crcIt 32 (crcReg 0#32 M) := by rw [crcReg_append, crcReg_falses]
  have k2 : crcReg 0#32 (List.replicate 32 true ++ List.replicate M.length false) = crcIt 32 (crcIt M.length ones) := by
    rw [crcReg_append, crcReg_falses, e1]
    exact ((crcIt_add 32 M.length ones).symm.trans (congrArg (fun n => crcIt n ones) (Nat.add_comm 32 M.length))).trans (crcIt_add M.length 32 ones)
  have k3 := crcReg_off ones M
  have k4 := firsts_xor (M ++ List.replicate 32 false) (by rw [hl]; omega)
  rw [hl, Nat.add_sub_cancel] at k4
  rw [k4, k, k1, k2, k3, crcIt_xor, BitVec.xor_comm]
/-- bits as a number -/
def numB (l : List Bool) : Nat := l.foldl (fun n b => n * 2 + (b2i b).toNat) 0
theorem numB_snoc (l : List Bool) (b : Bool) : numB (l ++ [b]) = numB l * 2 + (b2i b).toNat := by simp [numB, List.foldl_append]
theorem b2i_le (b : Bool) : (b2i b).toNat ≤ 1 := by cases b <;> decide
theorem numB_lt (l : List Bool) : ∀ k, numB (l.take k) < 2 ^ k
  | 0 => by simp [numB]
  | k + 1 => by
    have ih := numB_lt l k
    rcases h : l[k]? with _ | b
    · rw [List.take_add_one, h]
      simp
      rw [Nat.pow_succ]
      omega
    · rw [List.take_add_one, h, show (some b).toList = [b] from rfl, numB_snoc, Nat.pow_succ]
      have := b2i_le b
      omega
theorem bitsOf_num : ∀ (k : Nat) (l : List Bool), k ≤ l.length → bitsOf k (numB (l.take k)) = l.take k
  | 0, l, _ => by simp [bitsOf]
  | k + 1, l, h => by
    have e : l.take (k + 1) = l.take k ++ [l[k]] := by rw [List.take_add_one, List.getElem?_eq_getElem (by omega)]; rfl
    have s := bitsOf_split k 1 (numB (l.take k)) (b2i l[k]).toNat (by have := b2i_le l[k]; omega)
    rw [e, numB_snoc]
    rw [Nat.pow_one] at s
    rw [s, bitsOf_num k l (by omega)]
    congr 1
    cases l[k] <;> rfl
theorem numB_not (l : List Bool) : ∀ k, k ≤ l.length → numB ((l.map (!·)).take k) + numB (l.take k) + 1 = 2 ^ k
  | 0, _ => by simp [numB]
  | k + 1, h => by
    have ih := numB_not l k (by omega)
    have e : l.take (k + 1) = l.take k ++ [l[k]] := by rw [List.take_add_one, List.getElem?_eq_getElem (by omega)]; rfl
    have e2 : (l.map (!·)).take (k + 1) = (l.map (!·)).take k ++ [!l[k]] := by rw [List.take_add_one, List.getElem?_eq_getElem (by simp; omega)]; simp
    rw [e, e2, numB_snoc, numB_snoc, Nat.pow_succ]
    have h1 : (b2i (!l[k])).toNat + (b2i l[k]).toNat = 1 := by cases l[k] <;> decide
    omega
/-- where the division ends -/
theorem end_reg (l : List Bool) (n : Nat) (c : B32) (hl : l.length = n + 32) (hz : ∀ j, j < n → l.getD j false = false) (hr : crcReg 0#32 l = crcIt 32 c) : (numB ((l.drop n).map (!·)) : Int) = bN (~~~ c) := by
  have e : l = List.replicate n false ++ l.drop n := by
    have : l.take n = List.replicate n false := by
      apply List.ext_getElem
      · simp; omega
      · intro i h1 h2
        have hi : i < n := by simpa using h2
        have := hz i hi
        rw [List.getD, List.getElem?_eq_getElem (by omega)] at this
        simpa using this
    rw [← this, List.take_append_drop]
  have ld : (l.drop n).length = 32 := by simp; omega
  have ht : (l.drop n).take 32 = l.drop n := List.take_of_length_le (by omega)
  have hlt := numB_lt (l.drop n) 32
  have hb := bitsOf_num 32 (l.drop n) (by omega)
  have hn := numB_not (l.drop n) 32 (by omega)
  rw [ht] at hlt hb hn
  rw [List.take_of_length_le (by simp; omega)] at hn
  rw [e, crcReg_append, crcReg_falses, crcIt_zero, ← hb, crcReg_bits 32 (Nat.le_refl _) _ _ hlt, Nat.sub_self, BitVec.shiftLeft_zero, BitVec.zero_xor] at hr
  have hc := crcIt_inj 32 hr
  have hv : c.toNat = numB (l.drop n) := by
    rw [← hc, BitVec.toNat_ofNat]
    omega
  unfold bN
  rw [BitVec.toNat_not, hv]
  omega
end Go.Proofs.Ytjghfknpgnecgaa
