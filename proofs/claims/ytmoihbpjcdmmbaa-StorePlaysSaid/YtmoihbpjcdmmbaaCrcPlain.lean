/-
  DERIVED. Plain facts on the checksum of layer 5: a register of 32 bits, bit by bit; it is linear; nothing but nought comes to nought.
-/
import Derived.Laws.Bits64
namespace Go.Proofs.Ytmoihbpjcdmmbaa
set_option linter.unusedVariables false

abbrev B32 := BitVec 32
def crcP : B32 := 0x04c11db7#32
/-- one bit further -/
def crcStep (c : B32) : B32 := if c.msb then (c <<< 1) ^^^ crcP else c <<< 1
theorem crcStep_xor (a b : B32) : crcStep (a ^^^ b) = crcStep a ^^^ crcStep b := by
  unfold crcStep
  rw [BitVec.msb_xor, BitVec.shiftLeft_xor_distrib]
  have e : ∀ x y z : B32, x ^^^ z ^^^ (y ^^^ z) = x ^^^ y := fun x y z => by
    rw [show x ^^^ z ^^^ (y ^^^ z) = x ^^^ y ^^^ (z ^^^ z) by ac_rfl, BitVec.xor_self, BitVec.xor_zero]
  cases ha : a.msb <;> cases hb : b.msb
  · rfl
  · simp; ac_rfl
  · simp; ac_rfl
  · simpa using (e (a <<< 1) (b <<< 1) crcP).symm
theorem crcStep_zero : crcStep 0#32 = 0#32 := by decide
theorem crcStep_inj0 {a : B32} (h : crcStep a = 0#32) : a = 0#32 := by
  unfold crcStep at h
  split at h
  · have h0 := congrArg (fun x : B32 => x.getLsbD 0) h
    simp [crcP] at h0
  · rename_i hm
    have hm' : a.msb = false := by simpa using hm
    apply BitVec.eq_of_getLsbD_eq
    intro i hi
    rcases Nat.lt_or_ge i 31 with k | k
    · have := congrArg (fun x : B32 => x.getLsbD (i + 1)) h
      simp only [BitVec.getLsbD_shiftLeft, BitVec.getLsbD_zero] at this
      simpa [show i + 1 < 32 by omega] using this
    · obtain rfl : i = 31 := by omega
      rw [BitVec.msb_eq_getLsbD_last] at hm'
      simpa using hm'
theorem crcStep_inj {a b : B32} (h : crcStep a = crcStep b) : a = b := by
  have : crcStep (a ^^^ b) = 0#32 := by rw [crcStep_xor, h, BitVec.xor_self]
  exact BitVec.xor_eq_zero_iff.1 (crcStep_inj0 this)

def top : B32 := 0x80000000#32
/-- a bit taken in -/
def crcBit (c : B32) (b : Bool) : B32 := crcStep (if b then c ^^^ top else c)
theorem crcBit_xor (a b : B32) (x y : Bool) : crcBit (a ^^^ b) (x ^^ y) = crcBit a x ^^^ crcBit b y := by
  unfold crcBit
  rw [← crcStep_xor]
  congr 1
  cases x <;> cases y <;> simp
  · ac_rfl
  · ac_rfl
  · rw [show a ^^^ top ^^^ (b ^^^ top) = a ^^^ b ^^^ (top ^^^ top) by ac_rfl]; simp
/-- bits taken in -/
def crcReg (c : B32) (l : List Bool) : B32 := l.foldl crcBit c
theorem crcReg_nil (c : B32) : crcReg c [] = c := rfl
theorem crcReg_cons (c : B32) (b : Bool) (l : List Bool) : crcReg c (b :: l) = crcReg (crcBit c b) l := rfl
theorem crcReg_append (c : B32) (l m : List Bool) : crcReg c (l ++ m) = crcReg (crcReg c l) m := List.foldl_append
theorem crcReg_xor : ∀ (l m : List Bool), l.length = m.length → ∀ (a b : B32), crcReg (a ^^^ b) (List.zipWith (· ^^ ·) l m) = crcReg a l ^^^ crcReg b m
  | [], [], _, a, b => rfl
  | x :: l, y :: m, h, a, b => by
    simp only [List.zipWith_cons_cons, crcReg_cons, crcBit_xor]
    exact crcReg_xor l m (by simpa using h) _ _
theorem crcBit_false (c : B32) : crcBit c false = crcStep c := rfl
/-- noughts alone -/
def crcIt : Nat → B32 → B32
  | 0, c => c
  | n + 1, c => crcIt n (crcStep c)
theorem crcIt_xor : ∀ (n : Nat) (a b : B32), crcIt n (a ^^^ b) = crcIt n a ^^^ crcIt n b
  | 0, a, b => rfl
  | n + 1, a, b => by simp only [crcIt, crcStep_xor, crcIt_xor n]
theorem crcIt_inj : ∀ (n : Nat) {a b : B32}, crcIt n a = crcIt n b → a = b
  | 0, a, b, h => h
  | n + 1, a, b, h => crcStep_inj (crcIt_inj n h)
theorem crcIt_zero : ∀ (n : Nat), crcIt n 0#32 = 0#32
  | 0 => rfl
  | n + 1 => by simp only [crcIt, crcStep_zero, crcIt_zero n]
theorem crcIt_add : ∀ (n m : Nat) (c : B32), crcIt (n + m) c = crcIt m (crcIt n c)
  | 0, m, c => by rw [Nat.zero_add]; rfl
  | n + 1, m, c => by rw [Nat.succ_add]; exact crcIt_add n m _
theorem crcReg_falses : ∀ (n : Nat) (c : B32), crcReg c (List.replicate n false) = crcIt n c
  | 0, c => rfl
  | n + 1, c => by rw [List.replicate_succ, crcReg_cons, crcBit_false, crcReg_falses n]; rfl
theorem crcReg_off (c : B32) (l : List Bool) : crcReg c l = crcIt l.length c ^^^ crcReg 0#32 l := by
  have := crcReg_xor (List.replicate l.length false) l (by simp) c 0#32
  rw [BitVec.xor_zero, crcReg_falses] at this
  rw [← this]
  congr 1
  apply List.ext_getElem
  · simp
  · intro i h1 h2; simp

/-- a number's bits, the highest first -/
def bitsOf : Nat → Nat → List Bool
  | 0, n => []
  | k + 1, n => n.testBit k :: bitsOf k n
theorem bitsOf_length : ∀ (k n : Nat), (bitsOf k n).length = k
  | 0, n => rfl
  | k + 1, n => by simp [bitsOf, bitsOf_length k n]
theorem bitsOf_xor : ∀ (k a b : Nat), bitsOf k (a ^^^ b) = List.zipWith (· ^^ ·) (bitsOf k a) (bitsOf k b)
  | 0, a, b => rfl
  | k + 1, a, b => by simp [bitsOf, bitsOf_xor k a b, Nat.testBit_xor]
theorem bitsOf_zero : ∀ (k : Nat), bitsOf k 0 = List.replicate k false
  | 0 => rfl
  | k + 1 => by simp [bitsOf, bitsOf_zero k, List.replicate_succ]
/-- so many bits into nought: as if they had stood there from the start -/
theorem crcReg_bits : ∀ (k : Nat), k ≤ 32 → ∀ (c : B32) (n : Nat), n < 2 ^ k → crcReg c (bitsOf k n) = crcIt k (c ^^^ (BitVec.ofNat 32 n <<< (32 - k)))
  | 0, _, c, n, hn => by
    have : n = 0 := by simpa using hn
    subst this
    simp [bitsOf, crcReg_nil, crcIt]
  | k + 1, hk, c, n, hn => by
    rw [bitsOf, crcReg_cons]
    have hlow : bitsOf k n = bitsOf k (n % 2 ^ k) := by
      have : ∀ j, j ≤ k → bitsOf j n = bitsOf j (n % 2 ^ k) := by
        intro j
        induction j with
        | zero => intro _; rfl
        | succ j ih => intro hj; simp [bitsOf, ih (by omega), Nat.testBit_mod_two_pow, show j < k by omega]
      exact this k (Nat.le_refl _)
    rw [hlow, crcReg_bits k (by omega) _ _ (Nat.mod_lt _ (Nat.two_pow_pos k))]
    simp only [crcIt]
    congr 1
    unfold crcBit
    -- the bits below the top one only move up
    have ek : 32 - (k + 1) = 31 - k := by omega
    rw [ek]
    have hs : BitVec.ofNat 32 (n % 2 ^ k) <<< (32 - k) = crcStep (BitVec.ofNat 32 (n % 2 ^ k) <<< (31 - k)) := by
      have hm : (BitVec.ofNat 32 (n % 2 ^ k) <<< (31 - k)).msb = false := by
        rw [BitVec.msb_eq_getLsbD_last, BitVec.getLsbD_shiftLeft, BitVec.getLsbD_ofNat, Nat.testBit_mod_two_pow, show 32 - 1 - (31 - k) = k by omega]
        simp
      unfold crcStep
      rw [hm, if_neg (by simp), ← BitVec.shiftLeft_add]
      congr 1
      omega
    rw [hs, ← crcStep_xor]
    congr 1
    have ht : BitVec.ofNat 32 n <<< (31 - k) = (if n.testBit k then top else 0#32) ^^^ (BitVec.ofNat 32 (n % 2 ^ k) <<< (31 - k)) := by
      apply BitVec.eq_of_getLsbD_eq
      intro i hi
      have htop : top.getLsbD i = decide (i = 31) := by
        have : ∀ i, i < 32 → top.getLsbD i = decide (i = 31) := by decide
        exact this i hi
      rw [BitVec.getLsbD_xor, BitVec.getLsbD_shiftLeft, BitVec.getLsbD_shiftLeft, BitVec.getLsbD_ofNat, BitVec.getLsbD_ofNat, Nat.testBit_mod_two_pow]
      have hif : (if n.testBit k then top else 0#32).getLsbD i = (n.testBit k && decide (i = 31)) := by
        split
        · rename_i h; rw [htop, h]; simp
        · rename_i h; simp at h; simp [h]
      rw [hif]
      have d32 : decide (i < 32) = true := by simpa using hi
      have d32' : decide (i - (31 - k) < 32) = true := by simp; omega
      rw [d32, d32']
      rcases Nat.lt_or_ge i (31 - k) with h | h
      · have d1 : decide (i < 31 - k) = true := by simpa using h
        have d2 : decide (i = 31) = false := by simp; omega
        rw [d1, d2]
        simp
      · have d1 : decide (i < 31 - k) = false := by simp; omega
        rw [d1]
        rcases Nat.lt_or_ge i 31 with h2 | h2
        · have d2 : decide (i = 31) = false := by simp; omega
          have d3 : decide (i - (31 - k) < k) = true := by simp; omega
          rw [d2, d3]
          simp
        · obtain rfl : i = 31 := by omega
          have e1 : 31 - (31 - k) = k := by omega
          rw [e1]
          simp
    rw [ht]
    cases n.testBit k <;> simp <;> ac_rfl
end Go.Proofs.Ytmoihbpjcdmmbaa
