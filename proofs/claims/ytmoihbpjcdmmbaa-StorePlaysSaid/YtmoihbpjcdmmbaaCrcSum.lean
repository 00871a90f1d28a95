/-
  DERIVED. Plain facts on the checksum of layer 5, byte by byte: the sum; when bytes end with their sum; what a change of bits does.
-/
import Derived.Test.YtmoihbpjcdmmbaaCrcPlain
namespace Go.Proofs.Ytmoihbpjcdmmbaa
set_option linter.unusedVariables false

theorem bitsOf_mod (k n m : Nat) (h : k ≤ m) : bitsOf k (n % 2 ^ m) = bitsOf k n := by
  induction k with
  | zero => rfl
  | succ j ih => simp [bitsOf, ih (by omega), Nat.testBit_mod_two_pow, show j < m by omega]
/-- a number's bits in two parts -/
theorem bitsOf_split : ∀ (a b x y : Nat), y < 2 ^ b → bitsOf (a + b) (x * 2 ^ b + y) = bitsOf a x ++ bitsOf b y := by
  intro a
  induction a with
  | zero =>
    intro b x y hy
    rw [Nat.zero_add, ← bitsOf_mod b (x * 2 ^ b + y) b (Nat.le_refl _), Nat.mul_comm, Nat.mul_add_mod, Nat.mod_eq_of_lt hy]
    rfl
  | succ a ih =>
    intro b x y hy
    rw [show a + 1 + b = (a + b) + 1 by omega]
    simp only [bitsOf, List.cons_append, ih b x y hy]
    congr 1
    rw [Nat.mul_comm, Nat.testBit_two_pow_mul_add _ hy, if_neg (by omega)]
    congr 1
    omega
/-- bytes' bits -/
def bitsB (l : List Int) : List Bool := (l.map fun y => bitsOf 8 y.toNat).flatten
theorem bitsB_nil : bitsB [] = [] := rfl
theorem bitsB_cons (y : Int) (l : List Int) : bitsB (y :: l) = bitsOf 8 y.toNat ++ bitsB l := rfl
theorem bitsB_append (l m : List Int) : bitsB (l ++ m) = bitsB l ++ bitsB m := by simp [bitsB]
theorem bitsB_length : ∀ (l : List Int), (bitsB l).length = 8 * l.length
  | [] => rfl
  | y :: l => by rw [bitsB_cons, List.length_append, bitsOf_length, bitsB_length l, List.length_cons]; omega
/-- a byte taken in: into the eight highest bits, then eight steps -/
def crcByte (c : B32) (y : Nat) : B32 := crcIt 8 (c ^^^ (BitVec.ofNat 32 y <<< 24))
theorem crcReg_byte (c : B32) (y : Nat) (h : y < 256) : crcReg c (bitsOf 8 y) = crcByte c y := crcReg_bits 8 (by omega) c y h
def ones : B32 := 0xffffffff#32
def crcR (l : List Int) : B32 := crcReg ones (bitsB l)
theorem crcR_snoc (l : List Int) (y : Int) (h : 0 ≤ y ∧ y ≤ 255) : crcR (l ++ [y]) = crcByte (crcR l) y.toNat := by
  unfold crcR
  rw [bitsB_append, crcReg_append, show bitsB [y] = bitsOf 8 y.toNat by simp [bitsB], crcReg_byte _ _ (by omega)]
def crcSum (l : List Int) : B32 := ~~~ (crcR l)
/-- four bytes as a number -/
def be4 (a b c d : Int) : Nat := ((a.toNat * 256 + b.toNat) * 256 + c.toNat) * 256 + d.toNat
theorem bits_be4 (a b c d : Int) (hb : b ≤ 255) (hc : c ≤ 255) (hd : d ≤ 255) : bitsB [a, b, c, d] = bitsOf 32 (be4 a b c d) := by
  unfold be4
  have e3 := bitsOf_split 24 8 ((a.toNat * 256 + b.toNat) * 256 + c.toNat) d.toNat (by omega)
  have e2 := bitsOf_split 16 8 (a.toNat * 256 + b.toNat) c.toNat (by omega)
  have e1 := bitsOf_split 8 8 a.toNat b.toNat (by omega)
  simp only [show (2 : Nat) ^ 8 = 256 from rfl, Nat.reduceAdd] at e1 e2 e3
  rw [e3, e2, e1]
  simp [bitsB]
theorem be4_lt (a b c d : Int) (ha : a ≤ 255) (hb : b ≤ 255) (hc : c ≤ 255) (hd : d ≤ 255) : be4 a b c d < 4294967296 := by unfold be4; omega
theorem xor_ones (c : B32) (n : Nat) (hn : n < 4294967296) : c ^^^ BitVec.ofNat 32 n = ones ↔ n = (~~~ c).toNat := by
  have ho : ∀ c : B32, ~~~ c = c ^^^ ones := fun c => by
    rw [BitVec.xor_comm]
    exact (BitVec.allOnes_xor (x := c)).symm
  have hx : ∀ a b : B32, a ^^^ (a ^^^ b) = b := fun a b => by rw [← BitVec.xor_assoc, BitVec.xor_self, BitVec.zero_xor]
  constructor
  · intro h
    have : BitVec.ofNat 32 n = ~~~ c := by rw [ho, ← h, hx]
    rw [← this, BitVec.toNat_ofNat]
    omega
  · intro h
    have : BitVec.ofNat 32 n = ~~~ c := by rw [h, BitVec.ofNat_toNat, BitVec.setWidth_eq]
    rw [this, ho, hx]
/-- bytes end with their sum just if their register comes to this -/
theorem crc_right (m : List Int) (a b c d : Int) (ha : a ≤ 255) (hb : b ≤ 255) (hc : c ≤ 255) (hd : d ≤ 255) : be4 a b c d = (crcSum m).toNat ↔ crcR (m ++ [a, b, c, d]) = crcIt 32 ones := by
  unfold crcR crcSum
  have hl := be4_lt a b c d ha hb hc hd
  rw [bitsB_append, crcReg_append, bits_be4 a b c d hb hc hd, crcReg_bits 32 (Nat.le_refl _) _ _ hl, Nat.sub_self, BitVec.shiftLeft_zero, ← xor_ones _ _ hl]
  constructor
  · intro h; unfold crcR at h; rw [h]
  · intro h; exact crcIt_inj 32 h
theorem crcReg_ones_xor (l e : List Bool) (h : l.length = e.length) : crcReg ones (List.zipWith (· ^^ ·) l e) = crcReg ones l ^^^ crcReg 0#32 e := by
  have := crcReg_xor l e h ones 0#32
  rwa [BitVec.xor_zero] at this
theorem xor_eq_left {a b : B32} : a ^^^ b = a ↔ b = 0#32 := by
  constructor
  · intro h
    have : a ^^^ (a ^^^ b) = a ^^^ a := by rw [h]
    rwa [← BitVec.xor_assoc, BitVec.xor_self, BitVec.zero_xor] at this
  · rintro rfl; simp
/-- bits changed within k neighbours: the register is another, unless none was changed -/
theorem crc_burst (l : List Bool) (i k n r : Nat) (hk : k ≤ 32) (hn : n < 2 ^ k) (hl : l.length = i + k + r) :
    crcReg ones (List.zipWith (· ^^ ·) l (List.replicate i false ++ bitsOf k n ++ List.replicate r false)) = crcReg ones l ↔ n = 0 := by
  rw [crcReg_ones_xor _ _ (by simp [bitsOf_length]; omega), xor_eq_left, crcReg_append, crcReg_append, crcReg_falses, crcReg_falses, crcIt_zero, crcReg_bits k hk _ _ hn, BitVec.zero_xor]
  constructor
  · intro h
    have h1 : BitVec.ofNat 32 n <<< (32 - k) = 0#32 := crcIt_inj k ((crcIt_inj r (h.trans (crcIt_zero r).symm)).trans (crcIt_zero k).symm)
    have h2 := congrArg BitVec.toNat h1
    rw [BitVec.toNat_shiftLeft, BitVec.toNat_ofNat, Nat.shiftLeft_eq, BitVec.toNat_zero] at h2
    have hp : 2 ^ k * 2 ^ (32 - k) = 2 ^ 32 := by rw [← Nat.pow_add]; congr 1; omega
    have hlt : n * 2 ^ (32 - k) < 2 ^ 32 := by rw [← hp]; exact Nat.mul_lt_mul_of_pos_right hn (Nat.two_pow_pos _)
    have hle : n < 2 ^ 32 := Nat.lt_of_lt_of_le hn (Nat.pow_le_pow_right (by omega) hk)
    rw [Nat.mod_eq_of_lt hle, Nat.mod_eq_of_lt hlt] at h2
    rcases Nat.mul_eq_zero.1 h2 with h | h
    · exact h
    · have := Nat.two_pow_pos (32 - k); omega
  · rintro rfl
    simp [crcIt_zero]
/-- bytes that differ by the same -/
theorem bitsB_xor : ∀ (l m : List Int), (∀ y ∈ l, 0 ≤ y ∧ y ≤ 255) → (∀ y ∈ m, 0 ≤ y ∧ y ≤ 255) → l.length = m.length → bitsB (List.zipWith (fun x y => ((x.toNat ^^^ y.toNat : Nat) : Int)) l m) = List.zipWith (· ^^ ·) (bitsB l) (bitsB m)
  | [], [], _, _, _ => rfl
  | x :: l, y :: m, hx, hy, h => by
    rw [List.zipWith_cons_cons, bitsB_cons, bitsB_cons, bitsB_cons, Int.toNat_natCast, bitsOf_xor, List.zipWith_append (by rw [bitsOf_length, bitsOf_length]), bitsB_xor l m (fun z hz => hx z (by simp [hz])) (fun z hz => hy z (by simp [hz])) (by simpa using h)]
end Go.Proofs.Ytmoihbpjcdmmbaa
