/-
  DERIVED. THE WALKS of layer 5 (crc): scan, Sum.
-/
import Derived.Test.YtmoihbpjcdmmbaaCrcSum
import Derived.Test.YtmoihbpjcdmmbaaClones
import Derived.Test.YtmoihbpjcdmmbaaMinMax
import Derived.Deep.LoopGhost
import Derived.Laws.BitsAllLaws
namespace Go.Proofs.Ytmoihbpjcdmmbaa
open Go.RowKit
set_option linter.unusedVariables false

theorem crcIt_last (i : Nat) (c : B32) : crcIt (i + 1) c = crcStep (crcIt i c) := crcIt_add i 1 c
/-- a register as the program's number -/
def bN (c : B32) : Int := (c.toNat : Int)
theorem bN_lt (c : B32) : 0 ≤ bN c ∧ bN c < 4294967296 := by have := c.isLt; unfold bN; omega
theorem bN_inj {c d : B32} (h : bN c = bN d) : c = d := BitVec.eq_of_toNat_eq (by unfold bN at h; omega)
/-- the highest bit, as the program asks for it -/
theorem bN_top (c : B32) : bits .and .u32 (bN c) 2147483648 = if c.msb then 2147483648 else 0 := by
  unfold bN
  rw [show (2147483648 : Int) = ((2147483648 : Nat) : Int) from rfl, u32_and_nat _ _ c.isLt (by omega)]
  have h : c.toNat &&& 2147483648 = (c &&& 0x80000000#32).toNat := by rw [BitVec.toNat_and]; rfl
  rw [h]
  have h2 : c &&& 0x80000000#32 = if c.msb then 0x80000000#32 else 0#32 := by
    apply BitVec.eq_of_getLsbD_eq
    intro i hi
    have ht : ∀ i, i < 32 → (0x80000000#32).getLsbD i = decide (i = 31) := by decide
    rw [BitVec.getLsbD_and, ht i hi, BitVec.msb_eq_getLsbD_last]
    by_cases h31 : i = 31
    · subst h31
      cases c.getLsbD 31 <;> simp
    · cases c.getLsbD (32 - 1) <;> simp [h31, ht i hi]
  rw [h2]
  cases c.msb <;> rfl
theorem bN_xor (c d : B32) : bits .xor .u32 (bN c) (bN d) = bN (c ^^^ d) := by
  unfold bN
  rw [u32_xor_nat _ _ c.isLt d.isLt, BitVec.toNat_xor]
theorem bN_shl1 (c : B32) : (bN c : Int) * (2 : Int) % (4294967296 : Int) = bN (c <<< (1 : Nat)) := by
  unfold bN
  rw [BitVec.toNat_shiftLeft, Nat.shiftLeft_eq]
  omega
theorem bN_not (c : B32) : bits .xor .u32 IntKind.u32.max (bN c) = bN (~~~ c) := by
  rw [show IntKind.u32.max = bN ones from rfl, bN_xor, show ones = BitVec.allOnes 32 from rfl, BitVec.allOnes_xor]
theorem bN_byte (y : Int) (h : 0 ≤ y ∧ y ≤ 255) : (y : Int) * (16777216 : Int) = bN (BitVec.ofNat 32 y.toNat <<< (24 : Nat)) := by
  unfold bN
  rw [BitVec.toNat_shiftLeft, Nat.shiftLeft_eq, BitVec.toNat_ofNat]
  omega

set_option maxRecDepth 100000 in
theorem scan_any (c : B32) (w : World) :
    Calls Try.prog 27 #[.int .u32 (bN c)] w fun e w' => e = .returned (.int .u32 (bN (crcIt 8 c))) ∧ w = w' := by
  go_enter Try.func27, Try.ntmps27
  go_wp2
  go_loopg [0, 4] 8 (fun k cv iv wr => ∃ i : Nat, i + k = 8 ∧ iv = .int .i64 i ∧ cv = .int .u32 (bN (crcIt i c)) ∧ w = wr)
  case atStart => exact ⟨0, by omega, rfl, rfl, rfl⟩
  case round =>
    obtain ⟨i, hik, rfl, rfl, rfl⟩ := hrel
    by_cases hi : i < 8
    · have ht := bN_top (crcIt i c)
      have hl := crcIt_last i c
      have hs := bN_shl1 (crcIt i c)
      have hx := bN_xor (crcIt i c <<< 1) crcP
      rw [show bN crcP = 79764919 from rfl] at hx
      have hlt := bN_lt (crcIt i c)
      generalize crcIt i c = d at *
      have HL := Lib.hid hl
      clear hl
      cases hm : d.msb
      · rw [hm] at ht
        simp only [Bool.false_eq_true, if_false] at ht
        go_wp2
        go_roundg (gk - 1)
        case measure => omega
        case rel => exact ⟨i + 1, by omega, rfl, by rw [HL.out, crcStep, if_neg (by simp [hm]), hs], rfl⟩
      · rw [hm] at ht
        simp only [if_true] at ht
        go_wp2
        go_roundg (gk - 1)
        case measure => omega
        case rel => exact ⟨i + 1, by omega, rfl, by rw [HL.out, crcStep, if_pos hm], rfl⟩
    · obtain rfl : i = 8 := by omega
      go_wp2
      go_ret
      exact ⟨rfl, rfl⟩

set_option maxRecDepth 100000 in
theorem sum_any (w : World) (v : Value) (l : List Int) (h : Arr w .u8 v l) :
    Calls Try.prog 24 #[v] w fun e w' => e = .returned (.int .u32 (bN (crcSum l))) ∧ w = w' := by
  have hb := h.bd
  obtain ⟨⟨ao, c, rfl, h1, h2, h3⟩, h4, h5⟩ := h
  have HC := Lib.hid h2
  have hmx : l.length ≤ 9223372036854775807 := by simp only [maxLen] at h4; omega
  clear h2 h3 h5 h4
  go_enter Try.func24, Try.ntmps24
  go_wp2
  go_loopg [3, 8] l.length (fun k cv iv wr => ∃ i : Nat, i + k = l.length ∧ iv = .int .i64 i ∧ cv = .int .u32 (bN (crcR (l.take i))) ∧ w = wr)
  case atStart => exact ⟨0, by omega, rfl, rfl, rfl⟩
  case round =>
    obtain ⟨i, hik, rfl, rfl, rfl⟩ := hrel
    by_cases hi : i < l.length
    · obtain ⟨g, off, rfl, hcell⟩ := HC.out (by intro e; subst e; simp at hi)
      obtain ⟨y, hy⟩ : ∃ y, l[i]? = some y := ⟨l[i], by simp [hi]⟩
      have hyb := hb y (List.mem_of_getElem? hy)
      have hci : w.cell? ⟨g, off + i, none⟩ = some (.int .u8 y) := by rw [hcell i hi]; simp [List.getD, hy]
      have hsn := crcR_snoc (l.take i) y hyb
      have htk : l.take (i + 1) = l.take i ++ [y] := by rw [List.take_add_one, hy]; rfl
      rw [← htk] at hsn
      have hby := bN_byte y hyb
      have hx := bN_xor (crcR (l.take i)) (BitVec.ofNat 32 y.toNat <<< 24)
      have HS := Lib.hid hsn
      clear hcell hsn htk hy
      generalize crcR (l.take i) = d at *
      go_wp2_with fail
      refine (scan_any (d ^^^ BitVec.ofNat 32 y.toNat <<< (24 : Nat)) _).mono ?_
      rintro e w1 ⟨rfl, rfl⟩
      go_wp2
      go_roundg (gk - 1)
      case measure => omega
      case rel => exact ⟨i + 1, by omega, rfl, by rw [HS.out]; rfl, rfl⟩
    · obtain rfl : i = l.length := by omega
      rw [List.take_length]
      have hn := bN_not (crcR l)
      go_wp2
      go_ret
      exact ⟨rfl, rfl⟩
end Go.Proofs.Ytmoihbpjcdmmbaa
