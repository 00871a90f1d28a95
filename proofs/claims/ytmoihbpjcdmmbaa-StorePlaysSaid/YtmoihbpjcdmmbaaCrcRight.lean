/-
  DERIVED. THE WALKS of layer 5 (crc): bigEndian, Right.
-/
import Derived.Test.YtmoihbpjcdmmbaaCrcWalks
import Derived.Test.YtmoihbpjcdmmbaaCalmVars
namespace Go.Proofs.Ytmoihbpjcdmmbaa
open Go.RowKit
set_option linter.unusedVariables false

/-- bytes as a number, the highest first -/
def beN (l : List Int) : Nat := l.foldl (fun n y => n * 256 + y.toNat) 0
theorem beN_snoc (l : List Int) (y : Int) : beN (l ++ [y]) = beN l * 256 + y.toNat := by simp [beN, List.foldl_append]
theorem beN_four (a b c d : Int) : beN [a, b, c, d] = be4 a b c d := by simp [beN, be4]
theorem beN_take_lt (l : List Int) (hb : ∀ y ∈ l, 0 ≤ y ∧ y ≤ 255) : ∀ i, beN (l.take i) < 256 ^ i
  | 0 => by simp [beN]
  | i + 1 => by
    have ih := beN_take_lt l hb i
    rcases h : l[i]? with _ | y
    · have e : l.take (i + 1) = l.take i := by rw [List.take_add_one, h]; simp
      rw [e, Nat.pow_succ]
      omega
    · have e : l.take (i + 1) = l.take i ++ [y] := by rw [List.take_add_one, h]; rfl
      have hy := hb y (List.mem_of_getElem? h)
      rw [e, beN_snoc, Nat.pow_succ]
      omega

theorem join8 {n : Nat} {y : Int} (hn : n < 16777216) (hy : 0 ≤ y ∧ y ≤ 255) : bits .or .u32 ((n : Int) * 256) y = ((n * 256 + y.toNat : Nat) : Int) := by
  obtain ⟨d, rfl⟩ : ∃ d : Nat, y = d := ⟨y.toNat, by omega⟩
  rw [show (n : Int) * 256 = ((n * 256 : Nat) : Int) by omega, u32_or_nat _ _ (by omega) (by omega), Int.toNat_natCast]
  congr 1
  have := (Nat.two_pow_add_eq_or_of_lt (i := 8) (b := d) (by omega) n)
  rw [show (2 : Nat) ^ 8 = 256 from rfl] at this
  rw [Nat.mul_comm n 256]
  exact this.symm

set_option maxRecDepth 100000 in
theorem bigEndian_any (w : World) (v : Value) (l : List Int) (h : Arr w .u8 v l) (h4 : l.length ≤ 4) :
    Calls Try.prog 25 #[v] w fun e w' => e = .returned (.int .u32 (beN l : Nat)) ∧ w = w' := by
  have hb := h.bd
  have hlt := beN_take_lt l hb
  obtain ⟨⟨ao, c, rfl, h1, h2, h3⟩, h4', h5⟩ := h
  have HC := Lib.hid h2
  have HT := Lib.hid hlt
  clear h2 h3 h5 h4' hlt
  go_enter Try.func25, Try.ntmps25
  go_wp2
  go_loopg [3, 8] l.length (fun k cv iv wr => ∃ i : Nat, i + k = l.length ∧ iv = .int .i64 i ∧ cv = .int .u32 (beN (l.take i) : Nat) ∧ w = wr)
  case atStart => exact ⟨0, by omega, rfl, rfl, rfl⟩
  case round =>
    obtain ⟨i, hik, rfl, rfl, rfl⟩ := hrel
    by_cases hi : i < l.length
    · obtain ⟨g, off, rfl, hcell⟩ := HC.out (by intro e; subst e; simp at hi)
      obtain ⟨y, hy⟩ : ∃ y, l[i]? = some y := ⟨l[i], by simp [hi]⟩
      have hyb := hb y (List.mem_of_getElem? hy)
      have hci : w.cell? ⟨g, off + i, none⟩ = some (.int .u8 y) := by rw [hcell i hi]; simp [List.getD, hy]
      have hsn := beN_snoc (l.take i) y
      have htk : l.take (i + 1) = l.take i ++ [y] := by rw [List.take_add_one, hy]; rfl
      rw [← htk] at hsn
      have hl3 : beN (l.take i) < 16777216 := by
        have h1 := HT.out i
        have h2 : (256 : Nat) ^ i ≤ 256 ^ 3 := Nat.pow_le_pow_right (by omega) (by omega)
        omega
      have hj := join8 hl3 hyb
      rw [← hsn] at hj
      have hw : ((beN (l.take i) : Nat) : Int) * 256 % 4294967296 = (beN (l.take i) : Nat) * 256 := by omega
      clear hcell hsn htk hy
      generalize hd' : beN (l.take (i + 1)) = d' at *
      have HD := Lib.hid hd'
      clear hd'
      generalize beN (l.take i) = d at *
      go_wp2
      go_roundg (gk - 1)
      case measure => omega
      case rel => exact ⟨i + 1, by omega, rfl, by rw [HD.out], rfl⟩
    · obtain rfl : i = l.length := by omega
      rw [List.take_length]
      go_wp2
      go_ret
      exact ⟨rfl, rfl⟩

theorem Arr.take {w : World} {ao : Option Addr} {c : Nat} {l : List Int} (h : Arr w .u8 (.slice ao l.length c) l) (n : Nat) (hn : n ≤ l.length) : Arr w .u8 (.slice ao n c) (l.take n) := by
  obtain ⟨⟨ao', c', e, h1, h2, h3⟩, h4, h5⟩ := h
  cases e
  have hl : (l.take n).length = n := by simp [hn]
  refine ⟨⟨ao, c, by rw [hl], by rw [hl]; omega, fun hne => ?_, h3⟩, by rw [hl]; omega, fun y hy => h5 y (List.mem_of_mem_take hy)⟩
  obtain ⟨b, off, rfl, hc⟩ := h2 (by intro e; subst e; simp at hne)
  refine ⟨b, off, rfl, fun j hj => ?_⟩
  rw [hl] at hj
  rw [hc j (by omega)]
  simp [List.getD, hj]
theorem Arr.drop {w : World} {b off c : Nat} {l : List Int} (h : Arr w .u8 (.slice (some ⟨b, off, none⟩) l.length c) l) (n : Nat) (hn : n ≤ l.length) : Arr w .u8 (.slice (some ⟨b, off + n, none⟩) (l.length - n) (c - n)) (l.drop n) := by
  obtain ⟨⟨ao', c', e, h1, h2, h3⟩, h4, h5⟩ := h
  cases e
  have hl : (l.drop n).length = l.length - n := by simp
  refine ⟨⟨_, c - n, by rw [hl], by rw [hl]; omega, fun hne => ?_, fun h => by cases h⟩, by rw [hl]; omega, fun y hy => h5 y (List.mem_of_mem_drop hy)⟩
  obtain ⟨b', off', e, hc⟩ := h2 (by intro e; subst e; simp at hne)
  cases e
  refine ⟨b, off + n, rfl, fun j hj => ?_⟩
  rw [hl] at hj
  rw [Nat.add_assoc, hc (n + j) (by omega)]
  simp [List.getD]

/-- the last four bytes are the sum of those before -/
def rightB (l : List Int) : Bool := decide (4 ≤ l.length) && decide (bN (crcSum (l.take (l.length - 4))) = (beN (l.drop (l.length - 4)) : Nat))

set_option maxRecDepth 100000 in
theorem right_any (w : World) (v : Value) (l : List Int) (h : Arr w .u8 v l) (hlen : l.length ≤ 1000000) :
    Calls Try.prog 13 #[v] w fun e w' => e = .returned (.bool (rightB l)) ∧ Ext w w' := by
  have h' := h
  obtain ⟨⟨ao, c, rfl, h1, h2, h3⟩, h4, h5⟩ := h
  by_cases hl : l.length < 4
  · have hr : rightB l = false := by simp [rightB]; omega
    have hd : decide ((l.length : Int) - 4 < 0) = true := by simp; omega
    rw [hr]
    clear h2 h3 h5 h'
    go_enter Try.func13, Try.ntmps13
    go_wp2
    go_ret
    exact ⟨rfl, Ext.refl _⟩
  · have hr : rightB l = decide (bN (crcSum (l.take (l.length - 4))) = (beN (l.drop (l.length - 4)) : Nat)) := by simp [rightB]; omega
    have hd : decide ((l.length : Int) - 4 < 0) = false := by simp; omega
    obtain ⟨b, off, rfl, -⟩ := h2 (by intro e; subst e; simp at hl)
    obtain ⟨n, hn⟩ : ∃ n, l.length = n + 4 := ⟨l.length - 4, by omega⟩
    have ht := h'.take n (by omega)
    have hp := h'.drop n (by omega)
    rw [show l.length - n = 4 by omega] at hp
    rw [hn, Nat.add_sub_cancel] at hr
    rw [hr]
    clear h2 h3 h5 h'
    go_enter Try.func13, Try.ntmps13
    go_wp2_with fail
    apply wp_region_reads2 _ (by kernel_rfl) (by kernel_rfl)
    case H =>
      intro x hx
      have hne : Nonempty (Wx x) := ⟨⟨x, Ext.refl x⟩⟩
      have q1 := fun (y : Wx x) => ht.ext (hx.trans y.ext)
      have q2 := fun (y : Wx x) => hp.ext (hx.trans y.ext)
      try simp only [List.append_eq, List.cons_append, List.nil_append]
      repeat (go_big_quiet_step (first
        | (go_at_call 24; exact calm_eq (sum_any _ _ _ (q1 _)))
        | (go_at_call 25; exact calm_eq (bigEndian_any _ _ _ (q2 _) (by simp; omega)))))
      exact wpQuiet_nil rfl
    intro w3 hx3
    go_wp2
    go_ret
    exact ⟨rfl, hx3⟩
end Go.Proofs.Ytmoihbpjcdmmbaa
