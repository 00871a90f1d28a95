/-
  DERIVED. THE WALKS of layer 4 (wire): the Reader's numbers.
-/
import Derived.Test.YtkdonkebnnjkkaaWireRdr
import Derived.Laws.BitsAllLaws
namespace Go.Proofs.Ytkdonkebnnjkkaa
open Go.RowKit
set_option linter.unusedVariables false

theorem valB_take_succ : ∀ (i : Nat) (b : List Int) (y : Int), b[i]? = some y → valB (b.take (i + 1)) = valB (b.take i) + (y % 128).toNat * 128 ^ i
  | 0, [], y, h => by cases h
  | 0, z :: r, y, h => by simp at h; subst h; simp [valB]
  | i + 1, [], y, h => by cases h
  | i + 1, z :: r, y, h => by
    have := valB_take_succ i r y (by simpa using h)
    rw [List.take_succ_cons, List.take_succ_cons]
    simp only [valB]
    rw [this, Nat.mul_add, Nat.pow_succ, Nat.add_assoc]
    congr 2
    rw [Nat.mul_left_comm 128, Nat.mul_comm 128]
theorem valB_take_lt : ∀ (i : Nat) (b : List Int), valB (b.take i) < 128 ^ i
  | 0, b => by simp [valB]
  | i + 1, [] => by simp [valB]; exact Nat.pow_pos (by omega)
  | i + 1, z :: r => by
    have := valB_take_lt i r
    rw [List.take_succ_cons, Nat.pow_succ]
    simp only [valB]
    omega
theorem pow128 (i : Nat) : (128 : Nat) ^ i = 2 ^ (7 * i) := by rw [Nat.pow_mul]
/-- one byte more, as the program joins it -/
theorem join_byte {i n : Nat} {y : Int} (hn : n < 128 ^ i) (hi : i < 10) (hy : 0 ≤ y ∧ y ≤ 255) (h9 : i = 9 → y ≤ 1) : bits .or .u64 (n : Int) (IntKind.u64.wrap (y % 128 * 2 ^ (7 * i))) = ((n + (y % 128).toNat * 128 ^ i : Nat) : Int) := by
  obtain ⟨d, hd⟩ : ∃ d : Nat, y % 128 = d := ⟨(y % 128).toNat, by omega⟩
  have hd1 : d < 128 := by omega
  have hd9 : i = 9 → d ≤ 1 := fun h => by have := h9 h; omega
  rw [hd, Int.toNat_natCast]
  have hfit : d * 128 ^ i < 18446744073709551616 := by
    by_cases h : i = 9
    · subst h
      have : d * 128 ^ 9 ≤ 1 * 128 ^ 9 := Nat.mul_le_mul_right _ (hd9 rfl)
      omega
    · have h1 : (128 : Nat) ^ i ≤ 128 ^ 8 := Nat.pow_le_pow_right (by omega) (by omega)
      have h2 : d * 128 ^ i ≤ 127 * 128 ^ i := Nat.mul_le_mul_right _ (by omega)
      omega
  have hn64 : n < 18446744073709551616 := by
    have h1 : (128 : Nat) ^ i ≤ 128 ^ 9 := Nat.pow_le_pow_right (by omega) (by omega)
    omega
  have ec : ((d : Int) * 2 ^ (7 * i)) = ((d * 128 ^ i : Nat) : Int) := by
    rw [pow128]
    push_cast
    rfl
  rw [ec, wraps_u64 _ (by omega) (by omega), u64_or_nat _ _ hn64 hfit]
  congr 1
  rw [pow128] at hn ⊢
  rw [Nat.mul_comm, Nat.or_comm, Nat.add_comm]
  exact (Nat.two_pow_add_eq_or_of_lt hn d).symm
set_option maxRecDepth 100000 in
theorem decoded_bad (w : World) (v : Value) (b : List Int) (h : Arr w .u8 v b) (hs : Shape b) (hlen : b.length < 1000000) (hbad : badB b = true) :
    Calls Try.prog 40 #[v] w fun e w' => e = .returned (.tuple #[.int .u64 0, .bool false]) ∧ w = w' := by
  have hb := h.bd
  obtain ⟨⟨ao, c, rfl, h1, h2, h3⟩, h4, h5⟩ := h
  obtain ⟨g, off, rfl, hcell⟩ := h2 hs.ne
  have hne : 0 < b.length := List.length_pos_iff.2 hs.ne
  have hlast := lastB_getD b hs.ne
  have hlr := hs.last
  have hl1 : w.cell? ⟨g, off + (b.length - 1), none⟩ = some (.int .u8 (lastB b)) := by
    rw [hcell _ (by omega)]
    simp [List.getD, hlast]
  have hi1 : ((b.length : Int) - 1).toNat = b.length - 1 := by omega
  clear hcell h2 h3 h5 hb
  by_cases c1 : 1 < b.length ∧ lastB b = 0
  · obtain ⟨c1a, c1b⟩ := c1
    go_enter Try.func40, Try.ntmps40
    go_wp2
    all_goals exact bodyPost_ret (v := .tuple #[.int .u64 0, .bool false]) (by simp [results, Try.results40]) rfl ⟨rfl, rfl⟩
  · have hc : 10 < b.length ∨ b.length = 10 ∧ 1 < lastB b := by
      unfold badB at hbad
      simp at hbad
      rcases hbad with hbad | hbad
      · exact absurd hbad c1
      · exact hbad
    clear hbad hlast
    rcases hc with hc | ⟨hc1, hc2⟩
    · have n0 : decide (lastB b = 0) = false := by simp; omega
      have n1 : decide (1 < b.length) = true := by simp; omega
      clear c1
      go_enter Try.func40, Try.ntmps40
      go_wp2
      all_goals exact bodyPost_ret (v := .tuple #[.int .u64 0, .bool false]) (by simp [results, Try.results40]) rfl ⟨rfl, rfl⟩
    · have n0 : decide (lastB b = 0) = false := by simp; omega
      have n1 : decide (1 < b.length) = true := by simp; omega
      have hl9 : w.cell? ⟨g, off + 9, none⟩ = some (.int .u8 (lastB b)) := by rw [hc1] at hl1; exact hl1
      clear c1 hl1
      go_enter Try.func40, Try.ntmps40
      go_wp2
      all_goals exact bodyPost_ret (v := .tuple #[.int .u64 0, .bool false]) (by simp [results, Try.results40]) rfl ⟨rfl, rfl⟩
set_option maxRecDepth 100000 in
theorem decoded_good (w : World) (v : Value) (b : List Int) (h : Arr w .u8 v b) (hs : Shape b) (hlen : b.length < 1000000) (hbad : badB b = false) :
    Calls Try.prog 40 #[v] w fun e w' => e = .returned (.tuple #[.int .u64 (valB b : Nat), .bool true]) ∧ w = w' := by
  have hb := h.bd
  obtain ⟨⟨ao, c, rfl, h1, h2, h3⟩, h4, h5⟩ := h
  obtain ⟨g, off, rfl, hcell⟩ := h2 hs.ne
  have hne : 0 < b.length := List.length_pos_iff.2 hs.ne
  have hlast := lastB_getD b hs.ne
  have hlr := hs.last
  have hl1 : w.cell? ⟨g, off + (b.length - 1), none⟩ = some (.int .u8 (lastB b)) := by
    rw [hcell _ (by omega)]
    simp [List.getD, hlast]
  have hi1 : ((b.length : Int) - 1).toNat = b.length - 1 := by omega
  have hgood : ¬ (1 < b.length ∧ lastB b = 0) ∧ b.length ≤ 10 ∧ (b.length = 10 → lastB b ≤ 1) := by
    unfold badB at hbad
    simp at hbad
    obtain ⟨x, y, z⟩ := hbad
    exact ⟨fun h => x h.1 h.2, y, z⟩
  obtain ⟨g1, g2, g3⟩ := hgood
  have HC := Lib.hid hcell
  clear hbad h2 h3 h5 hcell
  have hcases : b.length = 1 ∨ (1 < b.length ∧ b.length < 10 ∧ lastB b ≠ 0) ∨ (b.length = 10 ∧ lastB b = 1) := by omega
  rcases hcases with hc | ⟨hc1, hc2, hc3⟩ | ⟨hc1, hc2⟩
  · have hl0 : w.cell? ⟨g, off, none⟩ = some (.int .u8 (lastB b)) := by rw [hc] at hl1; exact hl1
    go_enter Try.func40, Try.ntmps40
    go_wp2
    go_loopg [5, 35] b.length (fun k nv iv wr => ∃ i : Nat, i + k = b.length ∧ iv = .int .i64 i ∧ nv = .int .u64 (valB (b.take i) : Nat) ∧ w = wr)
    case atStart => exact ⟨0, by omega, rfl, by simp [valB], rfl⟩
    case round =>
      obtain ⟨i, hik, rfl, rfl, rfl⟩ := hrel
      by_cases hi : i < b.length
      · obtain ⟨y, hy⟩ : ∃ y, b[i]? = some y := ⟨b[i], by simp [hi]⟩
        have hyb := hb y (List.mem_of_getElem? hy)
        have hci : w.cell? ⟨g, off + i, none⟩ = some (.int .u8 y) := by rw [HC.out i hi]; simp [List.getD, hy]
        have hjoin := join_byte (valB_take_lt i b) (by omega) hyb (fun h9 => by
          subst h9
          have e10 : b.length = 10 := by omega
          have := hlast
          rw [e10] at this
          have h9 : b[9]? = some (lastB b) := this
          rw [hy] at h9
          cases h9
          exact g3 e10)
        rw [← valB_take_succ i b y hy] at hjoin
        go_wp2
        go_roundg (gk - 1)
        case measure => omega
        case rel => exact ⟨i + 1, by omega, by simp, by simp, rfl⟩
      · have e : i = b.length := by omega
        subst e
        go_wp2
        refine bodyPost_ret (v := .tuple #[.int .u64 (valB b : Nat), .bool true]) (by simp [results, Try.results40]) rfl ⟨rfl, rfl⟩
  · have n0 : decide (lastB b = 0) = false := by simp; omega
    have n2 : decide (10 < b.length) = false := by simp; omega
    have n3 : decide (b.length = 10) = false := by simp; omega
    go_enter Try.func40, Try.ntmps40
    go_wp2
    go_loopg [5, 35] b.length (fun k nv iv wr => ∃ i : Nat, i + k = b.length ∧ iv = .int .i64 i ∧ nv = .int .u64 (valB (b.take i) : Nat) ∧ w = wr)
    case atStart => exact ⟨0, by omega, rfl, by simp [valB], rfl⟩
    case round =>
      obtain ⟨i, hik, rfl, rfl, rfl⟩ := hrel
      by_cases hi : i < b.length
      · obtain ⟨y, hy⟩ : ∃ y, b[i]? = some y := ⟨b[i], by simp [hi]⟩
        have hyb := hb y (List.mem_of_getElem? hy)
        have hci : w.cell? ⟨g, off + i, none⟩ = some (.int .u8 y) := by rw [HC.out i hi]; simp [List.getD, hy]
        have hjoin := join_byte (valB_take_lt i b) (by omega) hyb (fun h9 => by
          subst h9
          have e10 : b.length = 10 := by omega
          have := hlast
          rw [e10] at this
          have h9 : b[9]? = some (lastB b) := this
          rw [hy] at h9
          cases h9
          exact g3 e10)
        rw [← valB_take_succ i b y hy] at hjoin
        go_wp2
        go_roundg (gk - 1)
        case measure => omega
        case rel => exact ⟨i + 1, by omega, by simp, by simp, rfl⟩
      · have e : i = b.length := by omega
        subst e
        go_wp2
        refine bodyPost_ret (v := .tuple #[.int .u64 (valB b : Nat), .bool true]) (by simp [results, Try.results40]) rfl ⟨rfl, rfl⟩
  · have n0 : decide (lastB b = 0) = false := by simp; omega
    have hl9 : w.cell? ⟨g, off + 9, none⟩ = some (.int .u8 (lastB b)) := by rw [hc1] at hl1; exact hl1
    go_enter Try.func40, Try.ntmps40
    go_wp2
    go_loopg [5, 35] b.length (fun k nv iv wr => ∃ i : Nat, i + k = b.length ∧ iv = .int .i64 i ∧ nv = .int .u64 (valB (b.take i) : Nat) ∧ w = wr)
    case atStart => exact ⟨0, by omega, rfl, by simp [valB], rfl⟩
    case round =>
      obtain ⟨i, hik, rfl, rfl, rfl⟩ := hrel
      by_cases hi : i < b.length
      · obtain ⟨y, hy⟩ : ∃ y, b[i]? = some y := ⟨b[i], by simp [hi]⟩
        have hyb := hb y (List.mem_of_getElem? hy)
        have hci : w.cell? ⟨g, off + i, none⟩ = some (.int .u8 y) := by rw [HC.out i hi]; simp [List.getD, hy]
        have hjoin := join_byte (valB_take_lt i b) (by omega) hyb (fun h9 => by
          subst h9
          have e10 : b.length = 10 := by omega
          have := hlast
          rw [e10] at this
          have h9 : b[9]? = some (lastB b) := this
          rw [hy] at h9
          cases h9
          exact g3 e10)
        rw [← valB_take_succ i b y hy] at hjoin
        go_wp2
        go_roundg (gk - 1)
        case measure => omega
        case rel => exact ⟨i + 1, by omega, by simp, by simp, rfl⟩
      · have e : i = b.length := by omega
        subst e
        go_wp2
        refine bodyPost_ret (v := .tuple #[.int .u64 (valB b : Nat), .bool true]) (by simp [results, Try.results40]) rfl ⟨rfl, rfl⟩
/-- Byte, where there is none to take -/
theorem rd_byte_no (w : World) (base p : Nat) (l : List Int) (k : Nat) (err : Int) (F : List Nat) (h : Rdr w base p l k err F) (hno : err ≠ 0 ∨ k = l.length) :
    Calls Try.prog 34 #[.pointer (some ⟨p, 0, none⟩)] w fun e w' => e = .returned (.int .u8 0) ∧ Rdr w' base p l k (errOr err 3) F ∧ Step F F w w' := by
  have hz : leftOf err l.length k = 0 := by unfold leftOf; split <;> omega
  go_enter Try.func34, Try.ntmps34
  go_wp2_with fail
  refine (rd_left _ _ _ _ _ _ _ h).mono ?_
  rintro e w1 ⟨rfl, q1⟩
  rw [hz]
  have h1 := h.qt q1
  have s1 : Step F F w w1 := Step.qt q1
  clear h
  go_wp2_with fail
  refine (rd_fail _ _ _ _ _ _ 3 _ h1).mono ?_
  rintro e w2 ⟨rfl, h2, s2⟩
  go_wp2
  go_ret
  exact ⟨rfl, h2, s1.trans s2⟩
end Go.Proofs.Ytkdonkebnnjkkaa
