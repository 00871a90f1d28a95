/-
  DERIVED. Plain facts on bytes that may be a number's (layer 4): how far it goes, what it comes to, whose bytes they are.
-/
import Derived.Test.YtkdonkebnnjkkaaWirePlain
namespace Go.Proofs.Ytkdonkebnnjkkaa
set_option linter.unusedVariables false

/-- the place behind the first byte below 128, if there is one -/
def numEnd : List Int → Option Nat
  | [] => none
  | y :: r => if y < 128 then some 1 else (numEnd r).map (· + 1)
def valB : List Int → Nat
  | [] => 0
  | y :: r => (y % 128).toNat + 128 * valB r
/-- all but the last are from 128 on, the last is below -/
def Shape : List Int → Prop
  | [] => False
  | [y] => 0 ≤ y ∧ y < 128
  | y :: z :: r => (128 ≤ y ∧ y ≤ 255) ∧ Shape (z :: r)
def lastB : List Int → Int
  | [] => 0
  | [y] => y
  | y :: z :: r => lastB (z :: r)

theorem Shape.ne {b : List Int} (h : Shape b) : b ≠ [] := fun e => by subst e; exact h
theorem Shape.last {b : List Int} (h : Shape b) : 0 ≤ lastB b ∧ lastB b < 128 := by
  induction b with
  | nil => exact h.elim
  | cons y r ih =>
    cases r with
    | nil => exact h
    | cons z r => exact ih h.2
theorem Shape.bytes {b : List Int} (h : Shape b) : ∀ y ∈ b, 0 ≤ y ∧ y ≤ 255 := by
  induction b with
  | nil => exact h.elim
  | cons y r ih =>
    intro x hx
    cases r with
    | nil =>
      have : x = y := by simpa using hx
      subst this
      have := h
      simp only [Shape] at this
      omega
    | cons z r =>
      rcases List.mem_cons.1 hx with rfl | hx
      · have := h.1; omega
      · exact ih h.2 x hx
theorem lastB_getD : ∀ (b : List Int), b ≠ [] → b[b.length - 1]? = some (lastB b)
  | [], h => absurd rfl h
  | [y], _ => rfl
  | y :: z :: r, _ => by
    have := lastB_getD (z :: r) (by simp)
    simpa [lastB] using this
theorem valB_bd {b : List Int} (h : Shape b) : (lastB b).toNat * 128 ^ (b.length - 1) ≤ valB b ∧ valB b < ((lastB b).toNat + 1) * 128 ^ (b.length - 1) := by
  induction b with
  | nil => exact h.elim
  | cons y r ih =>
    cases r with
    | nil =>
      simp only [Shape] at h
      simp only [lastB, valB, List.length_cons, List.length_nil]
      have : (y % 128).toNat = y.toNat := by omega
      rw [this]
      simp
    | cons z r =>
      have hi := ih h.2
      have h1 := h.1
      simp only [lastB, valB, List.length_cons, Nat.add_sub_cancel] at hi ⊢
      rw [Nat.pow_succ]
      have hm : (y % 128).toNat < 128 := by omega
      have e1 : (lastB (z :: r)).toNat * (128 ^ r.length * 128) = 128 * ((lastB (z :: r)).toNat * 128 ^ r.length) := by rw [← Nat.mul_assoc, Nat.mul_comm]
      have e2 : ((lastB (z :: r)).toNat + 1) * (128 ^ r.length * 128) = 128 * (((lastB (z :: r)).toNat + 1) * 128 ^ r.length) := by rw [← Nat.mul_assoc, Nat.mul_comm]
      rw [e1, e2]
      omega
theorem valB_pos {b : List Int} (h : Shape b) (h0 : lastB b ≠ 0) : 0 < valB b := by
  have h1 := (valB_bd h).1
  have h2 := h.last
  have h3 : 0 < (lastB b).toNat := by omega
  have h4 : 0 < 128 ^ (b.length - 1) := Nat.pow_pos (by omega)
  have := Nat.mul_pos h3 h4
  omega
/-- bytes of the right shape, without a nought at the end, are those of what they come to -/
theorem leb_valB {b : List Int} (h : Shape b) (h0 : b.length = 1 ∨ lastB b ≠ 0) : leb (valB b) = b := by
  induction b with
  | nil => exact h.elim
  | cons y r ih =>
    cases r with
    | nil =>
      simp only [Shape] at h
      simp only [valB]
      rw [leb_small (by omega)]
      congr 1
      omega
    | cons z r =>
      have hl : lastB (z :: r) ≠ 0 := by
        rcases h0 with h0 | h0
        · simp at h0
        · exact h0
      have hp := valB_pos h.2 hl
      have h1 := h.1
      have hv : valB (y :: z :: r) = (y % 128).toNat + 128 * valB (z :: r) := rfl
      rw [hv, leb_great (by omega), show ((y % 128).toNat + 128 * valB (z :: r)) / 128 = valB (z :: r) by omega, ih h.2 (.inr hl)]
      congr 1
      omega
theorem shape_leb : ∀ (n : Nat), Shape (leb n) ∧ ((leb n).length = 1 ∨ lastB (leb n) ≠ 0) ∧ valB (leb n) = n := by
  intro n
  induction n using Nat.strongRecOn with
  | _ n ih =>
    by_cases h : n < 128
    · rw [leb_small h]
      refine ⟨⟨by omega, by omega⟩, .inl rfl, ?_⟩
      simp only [valB]
      omega
    · rw [leb_great (by omega)]
      obtain ⟨a, b, c⟩ := ih (n / 128) (by omega)
      cases e : leb (n / 128) with
      | nil => exact absurd e (leb_ne_nil _)
      | cons z r =>
        rw [e] at a b c
        refine ⟨⟨⟨by omega, by omega⟩, a⟩, .inr ?_, ?_⟩
        · show lastB (z :: r) ≠ 0
          rcases b with b | b
          · cases r with
            | nil =>
              simp only [valB, Shape] at c a
              simp only [lastB]
              omega
            | cons q r => simp at b
          · exact b
        · show _ + 128 * valB (z :: r) = n
          rw [c]
          omega
theorem valB_lt64 {b : List Int} (h : Shape b) (h0 : b.length = 1 ∨ lastB b ≠ 0) : valB b < 18446744073709551616 ↔ ¬ (10 < b.length ∨ b.length = 10 ∧ 1 < lastB b) := by
  have hb := valB_bd h
  have hl := h.last
  constructor
  · intro hv hn
    rcases hn with hn | ⟨hn, h1⟩
    · have h1 : lastB b ≠ 0 := by
        rcases h0 with h0 | h0
        · omega
        · exact h0
      have hp : (128 : Nat) ^ 10 ≤ 128 ^ (b.length - 1) := Nat.pow_le_pow_right (by omega) (by omega)
      have h2 : 1 * 128 ^ (b.length - 1) ≤ (lastB b).toNat * 128 ^ (b.length - 1) := Nat.mul_le_mul_right _ (by omega)
      omega
    · rw [hn] at hb
      have h2 : 2 * 128 ^ (10 - 1) ≤ (lastB b).toNat * 128 ^ (10 - 1) := Nat.mul_le_mul_right _ (by omega)
      omega
  · intro hn
    by_cases h10 : b.length = 10
    · rw [h10] at hb
      have h2 : ((lastB b).toNat + 1) * 128 ^ (10 - 1) ≤ 2 * 128 ^ (10 - 1) := Nat.mul_le_mul_right _ (by omega)
      omega
    · have hp : (128 : Nat) ^ (b.length - 1) ≤ 128 ^ 8 := Nat.pow_le_pow_right (by omega) (by omega)
      have h2 : ((lastB b).toNat + 1) * 128 ^ (b.length - 1) ≤ 128 * 128 ^ (b.length - 1) := Nat.mul_le_mul_right _ (by omega)
      omega

/-- what bytes that end well come to: none, or the number whose bytes they are -/
def badB (b : List Int) : Bool := (decide (1 < b.length) && decide (lastB b = 0)) || (decide (10 < b.length) || (decide (b.length = 10) && decide (1 < lastB b)))
theorem badB_iff {b : List Int} (h : Shape b) : badB b = false ↔ ∃ m : Nat, m < 18446744073709551616 ∧ b = leb m := by
  have hne : 0 < b.length := List.length_pos_iff.2 h.ne
  have e : badB b = false ↔ ¬ (1 < b.length ∧ lastB b = 0) ∧ ¬ (10 < b.length ∨ b.length = 10 ∧ 1 < lastB b) := by
    unfold badB
    simp
  rw [e]
  constructor
  · rintro ⟨h1, h2⟩
    have h0 : b.length = 1 ∨ lastB b ≠ 0 := by
      by_cases hx : lastB b = 0
      · exact .inl (by omega)
      · exact .inr hx
    exact ⟨valB b, (valB_lt64 h h0).2 h2, (leb_valB h h0).symm⟩
  · rintro ⟨m, hm, rfl⟩
    obtain ⟨a, c, d⟩ := shape_leb m
    refine ⟨fun hx => ?_, (valB_lt64 a c).1 (by rw [d]; exact hm)⟩
    rcases c with c | c
    · omega
    · exact c hx.2

theorem numEnd_le {b : List Int} {j : Nat} (h : numEnd b = some j) : 0 < j ∧ j ≤ b.length := by
  induction b generalizing j with
  | nil => cases h
  | cons y r ih =>
    unfold numEnd at h
    split at h
    · cases h; simp
    · obtain ⟨i, hi, rfl⟩ := Option.map_eq_some_iff.1 h
      have := ih hi
      simp
      omega
theorem numEnd_shape {b : List Int} {j : Nat} (hb : ∀ y ∈ b, 0 ≤ y ∧ y ≤ 255) (h : numEnd b = some j) : Shape (b.take j) := by
  induction b generalizing j with
  | nil => cases h
  | cons y r ih =>
    unfold numEnd at h
    have hy := hb y (by simp)
    split at h
    · cases h
      exact ⟨hy.1, by omega⟩
    · obtain ⟨i, hi, rfl⟩ := Option.map_eq_some_iff.1 h
      have hs := ih (fun x hx => hb x (by simp [hx])) hi
      rw [List.take_succ_cons]
      cases e : r.take i with
      | nil => rw [e] at hs; exact hs.elim
      | cons z q =>
        rw [e] at hs
        exact ⟨⟨by omega, hy.2⟩, hs⟩
/-- k bytes from 128 on, then the rest -/
theorem numEnd_skip : ∀ (k : Nat) (b : List Int), (∀ y ∈ b.take k, 128 ≤ y) → k ≤ b.length → numEnd b = (numEnd (b.drop k)).map (· + k)
  | 0, b, _, _ => by simp
  | k + 1, [], _, h => by simp at h
  | k + 1, y :: r, h, hk => by
    have hy : 128 ≤ y := h y (by simp)
    rw [numEnd, if_neg (by omega), numEnd_skip k r (fun x hx => h x (by simp [hx])) (by simpa using hk), List.drop_succ_cons, Option.map_map]
    congr 1
theorem numEnd_leb (m : Nat) (r : List Int) : numEnd (leb m ++ r) = some (leb m).length := by
  induction m using Nat.strongRecOn with
  | _ m ih =>
    by_cases h : m < 128
    · rw [leb_small h]
      simp only [List.cons_append, numEnd]
      rw [if_pos (by omega)]
      rfl
    · rw [leb_great (by omega)]
      simp only [List.cons_append, numEnd]
      rw [if_neg (by omega), ih (m / 128) (by omega)]
      rfl
/-- what is read of a number's place: the number, how many bytes, the error -/
def rdNum (b : List Int) : Nat × Nat × Int :=
  match numEnd b with
  | none => (0, b.length, 3)
  | some j => if badB (b.take j) then (0, j, 4) else (valB (b.take j), j, 0)
theorem rdNum_leb {m : Nat} (hm : m < 18446744073709551616) (r : List Int) : rdNum (leb m ++ r) = (m, (leb m).length, 0) := by
  have e : (leb m ++ r).take (leb m).length = leb m := by simp
  obtain ⟨a, _, d⟩ := shape_leb m
  have hf : badB (leb m) = false := (badB_iff a).2 ⟨m, hm, rfl⟩
  simp only [rdNum, numEnd_leb, e, hf, d]
  rfl
theorem rdNum_ok {b : List Int} (hb : ∀ y ∈ b, 0 ≤ y ∧ y ≤ 255) {n k : Nat} {e : Int} (h : rdNum b = (n, k, e)) : (e = 0 ∧ n < 18446744073709551616 ∧ b.take k = leb n ∧ k = (leb n).length) ∨ (n = 0 ∧ (e = 3 ∨ e = 4)) := by
  unfold rdNum at h
  split at h
  · cases h; exact .inr ⟨rfl, .inl rfl⟩
  · rename_i j hj
    split at h
    · cases h; exact .inr ⟨rfl, .inr rfl⟩
    · rename_i hbad
      cases h
      have hs := numEnd_shape hb hj
      have hf : badB (b.take k) = false := by simpa using hbad
      obtain ⟨m, hm, em⟩ := (badB_iff hs).1 hf
      have hj' := numEnd_le hj
      have hlen : (b.take k).length = k := by simp; omega
      refine .inl ⟨rfl, ?_, ?_, ?_⟩
      · rw [em, (shape_leb m).2.2]; exact hm
      · rw [em, (shape_leb m).2.2]
      · rw [em, (shape_leb m).2.2, ← em, hlen]
theorem rdNum_le (b : List Int) : (rdNum b).2.1 ≤ b.length := by
  unfold rdNum
  split
  · exact Nat.le_refl _
  · rename_i j hj
    have := (numEnd_le hj).2
    split <;> exact this

end Go.Proofs.Ytkdonkebnnjkkaa
