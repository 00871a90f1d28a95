/-
  DERIVED. Plain facts on whole numbers that the walks of layer 1 (fix) lean on: clamping, rounding down. No Go in sight.
-/
namespace Go.Proofs.Ytjohcngmoemmbaa

def clampZ (n : Int) : Int := max (-2147483647) (min n 2147483647)
def withinZ (n most : Int) : Int := max (-most) (min n most)
/-- the quotient, rounded down; 0 for a division by 0 -/
def flr (a b : Int) : Int := Int.fdiv a b

theorem clampZ_bd (n : Int) : -2147483647 ≤ clampZ n ∧ clampZ n ≤ 2147483647 := by unfold clampZ; omega
theorem clampZ_id {n : Int} (h1 : -2147483647 ≤ n) (h2 : n ≤ 2147483647) : clampZ n = n := by unfold clampZ; omega
theorem clampZ_zero {n : Int} : clampZ n = 0 ↔ n = 0 := by unfold clampZ; omega
theorem clampZ_mono {a b : Int} (h : a ≤ b) : clampZ a ≤ clampZ b := by unfold clampZ; omega
theorem withinZ_max (n : Int) : withinZ n 2147483647 = clampZ n := rfl

theorem flr_zero (a : Int) : flr a 0 = 0 := by unfold flr; exact Int.fdiv_zero a
theorem flr_pos (a : Int) {b : Int} (h : 0 < b) : flr a b = a / b := by unfold flr; exact Int.fdiv_eq_ediv_of_nonneg a (by omega)
theorem flr_neg (a : Int) {b : Int} (h : b < 0) : flr a b = (-a) / (-b) := by
  have e := flr_pos (-a) (b := -b) (by omega)
  rw [← e]; unfold flr; rw [Int.neg_fdiv_neg]

/-- the product of two numbers within M is within M times M -/
theorem mul_abs {x y M : Int} (hx1 : -M ≤ x) (hx2 : x ≤ M) (hy1 : -M ≤ y) (hy2 : y ≤ M) : -(M * M) ≤ x * y ∧ x * y ≤ M * M := by
  obtain ⟨m, rfl⟩ := Int.eq_ofNat_of_zero_le (show 0 ≤ M by omega)
  have h : (x * y).natAbs ≤ m * m := by
    rw [Int.natAbs_mul]; exact Nat.mul_le_mul (by omega) (by omega)
  have e : ((m * m : Nat) : Int) = (m : Int) * (m : Int) := by simp
  rw [← e]; omega
theorem mul_bd {x y : Int} (hx : -2147483647 ≤ x ∧ x ≤ 2147483647) (hy : -2147483647 ≤ y ∧ y ≤ 2147483647) : -4611686014132420609 ≤ x * y ∧ x * y ≤ 4611686014132420609 := by
  have := mul_abs hx.1 hx.2 hy.1 hy.2; omega

/-- Go's quotient, cut towards 0, keeps within the bounds of the dividend -/
theorem tdiv_bd (a b : Int) {M : Int} (h1 : -M ≤ a) (h2 : a ≤ M) : -M ≤ a.tdiv b ∧ a.tdiv b ≤ M := by
  have h : (a.tdiv b).natAbs = a.natAbs / b.natAbs := Int.natAbs_tdiv a b
  have h' : a.natAbs / b.natAbs ≤ a.natAbs := Nat.div_le_self _ _
  rw [← h] at h'; omega
theorem tmod_bd (a b : Int) {M : Int} (h1 : -M ≤ a) (h2 : a ≤ M) : -M ≤ a.tmod b ∧ a.tmod b ≤ M := by
  have h : (a.tmod b).natAbs = a.natAbs % b.natAbs := Int.natAbs_tmod a b
  have h' : a.natAbs % b.natAbs ≤ a.natAbs := Nat.mod_le _ _
  rw [← h] at h'; omega

/-- rounding down out of Go's quotient and rest -/
theorem flr_of_tdiv (a b : Int) (hb : b ≠ 0) : flr a b = if a.tmod b ≠ 0 ∧ (a.tmod b < 0 ↔ ¬ b < 0) then a.tdiv b - 1 else a.tdiv b := by
  unfold flr
  rw [Int.fdiv_eq_ediv, Int.tdiv_eq_ediv, Int.tmod_eq_emod]
  have hd := Int.dvd_iff_emod_eq_zero (a := b) (b := a)
  have h1 := Int.emod_nonneg a hb
  have h2 := Int.emod_lt a hb
  by_cases d : b ∣ a
  · have hz := hd.1 d
    simp [d, hz]
  · have hz : a % b ≠ 0 := fun h => d (hd.2 h)
    simp only [d, or_false]
    rcases Int.lt_or_gt_of_ne hb with c | c
    · have hs : b.sign = -1 := Int.sign_eq_neg_one_of_neg c
      by_cases ha : 0 ≤ a
      · simp [ha, hz]; split <;> split <;> omega
      · simp [ha, hs]; split <;> split <;> omega
    · have hs : b.sign = 1 := Int.sign_eq_one_of_pos c
      by_cases ha : 0 ≤ a
      · simp [ha, hz]; split <;> split <;> omega
      · simp [ha, hs]; split <;> split <;> omega

theorem flr_bd (a b : Int) {M : Int} (h1 : -M ≤ a) (h2 : a ≤ M) : -M - 1 ≤ flr a b ∧ flr a b ≤ M := by
  by_cases hb : b = 0
  · subst hb; rw [flr_zero]; omega
  · have h := tdiv_bd a b h1 h2
    rw [flr_of_tdiv a b hb]; split <;> omega

/-- the document's own way to round down a negative number -/
theorem flr_up (a : Int) {b : Int} (hb : 0 < b) : -((b - 1 - a) / b) = a / b := by
  have e1 := Int.mul_ediv_add_emod a b
  have e2 := Int.mul_ediv_add_emod (b - 1 - a) b
  have n1 := Int.emod_nonneg a (show b ≠ 0 by omega)
  have n2 := Int.emod_nonneg (b - 1 - a) (show b ≠ 0 by omega)
  have l1 := Int.emod_lt_of_pos a hb
  have l2 := Int.emod_lt_of_pos (b - 1 - a) hb
  have hs : b * (a / b + (b - 1 - a) / b) = b * (a / b) + b * ((b - 1 - a) / b) := Int.mul_add _ _ _
  have k1 : b * (a / b + (b - 1 - a) / b) < b * 1 := by omega
  have k2 : b * (-1) < b * (a / b + (b - 1 - a) / b) := by omega
  have m1 := Int.lt_of_mul_lt_mul_left k1 (by omega)
  have m2 := Int.lt_of_mul_lt_mul_left k2 (by omega)
  omega

theorem flr_mono {a b c : Int} (hc : 0 < c) (h : a ≤ b) : flr a c ≤ flr b c := by
  rw [flr_pos a hc, flr_pos b hc]; exact Int.ediv_le_ediv hc h

end Go.Proofs.Ytjohcngmoemmbaa
