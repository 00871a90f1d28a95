/-
  DERIVED. Plain facts on sums, products and quotients of clamped numbers, for the laws FixOrder and FixHalves. No Go in sight.
-/
import Derived.Test.YthpobegfiflppaaFixWalks
namespace Go.Proofs.Ythpobegfiflppaa

theorem addZ_comm (a b : Int) : addZ a b = addZ b a := by unfold addZ; rw [Int.add_comm]
theorem mulZ_comm (a b : Int) : mulZ a b = mulZ b a := by unfold mulZ; rw [Int.mul_comm]
theorem addZ_mono {a b : Int} (c : Int) (h : a ≤ b) : addZ a c ≤ addZ b c := by
  have := clampZ_mono h; unfold addZ; exact clampZ_mono (by omega)
theorem subZ_mono {a b : Int} (c : Int) (h : a ≤ b) : subZ c b ≤ subZ c a := by
  have := clampZ_mono h; unfold subZ; exact clampZ_mono (by omega)
theorem mulZ_mono {a b c : Int} (hc : 0 ≤ c) (h : a ≤ b) : mulZ a c ≤ mulZ b c := by
  have h1 := clampZ_mono h
  have h2 : 0 ≤ clampZ c := by unfold clampZ; omega
  unfold mulZ
  exact clampZ_mono (flr_mono (by omega) (Int.mul_le_mul_of_nonneg_right h1 h2))
theorem divZ_mono {a b c : Int} (hc : 0 < c) (h : a ≤ b) : divZ a c ≤ divZ b c := by
  have h1 := clampZ_mono h
  have h2 : 0 < clampZ c := by unfold clampZ; omega
  unfold divZ
  rw [if_neg (by omega), if_neg (by omega)]
  exact clampZ_mono (flr_mono h2 (by omega))
theorem mulZ_one (a : Int) : mulZ a 65536 = clampZ a := by
  have e : clampZ 65536 = 65536 := by decide +kernel
  unfold mulZ
  rw [e, flr_pos _ (by omega), Int.mul_ediv_cancel _ (by omega), clampZ_clampZ]
theorem whole_of {q : Int} (h1 : -32768 ≤ q) (h2 : q ≤ 32767) : flr (clampZ (clampZ (65536 * withinZ q 65536))) 65536 = q := by
  rw [flr_pos _ (by omega)]; unfold clampZ withinZ; omega

/-- a quarter of a 32-bit number, and a power of two up to 32768 -/
theorem pow_bd {k : Nat} (h : k < 16) : (1 : Int) ≤ 2 ^ k ∧ (2 : Int) ^ k ≤ 32768 := by
  have : ∀ k : Fin 16, (1 : Int) ≤ 2 ^ k.val ∧ (2 : Int) ^ k.val ≤ 32768 := by decide +kernel
  exact this ⟨k, h⟩
theorem pow_quo {k : Nat} (h : k < 16) : ∃ m : Int, (65536 : Int) / 2 ^ k = m ∧ (65536 : Int) = m * 2 ^ k ∧ 2 ≤ m ∧ m ≤ 65536 := by
  have : ∀ k : Fin 16, (65536 : Int) = (65536 / 2 ^ k.val) * 2 ^ k.val ∧ (2 : Int) ≤ 65536 / 2 ^ k.val ∧ (65536 : Int) / 2 ^ k.val ≤ 65536 := by decide +kernel
  obtain ⟨h1, h2, h3⟩ := this ⟨k, h⟩
  exact ⟨_, rfl, h1, h2, h3⟩
theorem quo_bd (x : Int) {p : Int} (hp : 0 < p) (h1 : -536870912 ≤ x) (h2 : x ≤ 536870912) : -536870913 ≤ x / p ∧ x / p ≤ 536870912 := by
  have := flr_bd x p (M := 536870912) h1 h2
  rw [flr_pos x hp] at this; omega
theorem halves_mul (x : Int) {k : Nat} (h : k < 16) (h1 : -536870912 ≤ x) (h2 : x ≤ 536870912) : mulZ x (65536 / 2 ^ k) = x / 2 ^ k := by
  obtain ⟨m, e, e2, m1, m2⟩ := pow_quo h
  obtain ⟨p1, p2⟩ := pow_bd h
  have hq := quo_bd x (p := 2 ^ k) (by omega) h1 h2
  have e3 : x * m / 65536 = x / 2 ^ k := by
    rw [e2, Int.mul_comm x m]; exact Int.mul_ediv_mul_of_pos (a := m) x (2 ^ k) (by omega)
  rw [e]; unfold mulZ
  rw [clampZ_id (n := x) (by omega) (by omega), clampZ_id (n := m) (by omega) (by omega), flr_pos _ (by omega), e3, clampZ_id (by omega) (by omega)]
theorem halves_half (x : Int) (h1 : -536870912 ≤ x) (h2 : x ≤ 536870912) : mulZ x 32768 = x / 2 := by
  have := halves_mul x (k := 1) (by omega) h1 h2; exact this
theorem halves_twice (x : Int) (h1 : -536870912 ≤ x) (h2 : x ≤ 536870912) : mulZ x 131072 = 2 * x := by
  have e : clampZ 131072 = 131072 := by decide +kernel
  unfold mulZ
  rw [e, clampZ_id (n := x) (by omega) (by omega), flr_pos _ (by omega)]
  unfold clampZ; omega
theorem halves_back (x y : Int) (h1 : -536870912 ≤ x) (h2 : x ≤ 536870912) (h3 : -536870912 ≤ y) (h4 : y ≤ 536870912) : subZ (addZ x y) y = x := by
  unfold subZ addZ clampZ; omega
theorem halves_div (x : Int) (h1 : -536870912 ≤ x) (h2 : x ≤ 536870912) : divZ x 131072 = x / 2 := by
  have e : clampZ 131072 = 131072 := by decide +kernel
  unfold divZ
  rw [if_neg (by omega), e, clampZ_id (n := x) (by omega) (by omega), flr_pos _ (by omega)]
  unfold clampZ; omega
theorem halves_flr (x : Int) {k : Nat} (h : k < 16) : flr x (2 ^ k) = x / 2 ^ k := flr_pos x (by have := pow_bd h; omega)

end Go.Proofs.Ythpobegfiflppaa
