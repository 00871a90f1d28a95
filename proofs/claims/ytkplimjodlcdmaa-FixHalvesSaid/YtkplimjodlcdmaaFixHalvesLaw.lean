/-
  DERIVED. The walk of the law FixHalves: it returns true, whatever the numbers.
-/
import Derived.Test.YtkplimjodlcdmaaFixAid
import Derived.Test.YtkplimjodlcdmaaFixSmall
namespace Go.Proofs.Ytkplimjodlcdmaa
open Go.RowKit
set_option linter.unusedVariables false

theorem quarter_bd {a : Int} (h1 : -2147483648 ≤ a) (h2 : a ≤ 2147483647) : -536870912 ≤ a.tdiv 4 ∧ a.tdiv 4 ≤ 536870912 := by
  have h : (a.tdiv 4).natAbs = a.natAbs / 4 := Int.natAbs_tdiv a 4
  omega

set_option maxHeartbeats 1000000 in
theorem fixHalves_walk (a0 : Int) (a1 : Int) (a2 : Int) (w0 : (Lit.int .i32 a0).wf = true) (w1 : (Lit.int .i32 a1).wf = true) (w2 : (Lit.int .u8 a2).wf = true) (w : World) :
    Calls Try.prog 7 #[.int .i32 a0, .int .i32 a1, .int .u8 a2] w fun e w' => e = .returned (.bool true) ∧ Grown w w' := by
  obtain ⟨x1, x2⟩ := bd32 w0
  obtain ⟨y1, y2⟩ := bd32 w1
  obtain ⟨z1, z2⟩ := bd8 w2
  clear w0 w1 w2
  obtain ⟨t1, t2⟩ := quarter_bd x1 x2
  obtain ⟨t3, t4⟩ := quarter_bd y1 y2
  obtain ⟨k, hk0⟩ : ∃ k : Nat, a2 % 16 = (k : Int) := ⟨(a2 % 16).toNat, by omega⟩
  have hk : k < 16 := by omega
  have HK := Lib.hid hk0
  clear hk0
  go_enter Try.func7, Try.ntmps7
  go_wp2_with fail
  with_reducible refine (awake_any _).mono ?_
  rintro e w1 ⟨rfl, hq⟩
  go_wp2
  rw [HK.out]
  generalize a0.tdiv 4 = x at *
  generalize a1.tdiv 4 = y at *
  obtain ⟨p1, p2⟩ := pow_bd hk
  obtain ⟨m, em, em2, m1, m2⟩ := pow_quo hk
  obtain ⟨q1, q2⟩ := quo_bd x (p := 2 ^ k) (by omega) t1 t2
  have b1 : 2 ≤ (65536 : Int) / 2 ^ k := by rw [em]; exact m1
  have b2 : (65536 : Int) / 2 ^ k ≤ 65536 := by rw [em]; exact m2
  clear em em2 m1 m2
  have g1 : (mulZ x 32768 == x / 2) = true := beq_iff_eq.2 (halves_half x t1 t2)
  have g2 : (mulZ x 131072 == 2 * x) = true := beq_iff_eq.2 (halves_twice x t1 t2)
  have g3 : (subZ (addZ x y) y == x) = true := beq_iff_eq.2 (halves_back x y t1 t2 t3 t4)
  have g4 : (divZ x 131072 == x / 2) = true := beq_iff_eq.2 (halves_div x t1 t2)
  have g5 : (mulZ x (65536 / 2 ^ k) == x / 2 ^ k) = true := beq_iff_eq.2 (halves_mul x hk t1 t2)
  have g6 : (flr x (2 ^ k) == x / 2 ^ k) = true := beq_iff_eq.2 (halves_flr x hk)
  have g7 : (clampZ (clampZ x) == x) = true := beq_iff_eq.2 (by rw [clampZ_clampZ]; exact clampZ_id (by omega) (by omega))
  obtain ⟨c1, c2⟩ := clampZ_bd x
  have d1 := clampZ_bd (clampZ x + clampZ y)
  have d2 : -2147483647 ≤ addZ x y := d1.1
  have d3 : addZ x y ≤ 2147483647 := d1.2
  clear d1
  go_quiet (first | (go_at_call 13; exact quiet_qt (mul_any _ _ _ (by omega) (by omega) (by omega) (by omega))) | (go_at_call 11; exact quiet_eq (add_any _ _ _ (by omega) (by omega) (by omega) (by omega))) | (go_at_call 12; exact quiet_eq (sub_any _ _ _ (by omega) (by omega) (by omega) (by omega))) | (go_at_call 16; exact quiet_qt (div_any _ _ _ (by omega) (by omega) (by omega) (by omega))) | (go_at_call 18; exact quiet_qt (floor_any _ _ _ (by omega) (by omega) (by omega) (by omega))) | (go_at_call 10; exact quiet_eq (clamp_any _ _ (by omega) (by omega))))
  go_wp2
  go_ret
  exact ⟨rfl, by repeat (first | exact hq.grown | refine grownN ?_ _ | apply Grown.alloc | apply Grown.drew)⟩

end Go.Proofs.Ytkplimjodlcdmaa
