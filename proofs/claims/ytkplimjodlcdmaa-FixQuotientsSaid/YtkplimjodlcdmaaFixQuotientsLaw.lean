/-
  DERIVED. The walk of the law FixQuotients: it returns true, whatever the numbers.
-/
import Derived.Test.YtkplimjodlcdmaaFixAid
import Derived.Deep.DeepCutAuto
import Derived.Deep.CutBlock
namespace Go.Proofs.Ytkplimjodlcdmaa
open Go.RowKit
set_option linter.unusedVariables false

set_option maxHeartbeats 400000 in
theorem fixQuotients_walk (a0 : Int) (a1 : Int) (a2 : Int) (a3 : Int) (w0 : (Lit.int .i64 a0).wf = true) (w1 : (Lit.int .i64 a1).wf = true) (w2 : (Lit.int .i32 a2).wf = true) (w3 : (Lit.int .i32 a3).wf = true) (w : World) :
    Calls Try.prog 4 #[.int .i64 a0, .int .i64 a1, .int .i32 a2, .int .i32 a3] w fun e w' => e = .returned (.bool true) ∧ Grown w w' := by
  obtain ⟨x1, x2⟩ := bd64 w0
  obtain ⟨y1, y2⟩ := bd64 w1
  obtain ⟨x3, x4⟩ := bd32 w2
  obtain ⟨y3, y4⟩ := bd32 w3
  clear w0 w1 w2 w3
  obtain ⟨c1, c2⟩ := clampZ_bd a0
  obtain ⟨c3, c4⟩ := clampZ_bd a1
  obtain ⟨c5, c6⟩ := clampZ_bd a2
  obtain ⟨c7, c8⟩ := clampZ_bd a3
  have b1 : -65536 ≤ withinZ a0 65536 ∧ withinZ a0 65536 ≤ 65536 := by unfold withinZ; omega
  have b2 : -65536 ≤ withinZ a2 65536 ∧ withinZ a2 65536 ≤ 65536 := by unfold withinZ; omega
  obtain ⟨b1, b1'⟩ := b1
  obtain ⟨b2, b2'⟩ := b2
  go_enter Try.func4, Try.ntmps4
  go_wp2_with fail
  with_reducible refine (awake_any _).mono ?_
  rintro e w' ⟨rfl, hq⟩
  go_wp2
  refine wp_loop_rounds 3 ?_
  rw [rounds_succ]
  go_wp2
  go_quiet ((go_at_call 9; exact quiet_eq (rclamp_any _ _ (by omega) (by omega))))
  go_upto_block 2 with fail
  go_cut [13] (fun v wx => v = .int .i64 (divZ a0 a1) ∧ ∃ n : Nat, wx = ((w'.alloc (.cells #[.int .i64 a0, .int .i64 a1, .int .i64 a2, .int .i64 a3] 23)).alloc (.cells #[.int .i64 a0, .int .i64 a1] 23)).drewN n)
  case first =>
    by_cases hb : a1 = 0
    · have hz : (clampZ a1 != 0) = false := by simp [clampZ_zero, hb]
      have HD := Lib.hid (show divZ a0 a1 = limZ a0 from by unfold divZ; rw [if_pos hb])
      clear hb
      by_cases hp : 0 < a0
      · have HL := Lib.hid (show limZ a0 = 2147483647 from by unfold limZ; rw [if_pos hp])
        have hp' : 0 < clampZ a0 := by unfold clampZ; omega
        go_wp2
        go_meet
        exact ⟨by rw [HD.out, HL.out], _, rfl⟩
      · by_cases hn : a0 < 0
        · have HL := Lib.hid (show limZ a0 = -2147483647 from by unfold limZ; rw [if_neg hp, if_pos hn])
          have hp' : clampZ a0 < 0 := by unfold clampZ; omega
          go_wp2
          go_meet
          exact ⟨by rw [HD.out, HL.out], _, rfl⟩
        · have HL := Lib.hid (show limZ a0 = 0 from by unfold limZ; rw [if_neg hp, if_neg hn])
          have hp' : ¬ 0 < clampZ a0 := by unfold clampZ; omega
          have hp'' : ¬ clampZ a0 < 0 := by unfold clampZ; omega
          go_wp2
          go_meet
          exact ⟨by rw [HD.out, HL.out], _, rfl⟩
    · have hz : (clampZ a1 != 0) = true := by simp [clampZ_zero, hb]
      have HD := Lib.hid (show divZ a0 a1 = clampZ (flr (clampZ a0 * 65536) (clampZ a1)) from by unfold divZ; rw [if_neg hb, Int.mul_comm])
      obtain ⟨f1, f2⟩ := flr_bd (clampZ a0 * 65536) (clampZ a1) (M := 140737488289792) (by omega) (by omega)
      clear hb
      go_wp2_with fail
      with_reducible refine (rfloor_any _ _ _ (by omega) (by omega) (by omega) (by omega)).mono ?_
      rintro e w1 ⟨rfl, rfl⟩
      go_wp2_with fail
      with_reducible refine (rclamp_any _ _ (by omega) (by omega)).mono ?_
      rintro e w1 ⟨rfl, rfl⟩
      go_wp2
      go_meet
      exact ⟨by rw [HD.out], _, rfl⟩
  obtain ⟨rfl, m1, rfl⟩ := hcut
  go_wp2_with fail
  with_reducible refine (div_any _ _ _ (by omega) (by omega) (by omega) (by omega)).mono ?_
  rintro e w1 ⟨rfl, n1, rfl⟩
  go_wp2_with fail
  with_reducible refine (whole_any _ _ (by omega) (by omega)).mono ?_
  rintro e w1 ⟨rfl, n2, rfl⟩
  go_wp2_with fail
  with_reducible refine (rfloor_any _ _ _ (by omega) (by omega) (by omega) (by omega)).mono ?_
  rintro e w1 ⟨rfl, rfl⟩
  go_wp2
  go_quiet (fail)
  go_upto_region 17 with fail
  go_cut [16] (fun v wx => v = .int .i64 (withinZ a0 65536) ∧ ∃ n : Nat, wx = ((w'.alloc (.cells #[.int .i64 a0, .int .i64 a1, .int .i64 a2, .int .i64 a3] 23)).alloc (.cells #[.int .i64 a0, .int .i64 a1] 23)).drewN n)
  case first =>
    go_wp2
    all_goals (go_meet; exact ⟨congrArg (Value.int IntKind.i64) (by unfold withinZ; omega), _, rfl⟩)
  obtain ⟨rfl, p1, rfl⟩ := hcut
  go_wp2_with fail
  with_reducible refine (floor_any _ _ _ (by omega) (by omega) (by omega) (by omega)).mono ?_
  rintro e w1 ⟨rfl, r1, rfl⟩
  go_wp2_with fail
  with_reducible refine (rfloor_any _ _ _ (by omega) (by omega) (by omega) (by omega)).mono ?_
  rintro e w1 ⟨rfl, rfl⟩
  go_wp2_with fail
  with_reducible refine (of_any _ _ (by omega) (by omega)).mono ?_
  rintro e w1 ⟨rfl, rfl⟩
  go_wp2_with fail
  with_reducible refine (rclamp_any _ _ (by omega) (by omega)).mono ?_
  rintro e w1 ⟨rfl, rfl⟩
  rw [Int.mul_comm (withinZ a0 65536) 65536]
  go_wp2
  rw [rounds_succ]
  go_wp2
  go_quiet ((go_at_call 9; exact quiet_eq (rclamp_any _ _ (by omega) (by omega))))
  go_upto_block 2 with fail
  go_cut [13] (fun v wx => v = .int .i64 (divZ a2 a3) ∧ ∃ n : Nat, wx = ((((w'.alloc (.cells #[.int .i64 a0, .int .i64 a1, .int .i64 a2, .int .i64 a3] 23)).alloc (.cells #[.int .i64 a0, .int .i64 a1] 23)).drewN (p1 + r1)).alloc (.cells #[.int .i64 a2, .int .i64 a3] 23)).drewN n)
  case first =>
    by_cases hb : a3 = 0
    · have hz : (clampZ a3 != 0) = false := by simp [clampZ_zero, hb]
      have HD := Lib.hid (show divZ a2 a3 = limZ a2 from by unfold divZ; rw [if_pos hb])
      clear hb
      by_cases hp : 0 < a2
      · have HL := Lib.hid (show limZ a2 = 2147483647 from by unfold limZ; rw [if_pos hp])
        have hp' : 0 < clampZ a2 := by unfold clampZ; omega
        go_wp2
        go_meet
        exact ⟨by rw [HD.out, HL.out], _, rfl⟩
      · by_cases hn : a2 < 0
        · have HL := Lib.hid (show limZ a2 = -2147483647 from by unfold limZ; rw [if_neg hp, if_pos hn])
          have hp' : clampZ a2 < 0 := by unfold clampZ; omega
          go_wp2
          go_meet
          exact ⟨by rw [HD.out, HL.out], _, rfl⟩
        · have HL := Lib.hid (show limZ a2 = 0 from by unfold limZ; rw [if_neg hp, if_neg hn])
          have hp' : ¬ 0 < clampZ a2 := by unfold clampZ; omega
          have hp'' : ¬ clampZ a2 < 0 := by unfold clampZ; omega
          go_wp2
          go_meet
          exact ⟨by rw [HD.out, HL.out], _, rfl⟩
    · have hz : (clampZ a3 != 0) = true := by simp [clampZ_zero, hb]
      have HD := Lib.hid (show divZ a2 a3 = clampZ (flr (clampZ a2 * 65536) (clampZ a3)) from by unfold divZ; rw [if_neg hb, Int.mul_comm])
      obtain ⟨f1, f2⟩ := flr_bd (clampZ a2 * 65536) (clampZ a3) (M := 140737488289792) (by omega) (by omega)
      clear hb
      go_wp2_with fail
      with_reducible refine (rfloor_any _ _ _ (by omega) (by omega) (by omega) (by omega)).mono ?_
      rintro e w1 ⟨rfl, rfl⟩
      go_wp2_with fail
      with_reducible refine (rclamp_any _ _ (by omega) (by omega)).mono ?_
      rintro e w1 ⟨rfl, rfl⟩
      go_wp2
      go_meet
      exact ⟨by rw [HD.out], _, rfl⟩
  obtain ⟨rfl, m2, rfl⟩ := hcut
  go_wp2_with fail
  with_reducible refine (div_any _ _ _ (by omega) (by omega) (by omega) (by omega)).mono ?_
  rintro e w1 ⟨rfl, n1, rfl⟩
  go_wp2_with fail
  with_reducible refine (whole_any _ _ (by omega) (by omega)).mono ?_
  rintro e w1 ⟨rfl, n2, rfl⟩
  go_wp2_with fail
  with_reducible refine (rfloor_any _ _ _ (by omega) (by omega) (by omega) (by omega)).mono ?_
  rintro e w1 ⟨rfl, rfl⟩
  go_wp2
  go_quiet (fail)
  go_upto_region 17 with fail
  go_cut [16] (fun v wx => v = .int .i64 (withinZ a2 65536) ∧ ∃ n : Nat, wx = ((((w'.alloc (.cells #[.int .i64 a0, .int .i64 a1, .int .i64 a2, .int .i64 a3] 23)).alloc (.cells #[.int .i64 a0, .int .i64 a1] 23)).drewN (p1 + r1)).alloc (.cells #[.int .i64 a2, .int .i64 a3] 23)).drewN n)
  case first =>
    go_wp2
    all_goals (go_meet; exact ⟨congrArg (Value.int IntKind.i64) (by unfold withinZ; omega), _, rfl⟩)
  obtain ⟨rfl, p2, rfl⟩ := hcut
  go_wp2_with fail
  with_reducible refine (floor_any _ _ _ (by omega) (by omega) (by omega) (by omega)).mono ?_
  rintro e w1 ⟨rfl, n1, rfl⟩
  go_wp2_with fail
  with_reducible refine (rfloor_any _ _ _ (by omega) (by omega) (by omega) (by omega)).mono ?_
  rintro e w1 ⟨rfl, rfl⟩
  go_wp2_with fail
  with_reducible refine (of_any _ _ (by omega) (by omega)).mono ?_
  rintro e w1 ⟨rfl, rfl⟩
  go_wp2_with fail
  with_reducible refine (rclamp_any _ _ (by omega) (by omega)).mono ?_
  rintro e w1 ⟨rfl, rfl⟩
  rw [Int.mul_comm (withinZ a2 65536) 65536]
  go_wp2
  rw [rounds_succ]
  go_wp2
  go_ret
  exact ⟨rfl, by repeat (first | exact hq.grown | refine grownN ?_ _ | apply Grown.alloc | apply Grown.drew)⟩

end Go.Proofs.Ytkplimjodlcdmaa
