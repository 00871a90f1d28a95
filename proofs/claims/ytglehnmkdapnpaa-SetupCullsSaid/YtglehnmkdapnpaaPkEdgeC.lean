/-
  DERIVED. THE WALKS of layer 3 (edge): Covers.
-/
import Derived.Test.YtglehnmkdapnpaaPkEdge
namespace Go.Proofs.Ytglehnmkdapnpaa
open Go.RowKit
set_option linter.unusedVariables false

theorem idxR (x y z : Value) (w : World) :
    (Instr.index 39 (.agg #[x, y, z]) (.int .i64 0)).run Try.prog w = .ok x w ∧ (Instr.index 39 (.agg #[x, y, z]) (.int .i64 1)).run Try.prog w = .ok y w ∧ (Instr.index 39 (.agg #[x, y, z]) (.int .i64 2)).run Try.prog w = .ok z w := by
  refine ⟨?_, ?_, ?_⟩ <;> simp [Instr.index, asIntOf, run_underlying Try.underlying39, go_sem, part]
set_option maxRecDepth 100000 in
set_option maxHeartbeats 4000000 in
theorem covers_any (ax ay bx by' cx cy px py : Int) (hax : -9223372036854775808 ≤ ax ∧ ax ≤ 9223372036854775807) (hay : -9223372036854775808 ≤ ay ∧ ay ≤ 9223372036854775807) (hbx : -9223372036854775808 ≤ bx ∧ bx ≤ 9223372036854775807) (hby' : -9223372036854775808 ≤ by' ∧ by' ≤ 9223372036854775807) (hcx : -9223372036854775808 ≤ cx ∧ cx ≤ 9223372036854775807) (hcy : -9223372036854775808 ≤ cy ∧ cy ≤ 9223372036854775807) (hpx : -9223372036854775808 ≤ px ∧ px ≤ 9223372036854775807) (hpy : -9223372036854775808 ≤ py ∧ py ≤ 9223372036854775807) (w : World) :
    Calls Try.prog 23 #[.agg #[.int .i64 ax, .int .i64 ay, .int .i64 bx, .int .i64 by', .int .i64 cx, .int .i64 cy], .agg #[.int .i64 px, .int .i64 py]] w fun e w' => e = .returned (.bool (covB ax ay bx by' cx cy px py)) ∧ Ext w w' := by
  have hI := idxR
  go_enter Try.func23, Try.ntmps23
  go_wp2_with fail
  refine (area_any _ _ _ _ _ _ (by omega) (by omega) (by omega) (by omega) (by omega) (by omega) _).mono ?_
  rintro e w1 ⟨rfl, hx1⟩
  have T1 : Blk w1 w.heap.size #[.int .i64 ax, .int .i64 ay, .int .i64 bx, .int .i64 by', .int .i64 cx, .int .i64 cy] 52 := ((Blk.new w _ _).alloc _).ext hx1
  have P1 : Blk w1 (w.heap.size + 1) #[.int .i64 px, .int .i64 py] 50 := (Blk.new' (by simp) _ _).ext hx1
  have e1 : Ext w w1 := (((Ext.refl w).alloc _ _).alloc _ _).trans hx1
  clear hx1
  have cT1 := T1.cell
  have cP1 := P1.cell
  rcases Int.lt_or_le 0 (sd ax ay bx by' cx cy) with hA | hA
  case inr =>
    have hB : decide (sd ax ay bx by' cx cy ≤ 0) = true := by simpa using hA
    have hC : covB ax ay bx by' cx cy px py = false := by
      have : decide (0 < sd ax ay bx by' cx cy) = false := by simpa using hA
      simp [covB, this]
    go_wp2
    go_ret
    exact ⟨by rw [hC]; rfl, e1⟩
  have hB : decide (sd ax ay bx by' cx cy ≤ 0) = false := by simpa using hA
  go_wp2_with fail
  refine (weights_any _ _ _ _ _ _ _ _ (by omega) (by omega) (by omega) (by omega) (by omega) (by omega) (by omega) (by omega) _).mono ?_
  rintro e w2 ⟨rfl, hx2⟩
  have T2 := T1.ext hx2
  have cT2 := T2.cell
  have P2 := P1.ext hx2
  have cP2 := P2.cell
  clear T1 cT1 P1 cP1
  have e2 := e1.trans hx2
  clear e1 hx2
  go_wp2
  refine wp_loop_rounds 4 ?_
  rw [rounds_succ]
  go_wp2_with fail
  refine (opposite0_any _ _ _ _ _ _ _).mono ?_
  rintro e w3 ⟨rfl, hx3⟩
  have T3 := T2.ext hx3
  have cT3 := T3.cell
  have P3 := P2.ext hx3
  have cP3 := P3.cell
  have e3 := e2.trans hx3
  clear e2 hx3 T2 cT2 P2 cP2
  have zw := e3.size
  have zt := T3.lt
  have zp := P3.lt
  have y0 : ¬ (w.heap.size = w3.heap.size) := by omega
  have y1 : ¬ (w.heap.size + 1 = w3.heap.size) := by omega
  rcases Int.lt_trichotomy (sd bx by' cx cy px py) 0 with hs | hs | hs
  · have d1 : decide (sd bx by' cx cy px py < 0) = true := by simpa using hs
    have hw0 : wB bx by' cx cy px py = false := by
      unfold wB
      rw [decide_eq_false (by omega), decide_eq_false (by omega)]
      rfl
    have hC : covB ax ay bx by' cx cy px py = false := by simp [covB, hw0]
    go_wp2
    go_ret
    exact ⟨by rw [hC]; rfl, (e3.alloc _ _).alloc _ _⟩
  · have d1 : decide (sd bx by' cx cy px py < 0) = false := by rw [decide_eq_false_iff_not]; omega
    have d2 : (sd bx by' cx cy px py == 0) = true := by rw [beq_iff_eq]; omega
    go_wp2_with fail
    refine (owns_any _ _ _ _ (by omega) (by omega) (by omega) (by omega) _).mono ?_
    rintro e w4 ⟨rfl, hx4⟩
    have T4 := ((T3.alloc _).alloc _).ext hx4
    have P4 := ((P3.alloc _).alloc _).ext hx4
    have e4 := ((e3.alloc _ _).alloc _ _).trans hx4
    clear hx4 e3 zw zt zp y0 y1 T3 cT3 P3 cP3
    have cT4 := T4.cell
    have cP4 := P4.cell
    cases ho : ownB bx by' cx cy
    · have hw0 : wB bx by' cx cy px py = false := by
        unfold wB
        rw [decide_eq_false (by omega), ho, Bool.and_false]
        rfl
      have hC : covB ax ay bx by' cx cy px py = false := by simp [covB, hw0]
      go_wp2
      go_ret
      exact ⟨by rw [hC]; rfl, e4⟩
    · have hw0 : wB bx by' cx cy px py = true := by
        unfold wB
        rw [decide_eq_true hs, ho]
        simp
      clear hs
      go_wp2
      rw [rounds_succ]
      go_wp2_with fail
      refine (opposite1_any _ _ _ _ _ _ _).mono ?_
      rintro e w5 ⟨rfl, hx5⟩
      have T5 := T4.ext hx5
      have cT5 := T5.cell
      have P5 := P4.ext hx5
      have cP5 := P5.cell
      have e5 := e4.trans hx5
      clear e4 hx5 T4 cT4 P4 cP4
      have zw := e5.size
      have zt := T5.lt
      have zp := P5.lt
      have y0 : ¬ (w.heap.size = w5.heap.size) := by omega
      have y1 : ¬ (w.heap.size + 1 = w5.heap.size) := by omega
      rcases Int.lt_trichotomy (sd cx cy ax ay px py) 0 with hs | hs | hs
      · have d1 : decide (sd cx cy ax ay px py < 0) = true := by simpa using hs
        have hw1 : wB cx cy ax ay px py = false := by
          unfold wB
          rw [decide_eq_false (by omega), decide_eq_false (by omega)]
          rfl
        have hC : covB ax ay bx by' cx cy px py = false := by simp [covB, hw1]
        go_wp2
        go_ret
        exact ⟨by rw [hC]; rfl, (e5.alloc _ _).alloc _ _⟩
      · have d1 : decide (sd cx cy ax ay px py < 0) = false := by rw [decide_eq_false_iff_not]; omega
        have d2 : (sd cx cy ax ay px py == 0) = true := by rw [beq_iff_eq]; omega
        go_wp2_with fail
        refine (owns_any _ _ _ _ (by omega) (by omega) (by omega) (by omega) _).mono ?_
        rintro e w6 ⟨rfl, hx6⟩
        have T6 := ((T5.alloc _).alloc _).ext hx6
        have P6 := ((P5.alloc _).alloc _).ext hx6
        have e6 := ((e5.alloc _ _).alloc _ _).trans hx6
        clear hx6 e5 zw zt zp y0 y1 T5 cT5 P5 cP5
        have cT6 := T6.cell
        have cP6 := P6.cell
        cases ho : ownB cx cy ax ay
        · have hw1 : wB cx cy ax ay px py = false := by
            unfold wB
            rw [decide_eq_false (by omega), ho, Bool.and_false]
            rfl
          have hC : covB ax ay bx by' cx cy px py = false := by simp [covB, hw1]
          go_wp2
          go_ret
          exact ⟨by rw [hC]; rfl, e6⟩
        · have hw1 : wB cx cy ax ay px py = true := by
            unfold wB
            rw [decide_eq_true hs, ho]
            simp
          clear hs
          go_wp2
          rw [rounds_succ]
          go_wp2_with fail
          refine (opposite2_any _ _ _ _ _ _ _).mono ?_
          rintro e w7 ⟨rfl, hx7⟩
          have T7 := T6.ext hx7
          have cT7 := T7.cell
          have P7 := P6.ext hx7
          have cP7 := P7.cell
          have e7 := e6.trans hx7
          clear e6 hx7 T6 cT6 P6 cP6
          have zw := e7.size
          have zt := T7.lt
          have zp := P7.lt
          have y0 : ¬ (w.heap.size = w7.heap.size) := by omega
          have y1 : ¬ (w.heap.size + 1 = w7.heap.size) := by omega
          rcases Int.lt_trichotomy (sd ax ay bx by' px py) 0 with hs | hs | hs
          · have d1 : decide (sd ax ay bx by' px py < 0) = true := by simpa using hs
            have hw2 : wB ax ay bx by' px py = false := by
              unfold wB
              rw [decide_eq_false (by omega), decide_eq_false (by omega)]
              rfl
            have hC : covB ax ay bx by' cx cy px py = false := by simp [covB, hw2]
            go_wp2
            go_ret
            exact ⟨by rw [hC]; rfl, (e7.alloc _ _).alloc _ _⟩
          · have d1 : decide (sd ax ay bx by' px py < 0) = false := by rw [decide_eq_false_iff_not]; omega
            have d2 : (sd ax ay bx by' px py == 0) = true := by rw [beq_iff_eq]; omega
            go_wp2_with fail
            refine (owns_any _ _ _ _ (by omega) (by omega) (by omega) (by omega) _).mono ?_
            rintro e w8 ⟨rfl, hx8⟩
            have T8 := ((T7.alloc _).alloc _).ext hx8
            have P8 := ((P7.alloc _).alloc _).ext hx8
            have e8 := ((e7.alloc _ _).alloc _ _).trans hx8
            clear hx8 e7 zw zt zp y0 y1 T7 cT7 P7 cP7
            have cT8 := T8.cell
            have cP8 := P8.cell
            cases ho : ownB ax ay bx by'
            · have hw2 : wB ax ay bx by' px py = false := by
                unfold wB
                rw [decide_eq_false (by omega), ho, Bool.and_false]
                rfl
              have hC : covB ax ay bx by' cx cy px py = false := by simp [covB, hw2]
              go_wp2
              go_ret
              exact ⟨by rw [hC]; rfl, e8⟩
            · have hw2 : wB ax ay bx by' px py = true := by
                unfold wB
                rw [decide_eq_true hs, ho]
                simp
              clear hs
              go_wp2
              have hC : covB ax ay bx by' cx cy px py = true := by simp [covB, hA, hw0, hw1, hw2]
              rw [rounds_succ]
              go_wp2
              go_ret
              exact ⟨by rw [hC]; rfl, e8⟩
          · have d1 : decide (sd ax ay bx by' px py < 0) = false := by rw [decide_eq_false_iff_not]; omega
            have d2 : (sd ax ay bx by' px py == 0) = false := by rw [beq_eq_false_iff_ne]; omega
            have hw2 : wB ax ay bx by' px py = true := by
              unfold wB
              rw [decide_eq_true hs, Bool.true_or]
            go_wp2
            have T8 := (T7.alloc (.cells #[.int .i64 ax, .int .i64 ay] 50)).alloc (.cells #[.int .i64 bx, .int .i64 by'] 50)
            have P8 := (P7.alloc (.cells #[.int .i64 ax, .int .i64 ay] 50)).alloc (.cells #[.int .i64 bx, .int .i64 by'] 50)
            have e8 := (e7.alloc #[.int .i64 ax, .int .i64 ay] 50).alloc #[.int .i64 bx, .int .i64 by'] 50
            generalize ((w7.alloc (.cells #[.int .i64 ax, .int .i64 ay] 50)).alloc (.cells #[.int .i64 bx, .int .i64 by'] 50)) = w8 at *
            clear hs e7 zw zt zp y0 y1 T7 cT7 P7 cP7
            have cT8 := T8.cell
            have cP8 := P8.cell
            have hC : covB ax ay bx by' cx cy px py = true := by simp [covB, hA, hw0, hw1, hw2]
            rw [rounds_succ]
            go_wp2
            go_ret
            exact ⟨by rw [hC]; rfl, e8⟩
      · have d1 : decide (sd cx cy ax ay px py < 0) = false := by rw [decide_eq_false_iff_not]; omega
        have d2 : (sd cx cy ax ay px py == 0) = false := by rw [beq_eq_false_iff_ne]; omega
        have hw1 : wB cx cy ax ay px py = true := by
          unfold wB
          rw [decide_eq_true hs, Bool.true_or]
        go_wp2
        have T6 := (T5.alloc (.cells #[.int .i64 cx, .int .i64 cy] 50)).alloc (.cells #[.int .i64 ax, .int .i64 ay] 50)
        have P6 := (P5.alloc (.cells #[.int .i64 cx, .int .i64 cy] 50)).alloc (.cells #[.int .i64 ax, .int .i64 ay] 50)
        have e6 := (e5.alloc #[.int .i64 cx, .int .i64 cy] 50).alloc #[.int .i64 ax, .int .i64 ay] 50
        generalize ((w5.alloc (.cells #[.int .i64 cx, .int .i64 cy] 50)).alloc (.cells #[.int .i64 ax, .int .i64 ay] 50)) = w6 at *
        clear hs e5 zw zt zp y0 y1 T5 cT5 P5 cP5
        have cT6 := T6.cell
        have cP6 := P6.cell
        rw [rounds_succ]
        go_wp2_with fail
        refine (opposite2_any _ _ _ _ _ _ _).mono ?_
        rintro e w7 ⟨rfl, hx7⟩
        have T7 := T6.ext hx7
        have cT7 := T7.cell
        have P7 := P6.ext hx7
        have cP7 := P7.cell
        have e7 := e6.trans hx7
        clear e6 hx7 T6 cT6 P6 cP6
        have zw := e7.size
        have zt := T7.lt
        have zp := P7.lt
        have y0 : ¬ (w.heap.size = w7.heap.size) := by omega
        have y1 : ¬ (w.heap.size + 1 = w7.heap.size) := by omega
        rcases Int.lt_trichotomy (sd ax ay bx by' px py) 0 with hs | hs | hs
        · have d1 : decide (sd ax ay bx by' px py < 0) = true := by simpa using hs
          have hw2 : wB ax ay bx by' px py = false := by
            unfold wB
            rw [decide_eq_false (by omega), decide_eq_false (by omega)]
            rfl
          have hC : covB ax ay bx by' cx cy px py = false := by simp [covB, hw2]
          go_wp2
          go_ret
          exact ⟨by rw [hC]; rfl, (e7.alloc _ _).alloc _ _⟩
        · have d1 : decide (sd ax ay bx by' px py < 0) = false := by rw [decide_eq_false_iff_not]; omega
          have d2 : (sd ax ay bx by' px py == 0) = true := by rw [beq_iff_eq]; omega
          go_wp2_with fail
          refine (owns_any _ _ _ _ (by omega) (by omega) (by omega) (by omega) _).mono ?_
          rintro e w8 ⟨rfl, hx8⟩
          have T8 := ((T7.alloc _).alloc _).ext hx8
          have P8 := ((P7.alloc _).alloc _).ext hx8
          have e8 := ((e7.alloc _ _).alloc _ _).trans hx8
          clear hx8 e7 zw zt zp y0 y1 T7 cT7 P7 cP7
          have cT8 := T8.cell
          have cP8 := P8.cell
          cases ho : ownB ax ay bx by'
          · have hw2 : wB ax ay bx by' px py = false := by
              unfold wB
              rw [decide_eq_false (by omega), ho, Bool.and_false]
              rfl
            have hC : covB ax ay bx by' cx cy px py = false := by simp [covB, hw2]
            go_wp2
            go_ret
            exact ⟨by rw [hC]; rfl, e8⟩
          · have hw2 : wB ax ay bx by' px py = true := by
              unfold wB
              rw [decide_eq_true hs, ho]
              simp
            clear hs
            go_wp2
            have hC : covB ax ay bx by' cx cy px py = true := by simp [covB, hA, hw0, hw1, hw2]
            rw [rounds_succ]
            go_wp2
            go_ret
            exact ⟨by rw [hC]; rfl, e8⟩
        · have d1 : decide (sd ax ay bx by' px py < 0) = false := by rw [decide_eq_false_iff_not]; omega
          have d2 : (sd ax ay bx by' px py == 0) = false := by rw [beq_eq_false_iff_ne]; omega
          have hw2 : wB ax ay bx by' px py = true := by
            unfold wB
            rw [decide_eq_true hs, Bool.true_or]
          go_wp2
          have T8 := (T7.alloc (.cells #[.int .i64 ax, .int .i64 ay] 50)).alloc (.cells #[.int .i64 bx, .int .i64 by'] 50)
          have P8 := (P7.alloc (.cells #[.int .i64 ax, .int .i64 ay] 50)).alloc (.cells #[.int .i64 bx, .int .i64 by'] 50)
          have e8 := (e7.alloc #[.int .i64 ax, .int .i64 ay] 50).alloc #[.int .i64 bx, .int .i64 by'] 50
          generalize ((w7.alloc (.cells #[.int .i64 ax, .int .i64 ay] 50)).alloc (.cells #[.int .i64 bx, .int .i64 by'] 50)) = w8 at *
          clear hs e7 zw zt zp y0 y1 T7 cT7 P7 cP7
          have cT8 := T8.cell
          have cP8 := P8.cell
          have hC : covB ax ay bx by' cx cy px py = true := by simp [covB, hA, hw0, hw1, hw2]
          rw [rounds_succ]
          go_wp2
          go_ret
          exact ⟨by rw [hC]; rfl, e8⟩
  · have d1 : decide (sd bx by' cx cy px py < 0) = false := by rw [decide_eq_false_iff_not]; omega
    have d2 : (sd bx by' cx cy px py == 0) = false := by rw [beq_eq_false_iff_ne]; omega
    have hw0 : wB bx by' cx cy px py = true := by
      unfold wB
      rw [decide_eq_true hs, Bool.true_or]
    go_wp2
    have T4 := (T3.alloc (.cells #[.int .i64 bx, .int .i64 by'] 50)).alloc (.cells #[.int .i64 cx, .int .i64 cy] 50)
    have P4 := (P3.alloc (.cells #[.int .i64 bx, .int .i64 by'] 50)).alloc (.cells #[.int .i64 cx, .int .i64 cy] 50)
    have e4 := (e3.alloc #[.int .i64 bx, .int .i64 by'] 50).alloc #[.int .i64 cx, .int .i64 cy] 50
    generalize ((w3.alloc (.cells #[.int .i64 bx, .int .i64 by'] 50)).alloc (.cells #[.int .i64 cx, .int .i64 cy] 50)) = w4 at *
    clear hs e3 zw zt zp y0 y1 T3 cT3 P3 cP3
    have cT4 := T4.cell
    have cP4 := P4.cell
    rw [rounds_succ]
    go_wp2_with fail
    refine (opposite1_any _ _ _ _ _ _ _).mono ?_
    rintro e w5 ⟨rfl, hx5⟩
    have T5 := T4.ext hx5
    have cT5 := T5.cell
    have P5 := P4.ext hx5
    have cP5 := P5.cell
    have e5 := e4.trans hx5
    clear e4 hx5 T4 cT4 P4 cP4
    have zw := e5.size
    have zt := T5.lt
    have zp := P5.lt
    have y0 : ¬ (w.heap.size = w5.heap.size) := by omega
    have y1 : ¬ (w.heap.size + 1 = w5.heap.size) := by omega
    rcases Int.lt_trichotomy (sd cx cy ax ay px py) 0 with hs | hs | hs
    · have d1 : decide (sd cx cy ax ay px py < 0) = true := by simpa using hs
      have hw1 : wB cx cy ax ay px py = false := by
        unfold wB
        rw [decide_eq_false (by omega), decide_eq_false (by omega)]
        rfl
      have hC : covB ax ay bx by' cx cy px py = false := by simp [covB, hw1]
      go_wp2
      go_ret
      exact ⟨by rw [hC]; rfl, (e5.alloc _ _).alloc _ _⟩
    · have d1 : decide (sd cx cy ax ay px py < 0) = false := by rw [decide_eq_false_iff_not]; omega
      have d2 : (sd cx cy ax ay px py == 0) = true := by rw [beq_iff_eq]; omega
      go_wp2_with fail
      refine (owns_any _ _ _ _ (by omega) (by omega) (by omega) (by omega) _).mono ?_
      rintro e w6 ⟨rfl, hx6⟩
      have T6 := ((T5.alloc _).alloc _).ext hx6
      have P6 := ((P5.alloc _).alloc _).ext hx6
      have e6 := ((e5.alloc _ _).alloc _ _).trans hx6
      clear hx6 e5 zw zt zp y0 y1 T5 cT5 P5 cP5
      have cT6 := T6.cell
      have cP6 := P6.cell
      cases ho : ownB cx cy ax ay
      · have hw1 : wB cx cy ax ay px py = false := by
          unfold wB
          rw [decide_eq_false (by omega), ho, Bool.and_false]
          rfl
        have hC : covB ax ay bx by' cx cy px py = false := by simp [covB, hw1]
        go_wp2
        go_ret
        exact ⟨by rw [hC]; rfl, e6⟩
      · have hw1 : wB cx cy ax ay px py = true := by
          unfold wB
          rw [decide_eq_true hs, ho]
          simp
        clear hs
        go_wp2
        rw [rounds_succ]
        go_wp2_with fail
        refine (opposite2_any _ _ _ _ _ _ _).mono ?_
        rintro e w7 ⟨rfl, hx7⟩
        have T7 := T6.ext hx7
        have cT7 := T7.cell
        have P7 := P6.ext hx7
        have cP7 := P7.cell
        have e7 := e6.trans hx7
        clear e6 hx7 T6 cT6 P6 cP6
        have zw := e7.size
        have zt := T7.lt
        have zp := P7.lt
        have y0 : ¬ (w.heap.size = w7.heap.size) := by omega
        have y1 : ¬ (w.heap.size + 1 = w7.heap.size) := by omega
        rcases Int.lt_trichotomy (sd ax ay bx by' px py) 0 with hs | hs | hs
        · have d1 : decide (sd ax ay bx by' px py < 0) = true := by simpa using hs
          have hw2 : wB ax ay bx by' px py = false := by
            unfold wB
            rw [decide_eq_false (by omega), decide_eq_false (by omega)]
            rfl
          have hC : covB ax ay bx by' cx cy px py = false := by simp [covB, hw2]
          go_wp2
          go_ret
          exact ⟨by rw [hC]; rfl, (e7.alloc _ _).alloc _ _⟩
        · have d1 : decide (sd ax ay bx by' px py < 0) = false := by rw [decide_eq_false_iff_not]; omega
          have d2 : (sd ax ay bx by' px py == 0) = true := by rw [beq_iff_eq]; omega
          go_wp2_with fail
          refine (owns_any _ _ _ _ (by omega) (by omega) (by omega) (by omega) _).mono ?_
          rintro e w8 ⟨rfl, hx8⟩
          have T8 := ((T7.alloc _).alloc _).ext hx8
          have P8 := ((P7.alloc _).alloc _).ext hx8
          have e8 := ((e7.alloc _ _).alloc _ _).trans hx8
          clear hx8 e7 zw zt zp y0 y1 T7 cT7 P7 cP7
          have cT8 := T8.cell
          have cP8 := P8.cell
          cases ho : ownB ax ay bx by'
          · have hw2 : wB ax ay bx by' px py = false := by
              unfold wB
              rw [decide_eq_false (by omega), ho, Bool.and_false]
              rfl
            have hC : covB ax ay bx by' cx cy px py = false := by simp [covB, hw2]
            go_wp2
            go_ret
            exact ⟨by rw [hC]; rfl, e8⟩
          · have hw2 : wB ax ay bx by' px py = true := by
              unfold wB
              rw [decide_eq_true hs, ho]
              simp
            clear hs
            go_wp2
            have hC : covB ax ay bx by' cx cy px py = true := by simp [covB, hA, hw0, hw1, hw2]
            rw [rounds_succ]
            go_wp2
            go_ret
            exact ⟨by rw [hC]; rfl, e8⟩
        · have d1 : decide (sd ax ay bx by' px py < 0) = false := by rw [decide_eq_false_iff_not]; omega
          have d2 : (sd ax ay bx by' px py == 0) = false := by rw [beq_eq_false_iff_ne]; omega
          have hw2 : wB ax ay bx by' px py = true := by
            unfold wB
            rw [decide_eq_true hs, Bool.true_or]
          go_wp2
          have T8 := (T7.alloc (.cells #[.int .i64 ax, .int .i64 ay] 50)).alloc (.cells #[.int .i64 bx, .int .i64 by'] 50)
          have P8 := (P7.alloc (.cells #[.int .i64 ax, .int .i64 ay] 50)).alloc (.cells #[.int .i64 bx, .int .i64 by'] 50)
          have e8 := (e7.alloc #[.int .i64 ax, .int .i64 ay] 50).alloc #[.int .i64 bx, .int .i64 by'] 50
          generalize ((w7.alloc (.cells #[.int .i64 ax, .int .i64 ay] 50)).alloc (.cells #[.int .i64 bx, .int .i64 by'] 50)) = w8 at *
          clear hs e7 zw zt zp y0 y1 T7 cT7 P7 cP7
          have cT8 := T8.cell
          have cP8 := P8.cell
          have hC : covB ax ay bx by' cx cy px py = true := by simp [covB, hA, hw0, hw1, hw2]
          rw [rounds_succ]
          go_wp2
          go_ret
          exact ⟨by rw [hC]; rfl, e8⟩
    · have d1 : decide (sd cx cy ax ay px py < 0) = false := by rw [decide_eq_false_iff_not]; omega
      have d2 : (sd cx cy ax ay px py == 0) = false := by rw [beq_eq_false_iff_ne]; omega
      have hw1 : wB cx cy ax ay px py = true := by
        unfold wB
        rw [decide_eq_true hs, Bool.true_or]
      go_wp2
      have T6 := (T5.alloc (.cells #[.int .i64 cx, .int .i64 cy] 50)).alloc (.cells #[.int .i64 ax, .int .i64 ay] 50)
      have P6 := (P5.alloc (.cells #[.int .i64 cx, .int .i64 cy] 50)).alloc (.cells #[.int .i64 ax, .int .i64 ay] 50)
      have e6 := (e5.alloc #[.int .i64 cx, .int .i64 cy] 50).alloc #[.int .i64 ax, .int .i64 ay] 50
      generalize ((w5.alloc (.cells #[.int .i64 cx, .int .i64 cy] 50)).alloc (.cells #[.int .i64 ax, .int .i64 ay] 50)) = w6 at *
      clear hs e5 zw zt zp y0 y1 T5 cT5 P5 cP5
      have cT6 := T6.cell
      have cP6 := P6.cell
      rw [rounds_succ]
      go_wp2_with fail
      refine (opposite2_any _ _ _ _ _ _ _).mono ?_
      rintro e w7 ⟨rfl, hx7⟩
      have T7 := T6.ext hx7
      have cT7 := T7.cell
      have P7 := P6.ext hx7
      have cP7 := P7.cell
      have e7 := e6.trans hx7
      clear e6 hx7 T6 cT6 P6 cP6
      have zw := e7.size
      have zt := T7.lt
      have zp := P7.lt
      have y0 : ¬ (w.heap.size = w7.heap.size) := by omega
      have y1 : ¬ (w.heap.size + 1 = w7.heap.size) := by omega
      rcases Int.lt_trichotomy (sd ax ay bx by' px py) 0 with hs | hs | hs
      · have d1 : decide (sd ax ay bx by' px py < 0) = true := by simpa using hs
        have hw2 : wB ax ay bx by' px py = false := by
          unfold wB
          rw [decide_eq_false (by omega), decide_eq_false (by omega)]
          rfl
        have hC : covB ax ay bx by' cx cy px py = false := by simp [covB, hw2]
        go_wp2
        go_ret
        exact ⟨by rw [hC]; rfl, (e7.alloc _ _).alloc _ _⟩
      · have d1 : decide (sd ax ay bx by' px py < 0) = false := by rw [decide_eq_false_iff_not]; omega
        have d2 : (sd ax ay bx by' px py == 0) = true := by rw [beq_iff_eq]; omega
        go_wp2_with fail
        refine (owns_any _ _ _ _ (by omega) (by omega) (by omega) (by omega) _).mono ?_
        rintro e w8 ⟨rfl, hx8⟩
        have T8 := ((T7.alloc _).alloc _).ext hx8
        have P8 := ((P7.alloc _).alloc _).ext hx8
        have e8 := ((e7.alloc _ _).alloc _ _).trans hx8
        clear hx8 e7 zw zt zp y0 y1 T7 cT7 P7 cP7
        have cT8 := T8.cell
        have cP8 := P8.cell
        cases ho : ownB ax ay bx by'
        · have hw2 : wB ax ay bx by' px py = false := by
            unfold wB
            rw [decide_eq_false (by omega), ho, Bool.and_false]
            rfl
          have hC : covB ax ay bx by' cx cy px py = false := by simp [covB, hw2]
          go_wp2
          go_ret
          exact ⟨by rw [hC]; rfl, e8⟩
        · have hw2 : wB ax ay bx by' px py = true := by
            unfold wB
            rw [decide_eq_true hs, ho]
            simp
          clear hs
          go_wp2
          have hC : covB ax ay bx by' cx cy px py = true := by simp [covB, hA, hw0, hw1, hw2]
          rw [rounds_succ]
          go_wp2
          go_ret
          exact ⟨by rw [hC]; rfl, e8⟩
      · have d1 : decide (sd ax ay bx by' px py < 0) = false := by rw [decide_eq_false_iff_not]; omega
        have d2 : (sd ax ay bx by' px py == 0) = false := by rw [beq_eq_false_iff_ne]; omega
        have hw2 : wB ax ay bx by' px py = true := by
          unfold wB
          rw [decide_eq_true hs, Bool.true_or]
        go_wp2
        have T8 := (T7.alloc (.cells #[.int .i64 ax, .int .i64 ay] 50)).alloc (.cells #[.int .i64 bx, .int .i64 by'] 50)
        have P8 := (P7.alloc (.cells #[.int .i64 ax, .int .i64 ay] 50)).alloc (.cells #[.int .i64 bx, .int .i64 by'] 50)
        have e8 := (e7.alloc #[.int .i64 ax, .int .i64 ay] 50).alloc #[.int .i64 bx, .int .i64 by'] 50
        generalize ((w7.alloc (.cells #[.int .i64 ax, .int .i64 ay] 50)).alloc (.cells #[.int .i64 bx, .int .i64 by'] 50)) = w8 at *
        clear hs e7 zw zt zp y0 y1 T7 cT7 P7 cP7
        have cT8 := T8.cell
        have cP8 := P8.cell
        have hC : covB ax ay bx by' cx cy px py = true := by simp [covB, hA, hw0, hw1, hw2]
        rw [rounds_succ]
        go_wp2
        go_ret
        exact ⟨by rw [hC]; rfl, e8⟩
end Go.Proofs.Ytglehnmkdapnpaa

