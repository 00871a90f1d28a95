/-
  DERIVED. THE WALKS of layer 3 (edge): Weights.
-/
import Derived.Test.YtbhgebflknafbaaEdgeBase
namespace Go.Proofs.Ytbhgebflknafbaa
open Go.RowKit
set_option linter.unusedVariables false

set_option maxRecDepth 100000 in
set_option maxHeartbeats 4000000 in
theorem weights_any (ax ay bx by' cx cy px py : Int) (hax : -9223372036854775808 ≤ ax ∧ ax ≤ 9223372036854775807) (hay : -9223372036854775808 ≤ ay ∧ ay ≤ 9223372036854775807) (hbx : -9223372036854775808 ≤ bx ∧ bx ≤ 9223372036854775807) (hby' : -9223372036854775808 ≤ by' ∧ by' ≤ 9223372036854775807) (hcx : -9223372036854775808 ≤ cx ∧ cx ≤ 9223372036854775807) (hcy : -9223372036854775808 ≤ cy ∧ cy ≤ 9223372036854775807) (hpx : -9223372036854775808 ≤ px ∧ px ≤ 9223372036854775807) (hpy : -9223372036854775808 ≤ py ∧ py ≤ 9223372036854775807) (w : World) :
    Calls Try.prog 12 #[.agg #[.int .i64 ax, .int .i64 ay, .int .i64 bx, .int .i64 by', .int .i64 cx, .int .i64 cy], .agg #[.int .i64 px, .int .i64 py]] w fun e w' => e = .returned (.agg #[.int .i64 (sd bx by' cx cy px py), .int .i64 (sd cx cy ax ay px py), .int .i64 (sd ax ay bx by' px py)]) ∧ Ext w w' := by
  go_enter Try.func12, Try.ntmps12
  go_wp2_with fail
  have T1 : Blk (((w.alloc (.cells #[.int .i64 ax, .int .i64 ay, .int .i64 bx, .int .i64 by', .int .i64 cx, .int .i64 cy] 25)).alloc (.cells #[.int .i64 px, .int .i64 py] 23)).alloc (.cells #[.int .i64 0, .int .i64 0, .int .i64 0] 37)) w.heap.size #[.int .i64 ax, .int .i64 ay, .int .i64 bx, .int .i64 by', .int .i64 cx, .int .i64 cy] 25 := ((Blk.new w _ _).alloc _).alloc _
  have P1 : Blk (((w.alloc (.cells #[.int .i64 ax, .int .i64 ay, .int .i64 bx, .int .i64 by', .int .i64 cx, .int .i64 cy] 25)).alloc (.cells #[.int .i64 px, .int .i64 py] 23)).alloc (.cells #[.int .i64 0, .int .i64 0, .int .i64 0] 37)) (w.heap.size + 1) #[.int .i64 px, .int .i64 py] 23 := (Blk.new' (by simp) _ _).alloc _
  have R1 : Blk (((w.alloc (.cells #[.int .i64 ax, .int .i64 ay, .int .i64 bx, .int .i64 by', .int .i64 cx, .int .i64 cy] 25)).alloc (.cells #[.int .i64 px, .int .i64 py] 23)).alloc (.cells #[.int .i64 0, .int .i64 0, .int .i64 0] 37)) (w.heap.size + 1 + 1) #[.int .i64 0, .int .i64 0, .int .i64 0] 37 := Blk.new' (by simp) _ _
  have e1 : Ext w (((w.alloc (.cells #[.int .i64 ax, .int .i64 ay, .int .i64 bx, .int .i64 by', .int .i64 cx, .int .i64 cy] 25)).alloc (.cells #[.int .i64 px, .int .i64 py] 23)).alloc (.cells #[.int .i64 0, .int .i64 0, .int .i64 0] 37)) := (((Ext.refl w).alloc _ _).alloc _ _).alloc _ _
  generalize (((w.alloc (.cells #[.int .i64 ax, .int .i64 ay, .int .i64 bx, .int .i64 by', .int .i64 cx, .int .i64 cy] 25)).alloc (.cells #[.int .i64 px, .int .i64 py] 23)).alloc (.cells #[.int .i64 0, .int .i64 0, .int .i64 0] 37)) = w1 at *
  have cT1 := T1.cell
  have cP1 := P1.cell
  have cR1 := R1.cell
  refine wp_loop_rounds 4 ?_
  rw [rounds_succ]
  go_wp2_with fail
  refine (opposite0_any _ _ _ _ _ _ _).mono ?_
  rintro e w2 ⟨rfl, hx2⟩
  have T2 := T1.ext hx2
  have cT2 := T2.cell
  have P2 := P1.ext hx2
  have cP2 := P2.cell
  have R2 := R1.ext hx2
  have cR2 := R2.cell
  clear T1 cT1 P1 cP1 R1 cR1
  have e2 := e1.trans hx2
  clear e1 hx2
  have z2 := R2.lt
  have zw2 := e2.size
  have zt := T2.lt
  have zp := P2.lt
  have y0 : ¬ (w.heap.size = w2.heap.size) := by omega
  have y1 : ¬ (w.heap.size + 1 = w2.heap.size) := by omega
  have y2 : ¬ (w.heap.size + 1 + 1 = w2.heap.size) := by omega
  go_wp2_with fail
  refine (side_any _ _ _ _ _ _ (by omega) (by omega) (by omega) (by omega) (by omega) (by omega) _).mono ?_
  rintro e w3 ⟨rfl, hx3⟩
  have T3 : Blk w3 w.heap.size #[.int .i64 ax, .int .i64 ay, .int .i64 bx, .int .i64 by', .int .i64 cx, .int .i64 cy] 25 := Blk.ext (by repeat (first | exact T2 | apply Blk.alloc | refine Blk.far ?_ (by simp <;> omega) _)) hx3
  have P3 : Blk w3 (w.heap.size + 1) #[.int .i64 px, .int .i64 py] 23 := Blk.ext (by repeat (first | exact P2 | apply Blk.alloc | refine Blk.far ?_ (by simp <;> omega) _)) hx3
  have R3 : Blk w3 (w.heap.size + 1 + 1) #[.int .i64 0, .int .i64 0, .int .i64 0] 37 := Blk.ext (by repeat (first | exact R2 | apply Blk.alloc | refine Blk.far ?_ (by simp <;> omega) _)) hx3
  have e3 : Ext w w3 := Ext.trans (by repeat (first | exact e2 | apply Ext.alloc | refine Ext.setCell ?_ (by simp <;> omega) _)) hx3
  clear zt zp y0 y1 y2 hx3 e2 z2 zw2 T2 cT2 P2 cP2 R2 cR2
  have cT3 := T3.cell
  have cP3 := P3.cell
  have cR3 := R3.cell
  have fR := R3.frozen
  go_wp2
  clear fR
  have z3 := R3.lt
  have zw3 := e3.size
  have T4 : Blk (w3.setCell ⟨w.heap.size + 1 + 1, 0, none⟩ (.int .i64 (sd bx by' cx cy px py))) w.heap.size #[.int .i64 ax, .int .i64 ay, .int .i64 bx, .int .i64 by', .int .i64 cx, .int .i64 cy] 25 := T3.far (by simp <;> omega) _
  have P4 : Blk (w3.setCell ⟨w.heap.size + 1 + 1, 0, none⟩ (.int .i64 (sd bx by' cx cy px py))) (w.heap.size + 1) #[.int .i64 px, .int .i64 py] 23 := P3.far (by simp <;> omega) _
  have R4 : Blk (w3.setCell ⟨w.heap.size + 1 + 1, 0, none⟩ (.int .i64 (sd bx by' cx cy px py))) (w.heap.size + 1 + 1) #[.int .i64 (sd bx by' cx cy px py), .int .i64 0, .int .i64 0] 37 := R3.set 0 _
  have e4 : Ext w (w3.setCell ⟨w.heap.size + 1 + 1, 0, none⟩ (.int .i64 (sd bx by' cx cy px py))) := e3.setCell (by simp <;> omega) _
  generalize (w3.setCell ⟨w.heap.size + 1 + 1, 0, none⟩ (.int .i64 (sd bx by' cx cy px py))) = w4 at *
  clear e3 z3 zw3 T3 cT3 P3 cP3 R3 cR3
  have cT4 := T4.cell
  have cP4 := P4.cell
  have cR4 := R4.cell
  rw [rounds_succ]
  go_wp2_with fail
  refine (opposite1_any _ _ _ _ _ _ _).mono ?_
  rintro e w5 ⟨rfl, hx5⟩
  have T5 := T4.ext hx5
  have cT5 := T5.cell
  have P5 := P4.ext hx5
  have cP5 := P5.cell
  have R5 := R4.ext hx5
  have cR5 := R5.cell
  clear T4 cT4 P4 cP4 R4 cR4
  have e5 := e4.trans hx5
  clear e4 hx5
  have z5 := R5.lt
  have zw5 := e5.size
  have zt := T5.lt
  have zp := P5.lt
  have y0 : ¬ (w.heap.size = w5.heap.size) := by omega
  have y1 : ¬ (w.heap.size + 1 = w5.heap.size) := by omega
  have y2 : ¬ (w.heap.size + 1 + 1 = w5.heap.size) := by omega
  go_wp2_with fail
  refine (side_any _ _ _ _ _ _ (by omega) (by omega) (by omega) (by omega) (by omega) (by omega) _).mono ?_
  rintro e w6 ⟨rfl, hx6⟩
  have T6 : Blk w6 w.heap.size #[.int .i64 ax, .int .i64 ay, .int .i64 bx, .int .i64 by', .int .i64 cx, .int .i64 cy] 25 := Blk.ext (by repeat (first | exact T5 | apply Blk.alloc | refine Blk.far ?_ (by simp <;> omega) _)) hx6
  have P6 : Blk w6 (w.heap.size + 1) #[.int .i64 px, .int .i64 py] 23 := Blk.ext (by repeat (first | exact P5 | apply Blk.alloc | refine Blk.far ?_ (by simp <;> omega) _)) hx6
  have R6 : Blk w6 (w.heap.size + 1 + 1) #[.int .i64 (sd bx by' cx cy px py), .int .i64 0, .int .i64 0] 37 := Blk.ext (by repeat (first | exact R5 | apply Blk.alloc | refine Blk.far ?_ (by simp <;> omega) _)) hx6
  have e6 : Ext w w6 := Ext.trans (by repeat (first | exact e5 | apply Ext.alloc | refine Ext.setCell ?_ (by simp <;> omega) _)) hx6
  clear zt zp y0 y1 y2 hx6 e5 z5 zw5 T5 cT5 P5 cP5 R5 cR5
  have cT6 := T6.cell
  have cP6 := P6.cell
  have cR6 := R6.cell
  have fR := R6.frozen
  go_wp2
  clear fR
  have z6 := R6.lt
  have zw6 := e6.size
  have T7 : Blk (w6.setCell ⟨w.heap.size + 1 + 1, 1, none⟩ (.int .i64 (sd cx cy ax ay px py))) w.heap.size #[.int .i64 ax, .int .i64 ay, .int .i64 bx, .int .i64 by', .int .i64 cx, .int .i64 cy] 25 := T6.far (by simp <;> omega) _
  have P7 : Blk (w6.setCell ⟨w.heap.size + 1 + 1, 1, none⟩ (.int .i64 (sd cx cy ax ay px py))) (w.heap.size + 1) #[.int .i64 px, .int .i64 py] 23 := P6.far (by simp <;> omega) _
  have R7 : Blk (w6.setCell ⟨w.heap.size + 1 + 1, 1, none⟩ (.int .i64 (sd cx cy ax ay px py))) (w.heap.size + 1 + 1) #[.int .i64 (sd bx by' cx cy px py), .int .i64 (sd cx cy ax ay px py), .int .i64 0] 37 := R6.set 1 _
  have e7 : Ext w (w6.setCell ⟨w.heap.size + 1 + 1, 1, none⟩ (.int .i64 (sd cx cy ax ay px py))) := e6.setCell (by simp <;> omega) _
  generalize (w6.setCell ⟨w.heap.size + 1 + 1, 1, none⟩ (.int .i64 (sd cx cy ax ay px py))) = w7 at *
  clear e6 z6 zw6 T6 cT6 P6 cP6 R6 cR6
  have cT7 := T7.cell
  have cP7 := P7.cell
  have cR7 := R7.cell
  rw [rounds_succ]
  go_wp2_with fail
  refine (opposite2_any _ _ _ _ _ _ _).mono ?_
  rintro e w8 ⟨rfl, hx8⟩
  have T8 := T7.ext hx8
  have cT8 := T8.cell
  have P8 := P7.ext hx8
  have cP8 := P8.cell
  have R8 := R7.ext hx8
  have cR8 := R8.cell
  clear T7 cT7 P7 cP7 R7 cR7
  have e8 := e7.trans hx8
  clear e7 hx8
  have z8 := R8.lt
  have zw8 := e8.size
  have zt := T8.lt
  have zp := P8.lt
  have y0 : ¬ (w.heap.size = w8.heap.size) := by omega
  have y1 : ¬ (w.heap.size + 1 = w8.heap.size) := by omega
  have y2 : ¬ (w.heap.size + 1 + 1 = w8.heap.size) := by omega
  go_wp2_with fail
  refine (side_any _ _ _ _ _ _ (by omega) (by omega) (by omega) (by omega) (by omega) (by omega) _).mono ?_
  rintro e w9 ⟨rfl, hx9⟩
  have T9 : Blk w9 w.heap.size #[.int .i64 ax, .int .i64 ay, .int .i64 bx, .int .i64 by', .int .i64 cx, .int .i64 cy] 25 := Blk.ext (by repeat (first | exact T8 | apply Blk.alloc | refine Blk.far ?_ (by simp <;> omega) _)) hx9
  have P9 : Blk w9 (w.heap.size + 1) #[.int .i64 px, .int .i64 py] 23 := Blk.ext (by repeat (first | exact P8 | apply Blk.alloc | refine Blk.far ?_ (by simp <;> omega) _)) hx9
  have R9 : Blk w9 (w.heap.size + 1 + 1) #[.int .i64 (sd bx by' cx cy px py), .int .i64 (sd cx cy ax ay px py), .int .i64 0] 37 := Blk.ext (by repeat (first | exact R8 | apply Blk.alloc | refine Blk.far ?_ (by simp <;> omega) _)) hx9
  have e9 : Ext w w9 := Ext.trans (by repeat (first | exact e8 | apply Ext.alloc | refine Ext.setCell ?_ (by simp <;> omega) _)) hx9
  clear zt zp y0 y1 y2 hx9 e8 z8 zw8 T8 cT8 P8 cP8 R8 cR8
  have cT9 := T9.cell
  have cP9 := P9.cell
  have cR9 := R9.cell
  have fR := R9.frozen
  go_wp2
  clear fR
  have z9 := R9.lt
  have zw9 := e9.size
  have T10 : Blk (w9.setCell ⟨w.heap.size + 1 + 1, 2, none⟩ (.int .i64 (sd ax ay bx by' px py))) w.heap.size #[.int .i64 ax, .int .i64 ay, .int .i64 bx, .int .i64 by', .int .i64 cx, .int .i64 cy] 25 := T9.far (by simp <;> omega) _
  have P10 : Blk (w9.setCell ⟨w.heap.size + 1 + 1, 2, none⟩ (.int .i64 (sd ax ay bx by' px py))) (w.heap.size + 1) #[.int .i64 px, .int .i64 py] 23 := P9.far (by simp <;> omega) _
  have R10 : Blk (w9.setCell ⟨w.heap.size + 1 + 1, 2, none⟩ (.int .i64 (sd ax ay bx by' px py))) (w.heap.size + 1 + 1) #[.int .i64 (sd bx by' cx cy px py), .int .i64 (sd cx cy ax ay px py), .int .i64 (sd ax ay bx by' px py)] 37 := R9.set 2 _
  have e10 : Ext w (w9.setCell ⟨w.heap.size + 1 + 1, 2, none⟩ (.int .i64 (sd ax ay bx by' px py))) := e9.setCell (by simp <;> omega) _
  generalize (w9.setCell ⟨w.heap.size + 1 + 1, 2, none⟩ (.int .i64 (sd ax ay bx by' px py))) = w10 at *
  clear e9 z9 zw9 T9 cT9 P9 cP9 R9 cR9
  have cT10 := T10.cell
  have cP10 := P10.cell
  have cR10 := R10.cell
  have fR := R10.frozen
  have zw := e10.size
  rw [rounds_succ]
  go_wp2
  exact bodyPost_ret (v := .agg #[.int .i64 (sd bx by' cx cy px py), .int .i64 (sd cx cy ax ay px py), .int .i64 (sd ax ay bx by' px py)]) (by simp [results, Try.results12, go_sem, cR10]) rfl ⟨rfl, by repeat (first | exact e10 | refine Ext.setCell ?_ (by simp <;> omega) _)⟩
end Go.Proofs.Ytbhgebflknafbaa
