/-
  DERIVED. The walk of the law EdgeTurns: it returns true, whatever the numbers.
-/
import Derived.Test.YtbhgebflknafbaaEdgeAid
namespace Go.Proofs.Ytbhgebflknafbaa
open Go.RowKit
set_option linter.unusedVariables false

set_option maxRecDepth 100000 in
set_option maxHeartbeats 4000000 in
theorem edgeTurns_c0 (s0 s1 s2 s3 s4 s5 x y : Int) (hs0 : -128 ≤ s0 ∧ s0 ≤ 127) (hs1 : -128 ≤ s1 ∧ s1 ≤ 127) (hs2 : -128 ≤ s2 ∧ s2 ≤ 127) (hs3 : -128 ≤ s3 ∧ s3 ≤ 127) (hs4 : -128 ≤ s4 ∧ s4 ≤ 127) (hs5 : -128 ≤ s5 ∧ s5 ≤ 127) (hx : -128 ≤ x ∧ x ≤ 127) (hy : -128 ≤ y ∧ y ≤ 127) (hA : sd s0 s1 s2 s3 s4 s5 ≤ 0) (hq : ¬ (s0 = s2 ∧ s1 = s3)) (w : World) :
    Calls Try.prog 5 #[.agg #[.int .i8 s0, .int .i8 s1, .int .i8 s2, .int .i8 s3, .int .i8 s4, .int .i8 s5], .int .i8 x, .int .i8 y] w fun e w' => e = .returned (.bool true) ∧ Ext w w' := by
  have r1 : covB s2 s3 s4 s5 s0 s1 x y = covB s0 s1 s2 s3 s4 s5 x y := covB_turn _ _ _ _ _ _ _ _
  have r2 : sd s2 s3 s4 s5 s0 s1 = sd s0 s1 s2 s3 s4 s5 := sd_turn _ _ _ _ _ _
  have r3 : sd s0 s1 s4 s5 s2 s3 = - sd s0 s1 s2 s3 s4 s5 := sd_swap _ _ _ _ _ _
  have r4 : sd s2 s3 s0 s1 x y = - sd s0 s1 s2 s3 x y := sd_anti _ _ _ _ _ _
  have k1 := sd_bd s0 s1 s2 s3 s4 s5
  have k2 := sd_bd s0 s1 s2 s3 x y
  have hE := eqP
  have d1 : decide (sd s0 s1 s2 s3 s4 s5 ≤ 0) = true := by simpa using hA
  have q1 : (s0 == s2 && s1 == s3) = false := by
    cases h1 : (s0 == s2) <;> cases h2 : (s1 == s3) <;> simp_all
  have r6 : ownB s2 s3 s0 s1 = !ownB s0 s1 s2 s3 := ownB_other (by rw [nr8 hs0, nr8 hs1, nr8 hs2, nr8 hs3]; exact hq)
  go_enter Try.func5, Try.ntmps5
  go_wp2_with fail
  with_reducible refine (awake3_any _).mono ?_
  rintro e w1 ⟨rfl, hx1⟩
  have S1 : Blk w1 w.heap.size #[.int .i8 s0, .int .i8 s1, .int .i8 s2, .int .i8 s3, .int .i8 s4, .int .i8 s5] 29 := (Blk.new w _ _).ext hx1
  have cS := S1.cell
  have e1 : Ext w w1 := ((Ext.refl w).alloc _ _).trans hx1
  clear hx1
  go_wp2_with fail
  refine (smallTri_any _ _ _ _ _ _ (by omega) (by omega) (by omega) (by omega) (by omega) (by omega) _).mono ?_
  rintro e w2 ⟨rfl, hx2⟩
  have e2 := e1.trans hx2
  clear e1 hx2 S1 cS
  go_wp2
  have T3 : Blk (((w2.alloc (.cells #[.int .i64 s0, .int .i64 s1, .int .i64 s2, .int .i64 s3, .int .i64 s4, .int .i64 s5] 25)).alloc (.cells #[.int .i64 x, .int .i64 y] 23)).alloc (.cells #[.int .i64 s2, .int .i64 s3, .int .i64 s4, .int .i64 s5, .int .i64 s0, .int .i64 s1] 25)) w2.heap.size #[.int .i64 s0, .int .i64 s1, .int .i64 s2, .int .i64 s3, .int .i64 s4, .int .i64 s5] 25 := ((Blk.new w2 _ _).alloc _).alloc _
  have P3 : Blk (((w2.alloc (.cells #[.int .i64 s0, .int .i64 s1, .int .i64 s2, .int .i64 s3, .int .i64 s4, .int .i64 s5] 25)).alloc (.cells #[.int .i64 x, .int .i64 y] 23)).alloc (.cells #[.int .i64 s2, .int .i64 s3, .int .i64 s4, .int .i64 s5, .int .i64 s0, .int .i64 s1] 25)) (w2.heap.size + 1) #[.int .i64 x, .int .i64 y] 23 := (Blk.new' (by simp) _ _).alloc _
  have U3 : Blk (((w2.alloc (.cells #[.int .i64 s0, .int .i64 s1, .int .i64 s2, .int .i64 s3, .int .i64 s4, .int .i64 s5] 25)).alloc (.cells #[.int .i64 x, .int .i64 y] 23)).alloc (.cells #[.int .i64 s2, .int .i64 s3, .int .i64 s4, .int .i64 s5, .int .i64 s0, .int .i64 s1] 25)) (w2.heap.size + 1 + 1) #[.int .i64 s2, .int .i64 s3, .int .i64 s4, .int .i64 s5, .int .i64 s0, .int .i64 s1] 25 := Blk.new' (by simp) _ _
  have e3 := ((e2.alloc #[.int .i64 s0, .int .i64 s1, .int .i64 s2, .int .i64 s3, .int .i64 s4, .int .i64 s5] 25).alloc #[.int .i64 x, .int .i64 y] 23).alloc #[.int .i64 s2, .int .i64 s3, .int .i64 s4, .int .i64 s5, .int .i64 s0, .int .i64 s1] 25
  generalize ((w2.alloc (.cells #[.int .i64 s0, .int .i64 s1, .int .i64 s2, .int .i64 s3, .int .i64 s4, .int .i64 s5] 25)).alloc (.cells #[.int .i64 x, .int .i64 y] 23)).alloc (.cells #[.int .i64 s2, .int .i64 s3, .int .i64 s4, .int .i64 s5, .int .i64 s0, .int .i64 s1] 25) = w3 at *
  apply wp_region_reads2 _ (by kernel_rfl) (by kernel_rfl)
  case H =>
    intro x hx
    have hne : Nonempty (Wx x) := ⟨⟨x, Ext.refl x⟩⟩
    have qT := fun (y : Wx x) => (T3.ext (hx.trans y.ext)).cell
    have qP := fun (y : Wx x) => (P3.ext (hx.trans y.ext)).cell
    have qU := fun (y : Wx x) => (U3.ext (hx.trans y.ext)).cell
    try simp only [List.append_eq, List.cons_append, List.nil_append]
    repeat (go_big_quiet_step (first
      | (go_at_call 16; exact calm_of (covers_any _ _ _ _ _ _ _ _ (by omega) (by omega) (by omega) (by omega) (by omega) (by omega) (by omega) (by omega) _))
      | (go_at_call 15; exact calm_of (area_any _ _ _ _ _ _ (by omega) (by omega) (by omega) (by omega) (by omega) (by omega) _))
      | (go_at_call 18; exact calm_of (turnedT_any _ _ _ _ _ _ (by omega) (by omega) (by omega) (by omega) (by omega) (by omega) _))
      | (go_at_call 13; exact calm_of (side_any _ _ _ _ _ _ (by omega) (by omega) (by omega) (by omega) (by omega) (by omega) _))
      | (go_at_call 21; exact calm_of (owns_any _ _ _ _ (by omega) (by omega) (by omega) (by omega) _))))
    exact wpQuiet_nil rfl
  intro w4 hx4
  go_wp2
  go_ret
  exact ⟨rfl, e3.trans hx4⟩

set_option maxRecDepth 100000 in
set_option maxHeartbeats 4000000 in
theorem edgeTurns_c1 (s0 s1 s2 s3 s4 s5 x y : Int) (hs0 : -128 ≤ s0 ∧ s0 ≤ 127) (hs1 : -128 ≤ s1 ∧ s1 ≤ 127) (hs2 : -128 ≤ s2 ∧ s2 ≤ 127) (hs3 : -128 ≤ s3 ∧ s3 ≤ 127) (hs4 : -128 ≤ s4 ∧ s4 ≤ 127) (hs5 : -128 ≤ s5 ∧ s5 ≤ 127) (hx : -128 ≤ x ∧ x ≤ 127) (hy : -128 ≤ y ∧ y ≤ 127) (hA : sd s0 s1 s2 s3 s4 s5 ≤ 0) (hq : (s0 = s2 ∧ s1 = s3)) (w : World) :
    Calls Try.prog 5 #[.agg #[.int .i8 s0, .int .i8 s1, .int .i8 s2, .int .i8 s3, .int .i8 s4, .int .i8 s5], .int .i8 x, .int .i8 y] w fun e w' => e = .returned (.bool true) ∧ Ext w w' := by
  have r1 : covB s2 s3 s4 s5 s0 s1 x y = covB s0 s1 s2 s3 s4 s5 x y := covB_turn _ _ _ _ _ _ _ _
  have r2 : sd s2 s3 s4 s5 s0 s1 = sd s0 s1 s2 s3 s4 s5 := sd_turn _ _ _ _ _ _
  have r3 : sd s0 s1 s4 s5 s2 s3 = - sd s0 s1 s2 s3 s4 s5 := sd_swap _ _ _ _ _ _
  have r4 : sd s2 s3 s0 s1 x y = - sd s0 s1 s2 s3 x y := sd_anti _ _ _ _ _ _
  have k1 := sd_bd s0 s1 s2 s3 s4 s5
  have k2 := sd_bd s0 s1 s2 s3 x y
  have hE := eqP
  have d1 : decide (sd s0 s1 s2 s3 s4 s5 ≤ 0) = true := by simpa using hA
  have q1 : (s0 == s2) = true := by simpa using hq.1
  have q2 : (s1 == s3) = true := by simpa using hq.2
  clear hq
  go_enter Try.func5, Try.ntmps5
  go_wp2_with fail
  with_reducible refine (awake3_any _).mono ?_
  rintro e w1 ⟨rfl, hx1⟩
  have S1 : Blk w1 w.heap.size #[.int .i8 s0, .int .i8 s1, .int .i8 s2, .int .i8 s3, .int .i8 s4, .int .i8 s5] 29 := (Blk.new w _ _).ext hx1
  have cS := S1.cell
  have e1 : Ext w w1 := ((Ext.refl w).alloc _ _).trans hx1
  clear hx1
  go_wp2_with fail
  refine (smallTri_any _ _ _ _ _ _ (by omega) (by omega) (by omega) (by omega) (by omega) (by omega) _).mono ?_
  rintro e w2 ⟨rfl, hx2⟩
  have e2 := e1.trans hx2
  clear e1 hx2 S1 cS
  go_wp2
  have T3 : Blk (((w2.alloc (.cells #[.int .i64 s0, .int .i64 s1, .int .i64 s2, .int .i64 s3, .int .i64 s4, .int .i64 s5] 25)).alloc (.cells #[.int .i64 x, .int .i64 y] 23)).alloc (.cells #[.int .i64 s2, .int .i64 s3, .int .i64 s4, .int .i64 s5, .int .i64 s0, .int .i64 s1] 25)) w2.heap.size #[.int .i64 s0, .int .i64 s1, .int .i64 s2, .int .i64 s3, .int .i64 s4, .int .i64 s5] 25 := ((Blk.new w2 _ _).alloc _).alloc _
  have P3 : Blk (((w2.alloc (.cells #[.int .i64 s0, .int .i64 s1, .int .i64 s2, .int .i64 s3, .int .i64 s4, .int .i64 s5] 25)).alloc (.cells #[.int .i64 x, .int .i64 y] 23)).alloc (.cells #[.int .i64 s2, .int .i64 s3, .int .i64 s4, .int .i64 s5, .int .i64 s0, .int .i64 s1] 25)) (w2.heap.size + 1) #[.int .i64 x, .int .i64 y] 23 := (Blk.new' (by simp) _ _).alloc _
  have U3 : Blk (((w2.alloc (.cells #[.int .i64 s0, .int .i64 s1, .int .i64 s2, .int .i64 s3, .int .i64 s4, .int .i64 s5] 25)).alloc (.cells #[.int .i64 x, .int .i64 y] 23)).alloc (.cells #[.int .i64 s2, .int .i64 s3, .int .i64 s4, .int .i64 s5, .int .i64 s0, .int .i64 s1] 25)) (w2.heap.size + 1 + 1) #[.int .i64 s2, .int .i64 s3, .int .i64 s4, .int .i64 s5, .int .i64 s0, .int .i64 s1] 25 := Blk.new' (by simp) _ _
  have e3 := ((e2.alloc #[.int .i64 s0, .int .i64 s1, .int .i64 s2, .int .i64 s3, .int .i64 s4, .int .i64 s5] 25).alloc #[.int .i64 x, .int .i64 y] 23).alloc #[.int .i64 s2, .int .i64 s3, .int .i64 s4, .int .i64 s5, .int .i64 s0, .int .i64 s1] 25
  generalize ((w2.alloc (.cells #[.int .i64 s0, .int .i64 s1, .int .i64 s2, .int .i64 s3, .int .i64 s4, .int .i64 s5] 25)).alloc (.cells #[.int .i64 x, .int .i64 y] 23)).alloc (.cells #[.int .i64 s2, .int .i64 s3, .int .i64 s4, .int .i64 s5, .int .i64 s0, .int .i64 s1] 25) = w3 at *
  apply wp_region_reads2 _ (by kernel_rfl) (by kernel_rfl)
  case H =>
    intro x hx
    have hne : Nonempty (Wx x) := ⟨⟨x, Ext.refl x⟩⟩
    have qT := fun (y : Wx x) => (T3.ext (hx.trans y.ext)).cell
    have qP := fun (y : Wx x) => (P3.ext (hx.trans y.ext)).cell
    have qU := fun (y : Wx x) => (U3.ext (hx.trans y.ext)).cell
    try simp only [List.append_eq, List.cons_append, List.nil_append]
    repeat (go_big_quiet_step (first
      | (go_at_call 16; exact calm_of (covers_any _ _ _ _ _ _ _ _ (by omega) (by omega) (by omega) (by omega) (by omega) (by omega) (by omega) (by omega) _))
      | (go_at_call 15; exact calm_of (area_any _ _ _ _ _ _ (by omega) (by omega) (by omega) (by omega) (by omega) (by omega) _))
      | (go_at_call 18; exact calm_of (turnedT_any _ _ _ _ _ _ (by omega) (by omega) (by omega) (by omega) (by omega) (by omega) _))
      | (go_at_call 13; exact calm_of (side_any _ _ _ _ _ _ (by omega) (by omega) (by omega) (by omega) (by omega) (by omega) _))
      | (go_at_call 21; exact calm_of (owns_any _ _ _ _ (by omega) (by omega) (by omega) (by omega) _))))
    exact wpQuiet_nil rfl
  intro w4 hx4
  go_wp2
  go_ret
  exact ⟨rfl, e3.trans hx4⟩

set_option maxRecDepth 100000 in
set_option maxHeartbeats 4000000 in
theorem edgeTurns_c2 (s0 s1 s2 s3 s4 s5 x y : Int) (hs0 : -128 ≤ s0 ∧ s0 ≤ 127) (hs1 : -128 ≤ s1 ∧ s1 ≤ 127) (hs2 : -128 ≤ s2 ∧ s2 ≤ 127) (hs3 : -128 ≤ s3 ∧ s3 ≤ 127) (hs4 : -128 ≤ s4 ∧ s4 ≤ 127) (hs5 : -128 ≤ s5 ∧ s5 ≤ 127) (hx : -128 ≤ x ∧ x ≤ 127) (hy : -128 ≤ y ∧ y ≤ 127) (hA : ¬ sd s0 s1 s2 s3 s4 s5 ≤ 0) (hq : ¬ (s0 = s2 ∧ s1 = s3)) (w : World) :
    Calls Try.prog 5 #[.agg #[.int .i8 s0, .int .i8 s1, .int .i8 s2, .int .i8 s3, .int .i8 s4, .int .i8 s5], .int .i8 x, .int .i8 y] w fun e w' => e = .returned (.bool true) ∧ Ext w w' := by
  have r1 : covB s2 s3 s4 s5 s0 s1 x y = covB s0 s1 s2 s3 s4 s5 x y := covB_turn _ _ _ _ _ _ _ _
  have r2 : sd s2 s3 s4 s5 s0 s1 = sd s0 s1 s2 s3 s4 s5 := sd_turn _ _ _ _ _ _
  have r3 : sd s0 s1 s4 s5 s2 s3 = - sd s0 s1 s2 s3 s4 s5 := sd_swap _ _ _ _ _ _
  have r4 : sd s2 s3 s0 s1 x y = - sd s0 s1 s2 s3 x y := sd_anti _ _ _ _ _ _
  have k1 := sd_bd s0 s1 s2 s3 s4 s5
  have k2 := sd_bd s0 s1 s2 s3 x y
  have hE := eqP
  have d1 : decide (sd s0 s1 s2 s3 s4 s5 ≤ 0) = false := by simpa using hA
  have r5 : covB s0 s1 s4 s5 s2 s3 x y = false := covB_no (by rw [sd_swap]; omega) _ _
  have q1 : (s0 == s2 && s1 == s3) = false := by
    cases h1 : (s0 == s2) <;> cases h2 : (s1 == s3) <;> simp_all
  have r6 : ownB s2 s3 s0 s1 = !ownB s0 s1 s2 s3 := ownB_other (by rw [nr8 hs0, nr8 hs1, nr8 hs2, nr8 hs3]; exact hq)
  go_enter Try.func5, Try.ntmps5
  go_wp2_with fail
  with_reducible refine (awake3_any _).mono ?_
  rintro e w1 ⟨rfl, hx1⟩
  have S1 : Blk w1 w.heap.size #[.int .i8 s0, .int .i8 s1, .int .i8 s2, .int .i8 s3, .int .i8 s4, .int .i8 s5] 29 := (Blk.new w _ _).ext hx1
  have cS := S1.cell
  have e1 : Ext w w1 := ((Ext.refl w).alloc _ _).trans hx1
  clear hx1
  go_wp2_with fail
  refine (smallTri_any _ _ _ _ _ _ (by omega) (by omega) (by omega) (by omega) (by omega) (by omega) _).mono ?_
  rintro e w2 ⟨rfl, hx2⟩
  have e2 := e1.trans hx2
  clear e1 hx2 S1 cS
  go_wp2
  have T3 : Blk (((w2.alloc (.cells #[.int .i64 s0, .int .i64 s1, .int .i64 s2, .int .i64 s3, .int .i64 s4, .int .i64 s5] 25)).alloc (.cells #[.int .i64 x, .int .i64 y] 23)).alloc (.cells #[.int .i64 s2, .int .i64 s3, .int .i64 s4, .int .i64 s5, .int .i64 s0, .int .i64 s1] 25)) w2.heap.size #[.int .i64 s0, .int .i64 s1, .int .i64 s2, .int .i64 s3, .int .i64 s4, .int .i64 s5] 25 := ((Blk.new w2 _ _).alloc _).alloc _
  have P3 : Blk (((w2.alloc (.cells #[.int .i64 s0, .int .i64 s1, .int .i64 s2, .int .i64 s3, .int .i64 s4, .int .i64 s5] 25)).alloc (.cells #[.int .i64 x, .int .i64 y] 23)).alloc (.cells #[.int .i64 s2, .int .i64 s3, .int .i64 s4, .int .i64 s5, .int .i64 s0, .int .i64 s1] 25)) (w2.heap.size + 1) #[.int .i64 x, .int .i64 y] 23 := (Blk.new' (by simp) _ _).alloc _
  have U3 : Blk (((w2.alloc (.cells #[.int .i64 s0, .int .i64 s1, .int .i64 s2, .int .i64 s3, .int .i64 s4, .int .i64 s5] 25)).alloc (.cells #[.int .i64 x, .int .i64 y] 23)).alloc (.cells #[.int .i64 s2, .int .i64 s3, .int .i64 s4, .int .i64 s5, .int .i64 s0, .int .i64 s1] 25)) (w2.heap.size + 1 + 1) #[.int .i64 s2, .int .i64 s3, .int .i64 s4, .int .i64 s5, .int .i64 s0, .int .i64 s1] 25 := Blk.new' (by simp) _ _
  have e3 := ((e2.alloc #[.int .i64 s0, .int .i64 s1, .int .i64 s2, .int .i64 s3, .int .i64 s4, .int .i64 s5] 25).alloc #[.int .i64 x, .int .i64 y] 23).alloc #[.int .i64 s2, .int .i64 s3, .int .i64 s4, .int .i64 s5, .int .i64 s0, .int .i64 s1] 25
  generalize ((w2.alloc (.cells #[.int .i64 s0, .int .i64 s1, .int .i64 s2, .int .i64 s3, .int .i64 s4, .int .i64 s5] 25)).alloc (.cells #[.int .i64 x, .int .i64 y] 23)).alloc (.cells #[.int .i64 s2, .int .i64 s3, .int .i64 s4, .int .i64 s5, .int .i64 s0, .int .i64 s1] 25) = w3 at *
  apply wp_region_reads2 _ (by kernel_rfl) (by kernel_rfl)
  case H =>
    intro x hx
    have hne : Nonempty (Wx x) := ⟨⟨x, Ext.refl x⟩⟩
    have qT := fun (y : Wx x) => (T3.ext (hx.trans y.ext)).cell
    have qP := fun (y : Wx x) => (P3.ext (hx.trans y.ext)).cell
    have qU := fun (y : Wx x) => (U3.ext (hx.trans y.ext)).cell
    try simp only [List.append_eq, List.cons_append, List.nil_append]
    repeat (go_big_quiet_step (first
      | (go_at_call 16; exact calm_of (covers_any _ _ _ _ _ _ _ _ (by omega) (by omega) (by omega) (by omega) (by omega) (by omega) (by omega) (by omega) _))
      | (go_at_call 15; exact calm_of (area_any _ _ _ _ _ _ (by omega) (by omega) (by omega) (by omega) (by omega) (by omega) _))
      | (go_at_call 18; exact calm_of (turnedT_any _ _ _ _ _ _ (by omega) (by omega) (by omega) (by omega) (by omega) (by omega) _))
      | (go_at_call 13; exact calm_of (side_any _ _ _ _ _ _ (by omega) (by omega) (by omega) (by omega) (by omega) (by omega) _))
      | (go_at_call 21; exact calm_of (owns_any _ _ _ _ (by omega) (by omega) (by omega) (by omega) _))))
    exact wpQuiet_nil rfl
  intro w4 hx4
  go_wp2
  go_ret
  exact ⟨rfl, e3.trans hx4⟩

set_option maxRecDepth 100000 in
set_option maxHeartbeats 4000000 in
theorem edgeTurns_c3 (s0 s1 s2 s3 s4 s5 x y : Int) (hs0 : -128 ≤ s0 ∧ s0 ≤ 127) (hs1 : -128 ≤ s1 ∧ s1 ≤ 127) (hs2 : -128 ≤ s2 ∧ s2 ≤ 127) (hs3 : -128 ≤ s3 ∧ s3 ≤ 127) (hs4 : -128 ≤ s4 ∧ s4 ≤ 127) (hs5 : -128 ≤ s5 ∧ s5 ≤ 127) (hx : -128 ≤ x ∧ x ≤ 127) (hy : -128 ≤ y ∧ y ≤ 127) (hA : ¬ sd s0 s1 s2 s3 s4 s5 ≤ 0) (hq : (s0 = s2 ∧ s1 = s3)) (w : World) :
    Calls Try.prog 5 #[.agg #[.int .i8 s0, .int .i8 s1, .int .i8 s2, .int .i8 s3, .int .i8 s4, .int .i8 s5], .int .i8 x, .int .i8 y] w fun e w' => e = .returned (.bool true) ∧ Ext w w' := by
  have r1 : covB s2 s3 s4 s5 s0 s1 x y = covB s0 s1 s2 s3 s4 s5 x y := covB_turn _ _ _ _ _ _ _ _
  have r2 : sd s2 s3 s4 s5 s0 s1 = sd s0 s1 s2 s3 s4 s5 := sd_turn _ _ _ _ _ _
  have r3 : sd s0 s1 s4 s5 s2 s3 = - sd s0 s1 s2 s3 s4 s5 := sd_swap _ _ _ _ _ _
  have r4 : sd s2 s3 s0 s1 x y = - sd s0 s1 s2 s3 x y := sd_anti _ _ _ _ _ _
  have k1 := sd_bd s0 s1 s2 s3 s4 s5
  have k2 := sd_bd s0 s1 s2 s3 x y
  have hE := eqP
  have d1 : decide (sd s0 s1 s2 s3 s4 s5 ≤ 0) = false := by simpa using hA
  have r5 : covB s0 s1 s4 s5 s2 s3 x y = false := covB_no (by rw [sd_swap]; omega) _ _
  have q1 : (s0 == s2) = true := by simpa using hq.1
  have q2 : (s1 == s3) = true := by simpa using hq.2
  clear hq
  go_enter Try.func5, Try.ntmps5
  go_wp2_with fail
  with_reducible refine (awake3_any _).mono ?_
  rintro e w1 ⟨rfl, hx1⟩
  have S1 : Blk w1 w.heap.size #[.int .i8 s0, .int .i8 s1, .int .i8 s2, .int .i8 s3, .int .i8 s4, .int .i8 s5] 29 := (Blk.new w _ _).ext hx1
  have cS := S1.cell
  have e1 : Ext w w1 := ((Ext.refl w).alloc _ _).trans hx1
  clear hx1
  go_wp2_with fail
  refine (smallTri_any _ _ _ _ _ _ (by omega) (by omega) (by omega) (by omega) (by omega) (by omega) _).mono ?_
  rintro e w2 ⟨rfl, hx2⟩
  have e2 := e1.trans hx2
  clear e1 hx2 S1 cS
  go_wp2
  have T3 : Blk (((w2.alloc (.cells #[.int .i64 s0, .int .i64 s1, .int .i64 s2, .int .i64 s3, .int .i64 s4, .int .i64 s5] 25)).alloc (.cells #[.int .i64 x, .int .i64 y] 23)).alloc (.cells #[.int .i64 s2, .int .i64 s3, .int .i64 s4, .int .i64 s5, .int .i64 s0, .int .i64 s1] 25)) w2.heap.size #[.int .i64 s0, .int .i64 s1, .int .i64 s2, .int .i64 s3, .int .i64 s4, .int .i64 s5] 25 := ((Blk.new w2 _ _).alloc _).alloc _
  have P3 : Blk (((w2.alloc (.cells #[.int .i64 s0, .int .i64 s1, .int .i64 s2, .int .i64 s3, .int .i64 s4, .int .i64 s5] 25)).alloc (.cells #[.int .i64 x, .int .i64 y] 23)).alloc (.cells #[.int .i64 s2, .int .i64 s3, .int .i64 s4, .int .i64 s5, .int .i64 s0, .int .i64 s1] 25)) (w2.heap.size + 1) #[.int .i64 x, .int .i64 y] 23 := (Blk.new' (by simp) _ _).alloc _
  have U3 : Blk (((w2.alloc (.cells #[.int .i64 s0, .int .i64 s1, .int .i64 s2, .int .i64 s3, .int .i64 s4, .int .i64 s5] 25)).alloc (.cells #[.int .i64 x, .int .i64 y] 23)).alloc (.cells #[.int .i64 s2, .int .i64 s3, .int .i64 s4, .int .i64 s5, .int .i64 s0, .int .i64 s1] 25)) (w2.heap.size + 1 + 1) #[.int .i64 s2, .int .i64 s3, .int .i64 s4, .int .i64 s5, .int .i64 s0, .int .i64 s1] 25 := Blk.new' (by simp) _ _
  have e3 := ((e2.alloc #[.int .i64 s0, .int .i64 s1, .int .i64 s2, .int .i64 s3, .int .i64 s4, .int .i64 s5] 25).alloc #[.int .i64 x, .int .i64 y] 23).alloc #[.int .i64 s2, .int .i64 s3, .int .i64 s4, .int .i64 s5, .int .i64 s0, .int .i64 s1] 25
  generalize ((w2.alloc (.cells #[.int .i64 s0, .int .i64 s1, .int .i64 s2, .int .i64 s3, .int .i64 s4, .int .i64 s5] 25)).alloc (.cells #[.int .i64 x, .int .i64 y] 23)).alloc (.cells #[.int .i64 s2, .int .i64 s3, .int .i64 s4, .int .i64 s5, .int .i64 s0, .int .i64 s1] 25) = w3 at *
  apply wp_region_reads2 _ (by kernel_rfl) (by kernel_rfl)
  case H =>
    intro x hx
    have hne : Nonempty (Wx x) := ⟨⟨x, Ext.refl x⟩⟩
    have qT := fun (y : Wx x) => (T3.ext (hx.trans y.ext)).cell
    have qP := fun (y : Wx x) => (P3.ext (hx.trans y.ext)).cell
    have qU := fun (y : Wx x) => (U3.ext (hx.trans y.ext)).cell
    try simp only [List.append_eq, List.cons_append, List.nil_append]
    repeat (go_big_quiet_step (first
      | (go_at_call 16; exact calm_of (covers_any _ _ _ _ _ _ _ _ (by omega) (by omega) (by omega) (by omega) (by omega) (by omega) (by omega) (by omega) _))
      | (go_at_call 15; exact calm_of (area_any _ _ _ _ _ _ (by omega) (by omega) (by omega) (by omega) (by omega) (by omega) _))
      | (go_at_call 18; exact calm_of (turnedT_any _ _ _ _ _ _ (by omega) (by omega) (by omega) (by omega) (by omega) (by omega) _))
      | (go_at_call 13; exact calm_of (side_any _ _ _ _ _ _ (by omega) (by omega) (by omega) (by omega) (by omega) (by omega) _))
      | (go_at_call 21; exact calm_of (owns_any _ _ _ _ (by omega) (by omega) (by omega) (by omega) _))))
    exact wpQuiet_nil rfl
  intro w4 hx4
  go_wp2
  go_ret
  exact ⟨rfl, e3.trans hx4⟩

theorem edgeTurns_row (s0 s1 s2 s3 s4 s5 x y : Int) (hs0 : -128 ≤ s0 ∧ s0 ≤ 127) (hs1 : -128 ≤ s1 ∧ s1 ≤ 127) (hs2 : -128 ≤ s2 ∧ s2 ≤ 127) (hs3 : -128 ≤ s3 ∧ s3 ≤ 127) (hs4 : -128 ≤ s4 ∧ s4 ≤ 127) (hs5 : -128 ≤ s5 ∧ s5 ≤ 127) (hx : -128 ≤ x ∧ x ≤ 127) (hy : -128 ≤ y ∧ y ≤ 127)  (w : World) :
    Calls Try.prog 5 #[.agg #[.int .i8 s0, .int .i8 s1, .int .i8 s2, .int .i8 s3, .int .i8 s4, .int .i8 s5], .int .i8 x, .int .i8 y] w fun e w' => e = .returned (.bool true) ∧ Ext w w' := by
  by_cases hA : sd s0 s1 s2 s3 s4 s5 ≤ 0 <;> by_cases hq : s0 = s2 ∧ s1 = s3
  · exact edgeTurns_c1 _ _ _ _ _ _ _ _ hs0 hs1 hs2 hs3 hs4 hs5 hx hy hA hq w
  · exact edgeTurns_c0 _ _ _ _ _ _ _ _ hs0 hs1 hs2 hs3 hs4 hs5 hx hy hA hq w
  · exact edgeTurns_c3 _ _ _ _ _ _ _ _ hs0 hs1 hs2 hs3 hs4 hs5 hx hy hA hq w
  · exact edgeTurns_c2 _ _ _ _ _ _ _ _ hs0 hs1 hs2 hs3 hs4 hs5 hx hy hA hq w

end Go.Proofs.Ytbhgebflknafbaa
