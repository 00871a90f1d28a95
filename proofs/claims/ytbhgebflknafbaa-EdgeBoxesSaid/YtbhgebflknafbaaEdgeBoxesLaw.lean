/-
  DERIVED. The walk of the law EdgeBoxes: it returns true, whatever the numbers.
-/
import Derived.Test.YtbhgebflknafbaaEdgeAid
import Derived.Test.YtbhgebflknafbaaCalmMine
import Derived.Deep.DeepCutAuto
import Derived.Deep.CutBlock
namespace Go.Proofs.Ytbhgebflknafbaa
open Go.RowKit
set_option linter.unusedVariables false

/-- a point lies in the box -/
def inB (s0 s1 s2 s3 s4 s5 x y : Int) : Bool := decide ((lo3 s0 s2 s4) ≤ x) && (decide (x ≤ (hi3 s0 s2 s4)) && (decide ((lo3 s1 s3 s5) ≤ y) && decide (y ≤ (hi3 s1 s3 s5))))
theorem cov_inB {s0 s1 s2 s3 s4 s5 x y : Int} (hx : -128 ≤ x ∧ x ≤ 127) (hy : -128 ≤ y ∧ y ≤ 127) (h : covB s0 s1 s2 s3 s4 s5 x y = true) : inB s0 s1 s2 s3 s4 s5 x y = true := by
  rw [covB_iff, nr8 hx, nr8 hy] at h
  obtain ⟨⟨h1, h2⟩, h3, h4⟩ := Edge.cov_box h
  unfold inB lo3 hi3
  simp only [Bool.and_eq_true, decide_eq_true_eq]
  omega
theorem corner (ax ay bx by' cx cy : Int) : covB ax ay bx by' cx cy ax ay = (decide (0 < sd ax ay bx by' cx cy) && (ownB ax ay bx by' && ownB cx cy ax ay)) := by
  rw [Bool.eq_iff_iff, covB_iff, Edge.cov_corner, Bool.and_eq_true, Bool.and_eq_true, ownB_iff, ownB_iff, decide_eq_true_iff]
  rfl

set_option maxRecDepth 100000 in
set_option maxHeartbeats 8000000 in
theorem edgeBoxes_row (s0 s1 s2 s3 s4 s5 x y : Int) (hs0 : -128 ≤ s0 ∧ s0 ≤ 127) (hs1 : -128 ≤ s1 ∧ s1 ≤ 127) (hs2 : -128 ≤ s2 ∧ s2 ≤ 127) (hs3 : -128 ≤ s3 ∧ s3 ≤ 127) (hs4 : -128 ≤ s4 ∧ s4 ≤ 127) (hs5 : -128 ≤ s5 ∧ s5 ≤ 127) (hx : -128 ≤ x ∧ x ≤ 127) (hy : -128 ≤ y ∧ y ≤ 127) (w : World) :
    Calls Try.prog 8 #[.agg #[.int .i8 s0, .int .i8 s1, .int .i8 s2, .int .i8 s3, .int .i8 s4, .int .i8 s5], .int .i8 x, .int .i8 y] w fun e w' => e = .returned (.bool true) ∧ Ext w w' := by
  go_enter Try.func8, Try.ntmps8
  go_wp2_with fail
  with_reducible refine (awake3_any _).mono ?_
  rintro e w1 ⟨rfl, hx1⟩
  have S1 : Blk w1 w.heap.size #[.int .i8 s0, .int .i8 s1, .int .i8 s2, .int .i8 s3, .int .i8 s4, .int .i8 s5] 29 := (Blk.new w _ _).ext hx1
  have cS := S1.cell
  have e1 : Ext w w1 := ((Ext.refl w).alloc _ _).trans hx1
  clear hx1
  go_wp2_with fail
  refine (smallTri_any _ _ _ _ _ _ (by omega) (by omega) (by omega) (by omega) (by omega) (by omega) _).mono ?_
  rintro e w2 ⟨rfl, hx2⟩
  have e2 := e1.trans hx2
  clear e1 hx2 S1 cS
  go_wp2_with fail
  refine (box_any _ _ _ _ _ _ (by omega) (by omega) (by omega) (by omega) (by omega) (by omega) _).mono ?_
  rintro e w3 ⟨rfl, hx3⟩
  have T3 : Blk w3 w2.heap.size #[.int .i64 s0, .int .i64 s1, .int .i64 s2, .int .i64 s3, .int .i64 s4, .int .i64 s5] 25 := (Blk.new w2 _ _).ext hx3
  have e3 := (e2.alloc _ _).trans hx3
  clear hx3 e2
  generalize w2.heap.size = g at *
  clear w2
  go_upto_region 6 with fail
  go_cut [11] (fun v wx => v = .bool (inB s0 s1 s2 s3 s4 s5 x y) ∧ (((w3.alloc (.cells #[.int .i64 (lo3 s0 s2 s4), .int .i64 (lo3 s1 s3 s5)] 23)).alloc (.cells #[.int .i64 (hi3 s0 s2 s4), .int .i64 (hi3 s1 s3 s5)] 23)).alloc (.cells #[.int .i64 x, .int .i64 y] 23)) = wx)
  case first =>
    by_cases i0 : (lo3 s0 s2 s4) ≤ x
    · have j0 : decide ((lo3 s0 s2 s4) ≤ x) = true := by simpa using i0
      by_cases i1 : x ≤ (hi3 s0 s2 s4)
      · have j1 : decide (x ≤ (hi3 s0 s2 s4)) = true := by simpa using i1
        by_cases i2 : (lo3 s1 s3 s5) ≤ y
        · have j2 : decide ((lo3 s1 s3 s5) ≤ y) = true := by simpa using i2
          by_cases i3 : y ≤ (hi3 s1 s3 s5)
          · have j3 : decide (y ≤ (hi3 s1 s3 s5)) = true := by simpa using i3
            have HI := Lib.hid (show inB s0 s1 s2 s3 s4 s5 x y = true from by unfold inB; rw [j0, j1, j2, j3]; rfl)
            clear i0 i1 i2 i3
            go_wp2
            go_meet
            exact ⟨by rw [HI.out], rfl⟩
          · have j3 : decide (y ≤ (hi3 s1 s3 s5)) = false := by simpa using i3
            have HI := Lib.hid (show inB s0 s1 s2 s3 s4 s5 x y = false from by unfold inB; simp only [j3, Bool.and_false])
            clear i0 i1 i2 i3
            go_wp2
            go_meet
            exact ⟨by rw [HI.out], rfl⟩
        · have j2 : decide ((lo3 s1 s3 s5) ≤ y) = false := by simpa using i2
          have HI := Lib.hid (show inB s0 s1 s2 s3 s4 s5 x y = false from by unfold inB; simp only [j2, Bool.false_and, Bool.and_false])
          clear i0 i1 i2
          go_wp2
          go_meet
          exact ⟨by rw [HI.out], rfl⟩
      · have j1 : decide (x ≤ (hi3 s0 s2 s4)) = false := by simpa using i1
        have HI := Lib.hid (show inB s0 s1 s2 s3 s4 s5 x y = false from by unfold inB; simp only [j1, Bool.false_and, Bool.and_false])
        clear i0 i1
        go_wp2
        go_meet
        exact ⟨by rw [HI.out], rfl⟩
    · have j0 : decide ((lo3 s0 s2 s4) ≤ x) = false := by simpa using i0
      have HI := Lib.hid (show inB s0 s1 s2 s3 s4 s5 x y = false from by unfold inB; simp only [j0, Bool.false_and])
      clear i0
      go_wp2
      go_meet
      exact ⟨by rw [HI.out], rfl⟩
  obtain ⟨rfl, rfl⟩ := hcut
  have T4 : Blk (((w3.alloc (.cells #[.int .i64 (lo3 s0 s2 s4), .int .i64 (lo3 s1 s3 s5)] 23)).alloc (.cells #[.int .i64 (hi3 s0 s2 s4), .int .i64 (hi3 s1 s3 s5)] 23)).alloc (.cells #[.int .i64 x, .int .i64 y] 23)) g #[.int .i64 s0, .int .i64 s1, .int .i64 s2, .int .i64 s3, .int .i64 s4, .int .i64 s5] 25 := ((T3.alloc _).alloc _).alloc _
  have P4 : Blk (((w3.alloc (.cells #[.int .i64 (lo3 s0 s2 s4), .int .i64 (lo3 s1 s3 s5)] 23)).alloc (.cells #[.int .i64 (hi3 s0 s2 s4), .int .i64 (hi3 s1 s3 s5)] 23)).alloc (.cells #[.int .i64 x, .int .i64 y] 23)) (w3.heap.size + 1 + 1) #[.int .i64 x, .int .i64 y] 23 := Blk.new' (by simp) _ _
  have e4 : Ext w (((w3.alloc (.cells #[.int .i64 (lo3 s0 s2 s4), .int .i64 (lo3 s1 s3 s5)] 23)).alloc (.cells #[.int .i64 (hi3 s0 s2 s4), .int .i64 (hi3 s1 s3 s5)] 23)).alloc (.cells #[.int .i64 x, .int .i64 y] 23)) := ((e3.alloc _ _).alloc _ _).alloc _ _
  clear T3 e3
  generalize (((w3.alloc (.cells #[.int .i64 (lo3 s0 s2 s4), .int .i64 (lo3 s1 s3 s5)] 23)).alloc (.cells #[.int .i64 (hi3 s0 s2 s4), .int .i64 (hi3 s1 s3 s5)] 23)).alloc (.cells #[.int .i64 x, .int .i64 y] 23)) = w4 at *
  generalize w3.heap.size = g3 at *
  clear w3
  have cT4 := T4.cell
  have cP4 := P4.cell
  go_upto_region 7 with fail
  go_cut [60] (fun v wx => v = .bool false ∧ Ext w4 wx)
  case first =>
    go_wp2_with fail
    refine (covers_any _ _ _ _ _ _ _ _ (by omega) (by omega) (by omega) (by omega) (by omega) (by omega) (by omega) (by omega) _).mono ?_
    rintro e w5 ⟨rfl, hx5⟩
    cases hc : covB s0 s1 s2 s3 s4 s5 x y
    · go_wp2
      go_meet
      exact ⟨rfl, hx5⟩
    · have HI := Lib.hid (cov_inB hx hy hc)
      go_wp2
      go_meet
      exact ⟨by rw [HI.out]; rfl, hx5⟩
  obtain ⟨rfl, hx5⟩ := hcut
  have T5 := T4.ext hx5
  have e5 := e4.trans hx5
  clear hx5 T4 P4 cT4 cP4 e4
  generalize wc = w5 at *
  have k0 := corner s0 s1 s2 s3 s4 s5
  have k1 := corner s2 s3 s4 s5 s0 s1
  have k2 := corner s4 s5 s0 s1 s2 s3
  rw [sd_turn] at k1
  rw [sd_turn, sd_turn] at k2
  rw [covB_turn] at k1
  rw [covB_turn, covB_turn] at k2
  have cT5 := T5.cell
  cases hA : decide (0 < sd s0 s1 s2 s3 s4 s5) <;> cases h1 : ownB s0 s1 s2 s3 <;> cases h2 : ownB s2 s3 s4 s5 <;> cases h3 : ownB s4 s5 s0 s1
  all_goals
    rw [hA, h1, h3] at k0
    rw [hA, h2, h1] at k1
    rw [hA, h3, h2] at k2
    simp only [Bool.and_true, Bool.and_false] at k0 k1 k2
    go_wp2
    refine wp_loop_rounds 4 ?_
    rw [rounds_succ]
    go_wp2
    apply wp_region_reads2 _ (by kernel_rfl) (by kernel_rfl)
    case H =>
      intro x' hx
      have hne : Nonempty (Wx x') := ⟨⟨x', Ext.refl x'⟩⟩
      have qT := fun (y : Wx x') => (T5.ext (hx.trans y.ext)).cell
      try simp only [List.append_eq, List.cons_append, List.nil_append]
      repeat (go_big_quiet_step (first
        | (go_at_call 16; exact calm_of (covers_any _ _ _ _ _ _ _ _ (by omega) (by omega) (by omega) (by omega) (by omega) (by omega) (by omega) (by omega) _))
        | (go_at_call 15; exact calm_of (area_any _ _ _ _ _ _ (by omega) (by omega) (by omega) (by omega) (by omega) (by omega) _))
        | (go_at_call 21; exact calm_of (owns_any _ _ _ _ (by omega) (by omega) (by omega) (by omega) _))))
      exact wpQuiet_nil rfl
    intro w6 hx6
    have T6 := T5.ext hx6
    have cT6 := T6.cell
    clear T5 cT5
    have e6 := e5.trans hx6
    clear e5 hx6
    go_wp2
    apply wp_region_reads2 _ (by kernel_rfl) (by kernel_rfl)
    case H =>
      intro x' hx
      have hne : Nonempty (Wx x') := ⟨⟨x', Ext.refl x'⟩⟩
      have qT := fun (y : Wx x') => (T6.ext (hx.trans y.ext)).cell
      try simp only [List.append_eq, List.cons_append, List.nil_append]
      repeat (go_big_quiet_step (first
        | (go_at_call 16; exact calm_of (covers_any _ _ _ _ _ _ _ _ (by omega) (by omega) (by omega) (by omega) (by omega) (by omega) (by omega) (by omega) _))
        | (go_at_call 15; exact calm_of (area_any _ _ _ _ _ _ (by omega) (by omega) (by omega) (by omega) (by omega) (by omega) _))
        | (go_at_call 21; exact calm_of (owns_any _ _ _ _ (by omega) (by omega) (by omega) (by omega) _))))
      exact wpQuiet_nil rfl
    intro w7 hx7
    have T7 := T6.ext hx7
    have cT7 := T7.cell
    clear T6 cT6
    have e7 := e6.trans hx7
    clear e6 hx7
    go_wp2
    rw [rounds_succ]
    go_wp2
    apply wp_region_reads2 _ (by kernel_rfl) (by kernel_rfl)
    case H =>
      intro x' hx
      have hne : Nonempty (Wx x') := ⟨⟨x', Ext.refl x'⟩⟩
      have qT := fun (y : Wx x') => (T7.ext (hx.trans y.ext)).cell
      try simp only [List.append_eq, List.cons_append, List.nil_append]
      repeat (go_big_quiet_step (first
        | (go_at_call 16; exact calm_of (covers_any _ _ _ _ _ _ _ _ (by omega) (by omega) (by omega) (by omega) (by omega) (by omega) (by omega) (by omega) _))
        | (go_at_call 15; exact calm_of (area_any _ _ _ _ _ _ (by omega) (by omega) (by omega) (by omega) (by omega) (by omega) _))
        | (go_at_call 21; exact calm_of (owns_any _ _ _ _ (by omega) (by omega) (by omega) (by omega) _))))
      exact wpQuiet_nil rfl
    intro w8 hx8
    have T8 := T7.ext hx8
    have cT8 := T8.cell
    clear T7 cT7
    have e8 := e7.trans hx8
    clear e7 hx8
    go_wp2
    apply wp_region_reads2 _ (by kernel_rfl) (by kernel_rfl)
    case H =>
      intro x' hx
      have hne : Nonempty (Wx x') := ⟨⟨x', Ext.refl x'⟩⟩
      have qT := fun (y : Wx x') => (T8.ext (hx.trans y.ext)).cell
      try simp only [List.append_eq, List.cons_append, List.nil_append]
      repeat (go_big_quiet_step (first
        | (go_at_call 16; exact calm_of (covers_any _ _ _ _ _ _ _ _ (by omega) (by omega) (by omega) (by omega) (by omega) (by omega) (by omega) (by omega) _))
        | (go_at_call 15; exact calm_of (area_any _ _ _ _ _ _ (by omega) (by omega) (by omega) (by omega) (by omega) (by omega) _))
        | (go_at_call 21; exact calm_of (owns_any _ _ _ _ (by omega) (by omega) (by omega) (by omega) _))))
      exact wpQuiet_nil rfl
    intro w9 hx9
    have T9 := T8.ext hx9
    have cT9 := T9.cell
    clear T8 cT8
    have e9 := e8.trans hx9
    clear e8 hx9
    go_wp2
    rw [rounds_succ]
    go_wp2
    apply wp_region_reads2 _ (by kernel_rfl) (by kernel_rfl)
    case H =>
      intro x' hx
      have hne : Nonempty (Wx x') := ⟨⟨x', Ext.refl x'⟩⟩
      have qT := fun (y : Wx x') => (T9.ext (hx.trans y.ext)).cell
      try simp only [List.append_eq, List.cons_append, List.nil_append]
      repeat (go_big_quiet_step (first
        | (go_at_call 16; exact calm_of (covers_any _ _ _ _ _ _ _ _ (by omega) (by omega) (by omega) (by omega) (by omega) (by omega) (by omega) (by omega) _))
        | (go_at_call 15; exact calm_of (area_any _ _ _ _ _ _ (by omega) (by omega) (by omega) (by omega) (by omega) (by omega) _))
        | (go_at_call 21; exact calm_of (owns_any _ _ _ _ (by omega) (by omega) (by omega) (by omega) _))))
      exact wpQuiet_nil rfl
    intro w10 hx10
    have T10 := T9.ext hx10
    have cT10 := T10.cell
    clear T9 cT9
    have e10 := e9.trans hx10
    clear e9 hx10
    go_wp2
    apply wp_region_reads2 _ (by kernel_rfl) (by kernel_rfl)
    case H =>
      intro x' hx
      have hne : Nonempty (Wx x') := ⟨⟨x', Ext.refl x'⟩⟩
      have qT := fun (y : Wx x') => (T10.ext (hx.trans y.ext)).cell
      try simp only [List.append_eq, List.cons_append, List.nil_append]
      repeat (go_big_quiet_step (first
        | (go_at_call 16; exact calm_of (covers_any _ _ _ _ _ _ _ _ (by omega) (by omega) (by omega) (by omega) (by omega) (by omega) (by omega) (by omega) _))
        | (go_at_call 15; exact calm_of (area_any _ _ _ _ _ _ (by omega) (by omega) (by omega) (by omega) (by omega) (by omega) _))
        | (go_at_call 21; exact calm_of (owns_any _ _ _ _ (by omega) (by omega) (by omega) (by omega) _))))
      exact wpQuiet_nil rfl
    intro w11 hx11
    have T11 := T10.ext hx11
    have cT11 := T11.cell
    clear T10 cT10
    have e11 := e10.trans hx11
    clear e10 hx11
    go_wp2
    rw [rounds_succ]
    go_wp2
    go_ret
    exact ⟨rfl, e11⟩

end Go.Proofs.Ytbhgebflknafbaa
