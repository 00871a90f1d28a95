/-
  DERIVED. The walk of the law EdgeMoves: it returns true, whatever the numbers.
-/
import Derived.Test.YtbhgebflknafbaaEdgeAid
import Derived.Test.YtbhgebflknafbaaCalmMine
namespace Go.Proofs.Ytbhgebflknafbaa
open Go.RowKit
set_option linter.unusedVariables false

theorem quarter16 (c : Int) (h : -32768 ≤ c ∧ c ≤ 32767) : ∃ y : Int, c.tdiv 4 = y ∧ -8192 ≤ y ∧ y ≤ 8192 := by
  refine ⟨_, rfl, ?_⟩
  have h1 : (c.tdiv 4).natAbs = c.natAbs / (4 : Int).natAbs := Int.natAbs_tdiv c 4
  have h2 : (4 : Int).natAbs = 4 := rfl
  rw [h2] at h1
  omega
theorem idxT (x0 x1 y0 y1 z0 z1 : Value) (w : World) :
    (Instr.index 25 (.agg #[x0, x1, y0, y1, z0, z1]) (.int .i64 0)).run Try.prog w = .ok (.agg #[x0, x1]) w ∧
    (Instr.index 25 (.agg #[x0, x1, y0, y1, z0, z1]) (.int .i64 1)).run Try.prog w = .ok (.agg #[y0, y1]) w ∧
    (Instr.index 25 (.agg #[x0, x1, y0, y1, z0, z1]) (.int .i64 2)).run Try.prog w = .ok (.agg #[z0, z1]) w := by
  refine ⟨?_, ?_, ?_⟩ <;> simp [Instr.index, asIntOf, run_underlying Try.underlying25, go_sem, part]
set_option maxRecDepth 100000 in
set_option maxHeartbeats 4000000 in
theorem edgeMoves_row (s0 s1 s2 s3 s4 s5 x y dx dy : Int) (hs0 : -128 ≤ s0 ∧ s0 ≤ 127) (hs1 : -128 ≤ s1 ∧ s1 ≤ 127) (hs2 : -128 ≤ s2 ∧ s2 ≤ 127) (hs3 : -128 ≤ s3 ∧ s3 ≤ 127) (hs4 : -128 ≤ s4 ∧ s4 ≤ 127) (hs5 : -128 ≤ s5 ∧ s5 ≤ 127) (hx : -128 ≤ x ∧ x ≤ 127) (hy : -128 ≤ y ∧ y ≤ 127) (hdx : -32768 ≤ dx ∧ dx ≤ 32767) (hdy : -32768 ≤ dy ∧ dy ≤ 32767) (w : World) :
    Calls Try.prog 7 #[.agg #[.int .i8 s0, .int .i8 s1, .int .i8 s2, .int .i8 s3, .int .i8 s4, .int .i8 s5], .int .i8 x, .int .i8 y, .int .i16 dx, .int .i16 dy] w fun e w' => e = .returned (.bool true) ∧ Ext w w' := by
  obtain ⟨m, hm, lm, um⟩ := quarter16 dx hdx
  obtain ⟨n, hn, ln, un⟩ := quarter16 dy hdy
  have r1 : covB (s0 + m) (s1 + n) (s2 + m) (s3 + n) (s4 + m) (s5 + n) (x + m) (y + n) = covB s0 s1 s2 s3 s4 s5 x y := by
    rw [Bool.eq_iff_iff, covB_iff, covB_iff, nr_id (x := s0 + m) (by omega) (by omega), nr_id (x := s1 + n) (by omega) (by omega), nr_id (x := s2 + m) (by omega) (by omega), nr_id (x := s3 + n) (by omega) (by omega), nr_id (x := s4 + m) (by omega) (by omega), nr_id (x := s5 + n) (by omega) (by omega), nr_id (x := x + m) (by omega) (by omega), nr_id (x := y + n) (by omega) (by omega), nr_id (x := s0) (by omega) (by omega), nr_id (x := s1) (by omega) (by omega), nr_id (x := s2) (by omega) (by omega), nr_id (x := s3) (by omega) (by omega), nr_id (x := s4) (by omega) (by omega), nr_id (x := s5) (by omega) (by omega), nr_id (x := x) (by omega) (by omega), nr_id (x := y) (by omega) (by omega)]
    exact Edge.cov_move _ _ _ _ _ _ _ _ _ _
  have r2 : covB (2 * s0) (2 * s1) (2 * s2) (2 * s3) (2 * s4) (2 * s5) (2 * x) (2 * y) = covB s0 s1 s2 s3 s4 s5 x y := by
    rw [Bool.eq_iff_iff, covB_iff, covB_iff, nr_id (x := 2 * s0) (by omega) (by omega), nr_id (x := 2 * s1) (by omega) (by omega), nr_id (x := 2 * s2) (by omega) (by omega), nr_id (x := 2 * s3) (by omega) (by omega), nr_id (x := 2 * s4) (by omega) (by omega), nr_id (x := 2 * s5) (by omega) (by omega), nr_id (x := 2 * x) (by omega) (by omega), nr_id (x := 2 * y) (by omega) (by omega), nr_id (x := s0) (by omega) (by omega), nr_id (x := s1) (by omega) (by omega), nr_id (x := s2) (by omega) (by omega), nr_id (x := s3) (by omega) (by omega), nr_id (x := s4) (by omega) (by omega), nr_id (x := s5) (by omega) (by omega), nr_id (x := x) (by omega) (by omega), nr_id (x := y) (by omega) (by omega)]
    exact Edge.cov_twice _ _ _ _ _ _ _ _
  have r3 : sd (s0 + m) (s1 + n) (s2 + m) (s3 + n) (s4 + m) (s5 + n) = sd s0 s1 s2 s3 s4 s5 := by
    unfold sd
    rw [nr_id (x := s0 + m) (by omega) (by omega), nr_id (x := s1 + n) (by omega) (by omega), nr_id (x := s2 + m) (by omega) (by omega), nr_id (x := s3 + n) (by omega) (by omega), nr_id (x := s4 + m) (by omega) (by omega), nr_id (x := s5 + n) (by omega) (by omega), nr_id (x := s0) (by omega) (by omega), nr_id (x := s1) (by omega) (by omega), nr_id (x := s2) (by omega) (by omega), nr_id (x := s3) (by omega) (by omega), nr_id (x := s4) (by omega) (by omega), nr_id (x := s5) (by omega) (by omega)]
    exact Edge.side_move _ _ _ _ _ _ _ _
  have r4 : sd (2 * s0) (2 * s1) (2 * s2) (2 * s3) (2 * s4) (2 * s5) = 4 * sd s0 s1 s2 s3 s4 s5 := by
    unfold sd
    rw [nr_id (x := 2 * s0) (by omega) (by omega), nr_id (x := 2 * s1) (by omega) (by omega), nr_id (x := 2 * s2) (by omega) (by omega), nr_id (x := 2 * s3) (by omega) (by omega), nr_id (x := 2 * s4) (by omega) (by omega), nr_id (x := 2 * s5) (by omega) (by omega), nr_id (x := s0) (by omega) (by omega), nr_id (x := s1) (by omega) (by omega), nr_id (x := s2) (by omega) (by omega), nr_id (x := s3) (by omega) (by omega), nr_id (x := s4) (by omega) (by omega), nr_id (x := s5) (by omega) (by omega)]
    exact Edge.side_twice _ _ _ _ _ _
  have k1 := sd_bd s0 s1 s2 s3 s4 s5
  have hI := idxT
  go_enter Try.func7, Try.ntmps7
  go_wp2_with fail
  with_reducible refine (awake3_any _).mono ?_
  rintro e w1 ⟨rfl, hx1⟩
  have S1 : Blk w1 w.heap.size #[.int .i8 s0, .int .i8 s1, .int .i8 s2, .int .i8 s3, .int .i8 s4, .int .i8 s5] 29 := (Blk.new w _ _).ext hx1
  have cS := S1.cell
  have e1 : Ext w w1 := ((Ext.refl w).alloc _ _).trans hx1
  clear hx1
  go_wp2_with fail
  refine (smallTri_any _ _ _ _ _ _ (by omega) (by omega) (by omega) (by omega) (by omega) (by omega) _).mono ?_
  rintro e w2 ⟨rfl, hx2⟩
  have e2 := e1.trans hx2
  clear e1 hx2 S1 cS
  go_wp2
  have T3 : Blk ((((w2.alloc (.cells #[.int .i64 s0, .int .i64 s1, .int .i64 s2, .int .i64 s3, .int .i64 s4, .int .i64 s5] 25)).alloc (.cells #[.int .i64 x, .int .i64 y] 23)).alloc (.cells #[.int .i64 0, .int .i64 0, .int .i64 0, .int .i64 0, .int .i64 0, .int .i64 0] 25)).alloc (.cells #[.int .i64 0, .int .i64 0, .int .i64 0, .int .i64 0, .int .i64 0, .int .i64 0] 25)) w2.heap.size #[.int .i64 s0, .int .i64 s1, .int .i64 s2, .int .i64 s3, .int .i64 s4, .int .i64 s5] 25 := (((Blk.new w2 _ _).alloc _).alloc _).alloc _
  have P3 : Blk ((((w2.alloc (.cells #[.int .i64 s0, .int .i64 s1, .int .i64 s2, .int .i64 s3, .int .i64 s4, .int .i64 s5] 25)).alloc (.cells #[.int .i64 x, .int .i64 y] 23)).alloc (.cells #[.int .i64 0, .int .i64 0, .int .i64 0, .int .i64 0, .int .i64 0, .int .i64 0] 25)).alloc (.cells #[.int .i64 0, .int .i64 0, .int .i64 0, .int .i64 0, .int .i64 0, .int .i64 0] 25)) (w2.heap.size + 1) #[.int .i64 x, .int .i64 y] 23 := ((Blk.new' (by simp) _ _).alloc _).alloc _
  have U3 : Blk ((((w2.alloc (.cells #[.int .i64 s0, .int .i64 s1, .int .i64 s2, .int .i64 s3, .int .i64 s4, .int .i64 s5] 25)).alloc (.cells #[.int .i64 x, .int .i64 y] 23)).alloc (.cells #[.int .i64 0, .int .i64 0, .int .i64 0, .int .i64 0, .int .i64 0, .int .i64 0] 25)).alloc (.cells #[.int .i64 0, .int .i64 0, .int .i64 0, .int .i64 0, .int .i64 0, .int .i64 0] 25)) (w2.heap.size + 1 + 1) #[.int .i64 0, .int .i64 0, .int .i64 0, .int .i64 0, .int .i64 0, .int .i64 0] 25 := (Blk.new' (by simp) _ _).alloc _
  have V3 : Blk ((((w2.alloc (.cells #[.int .i64 s0, .int .i64 s1, .int .i64 s2, .int .i64 s3, .int .i64 s4, .int .i64 s5] 25)).alloc (.cells #[.int .i64 x, .int .i64 y] 23)).alloc (.cells #[.int .i64 0, .int .i64 0, .int .i64 0, .int .i64 0, .int .i64 0, .int .i64 0] 25)).alloc (.cells #[.int .i64 0, .int .i64 0, .int .i64 0, .int .i64 0, .int .i64 0, .int .i64 0] 25)) (w2.heap.size + 1 + 1 + 1) #[.int .i64 0, .int .i64 0, .int .i64 0, .int .i64 0, .int .i64 0, .int .i64 0] 25 := Blk.new' (by simp) _ _
  have e3 : Ext w ((((w2.alloc (.cells #[.int .i64 s0, .int .i64 s1, .int .i64 s2, .int .i64 s3, .int .i64 s4, .int .i64 s5] 25)).alloc (.cells #[.int .i64 x, .int .i64 y] 23)).alloc (.cells #[.int .i64 0, .int .i64 0, .int .i64 0, .int .i64 0, .int .i64 0, .int .i64 0] 25)).alloc (.cells #[.int .i64 0, .int .i64 0, .int .i64 0, .int .i64 0, .int .i64 0, .int .i64 0] 25)) := (((e2.alloc _ _).alloc _ _).alloc _ _).alloc _ _
  have z2 := e2.size
  generalize ((((w2.alloc (.cells #[.int .i64 s0, .int .i64 s1, .int .i64 s2, .int .i64 s3, .int .i64 s4, .int .i64 s5] 25)).alloc (.cells #[.int .i64 x, .int .i64 y] 23)).alloc (.cells #[.int .i64 0, .int .i64 0, .int .i64 0, .int .i64 0, .int .i64 0, .int .i64 0] 25)).alloc (.cells #[.int .i64 0, .int .i64 0, .int .i64 0, .int .i64 0, .int .i64 0, .int .i64 0] 25)) = w3 at *
  generalize w2.heap.size = g at *
  clear e2 w2
  have cT3 := T3.cell
  have cP3 := P3.cell
  have cU3 := U3.cell
  have cV3 := V3.cell
  refine wp_loop_rounds 4 ?_
  rw [rounds_succ]
  go_wp2
  apply wp_region_vars [false, false, false, false, false, false, false, false, false, false, false, false, false, false, false, false, false, false, false, true, false, true] [g + 1 + 1, g + 1 + 1 + 1] [⟨none, 0, g + 1 + 1, some 19, 25, #[.int .i64 0, .int .i64 0, .int .i64 0, .int .i64 0, .int .i64 0, .int .i64 0], #[.int .i64 (s0 + m), .int .i64 (s1 + n), .int .i64 0, .int .i64 0, .int .i64 0, .int .i64 0]⟩, ⟨none, 0, g + 1 + 1 + 1, some 21, 25, #[.int .i64 0, .int .i64 0, .int .i64 0, .int .i64 0, .int .i64 0, .int .i64 0], #[.int .i64 (2 * s0), .int .i64 (2 * s1), .int .i64 0, .int .i64 0, .int .i64 0, .int .i64 0]⟩] _ (by kernel_rfl) (by kernel_rfl) (by kernel_rfl)
  case H =>
    intro x' hx
    have hne : Nonempty (Wx x') := ⟨⟨x', Ext.refl x'⟩⟩
    have zk := T3.lt
    have zv := V3.lt
    have q0 := fun (y' : Wx x') => (((Blk.new w3 #[.int .i64 s0, .int .i64 s1] 23).calm hx (by simp <;> omega)).ext y'.ext).cell
    simp only [eraseM]
    repeat (go_big_quiet_step (fail))
    exact wpQuiet_nil rfl
  case hok =>
    simp only [List.forall_mem_cons, List.not_mem_nil, false_implies, implies_true, and_true]
    exact ⟨tgt_mine (by simp) (U3.alloc _) rfl rfl rfl rfl rfl rfl (by kernel_rfl) (by kernel_rfl) (of_decide_eq_true (by kernel_rfl)) rfl, tgt_mine (by simp) (V3.alloc _) rfl rfl rfl rfl rfl rfl (by kernel_rfl) (by kernel_rfl) (of_decide_eq_true (by kernel_rfl)) rfl⟩
  case hdis =>
    intro k k' t t' hk hk' hne _ _
    rcases k with _ | _ | k <;> rcases k' with _ | _ | k' <;> simp at hk hk' hne <;> (subst hk; subst hk'; simp)
  rintro w4 f hw ⟨k0, l0, d0, -, k1, l1, d1, -, -⟩
  have k0' : f 0 = g + 1 + 1 := k0
  have k1' : f 1 = g + 1 + 1 + 1 := k1
  have U4 : Blk w4 (g + 1 + 1) #[.int .i64 (s0 + m), .int .i64 (s1 + n), .int .i64 0, .int .i64 0, .int .i64 0, .int .i64 0] 25 := k0' ▸ d0
  have V4 : Blk w4 (g + 1 + 1 + 1) #[.int .i64 (2 * s0), .int .i64 (2 * s1), .int .i64 0, .int .i64 0, .int .i64 0, .int .i64 0] 25 := k1' ▸ d1
  have T4 := (T3.alloc (.cells #[.int .i64 s0, .int .i64 s1] 23)).calm hw (by simp <;> omega)
  have P4 := (P3.alloc (.cells #[.int .i64 s0, .int .i64 s1] 23)).calm hw (by simp <;> omega)
  have e4 := Ext.calm_trans (e3.alloc #[.int .i64 s0, .int .i64 s1] 23) hw (by simp <;> omega)
  clear hw k0 k0' k1 k1' l0 l1 d0 d1 T3 P3 U3 V3 cT3 cP3 cU3 cV3 e3
  simp only [pairs, putAll, Option.isSome_none, Bool.false_eq_true, if_false]
  have cT4 := T4.cell
  have cP4 := P4.cell
  have cU4 := U4.cell
  have cV4 := V4.cell
  go_wp2
  rw [rounds_succ]
  go_wp2
  apply wp_region_vars [false, false, false, false, false, false, false, false, false, false, false, false, false, false, false, false, false, false, false, true, false, true] [g + 1 + 1, g + 1 + 1 + 1] [⟨none, 0, g + 1 + 1, some 19, 25, #[.int .i64 (s0 + m), .int .i64 (s1 + n), .int .i64 0, .int .i64 0, .int .i64 0, .int .i64 0], #[.int .i64 (s0 + m), .int .i64 (s1 + n), .int .i64 (s2 + m), .int .i64 (s3 + n), .int .i64 0, .int .i64 0]⟩, ⟨none, 0, g + 1 + 1 + 1, some 21, 25, #[.int .i64 (2 * s0), .int .i64 (2 * s1), .int .i64 0, .int .i64 0, .int .i64 0, .int .i64 0], #[.int .i64 (2 * s0), .int .i64 (2 * s1), .int .i64 (2 * s2), .int .i64 (2 * s3), .int .i64 0, .int .i64 0]⟩] _ (by kernel_rfl) (by kernel_rfl) (by kernel_rfl)
  case H =>
    intro x' hx
    have hne : Nonempty (Wx x') := ⟨⟨x', Ext.refl x'⟩⟩
    have zk := T4.lt
    have zv := V4.lt
    have q0 := fun (y' : Wx x') => (((Blk.new w4 #[.int .i64 s2, .int .i64 s3] 23).calm hx (by simp <;> omega)).ext y'.ext).cell
    simp only [eraseM]
    repeat (go_big_quiet_step (fail))
    exact wpQuiet_nil rfl
  case hok =>
    simp only [List.forall_mem_cons, List.not_mem_nil, false_implies, implies_true, and_true]
    exact ⟨tgt_mine (by simp) (U4.alloc _) rfl rfl rfl rfl rfl rfl (by kernel_rfl) (by kernel_rfl) (of_decide_eq_true (by kernel_rfl)) rfl, tgt_mine (by simp) (V4.alloc _) rfl rfl rfl rfl rfl rfl (by kernel_rfl) (by kernel_rfl) (of_decide_eq_true (by kernel_rfl)) rfl⟩
  case hdis =>
    intro k k' t t' hk hk' hne _ _
    rcases k with _ | _ | k <;> rcases k' with _ | _ | k' <;> simp at hk hk' hne <;> (subst hk; subst hk'; simp)
  rintro w5 f hw ⟨k0, l0, d0, -, k1, l1, d1, -, -⟩
  have k0' : f 0 = g + 1 + 1 := k0
  have k1' : f 1 = g + 1 + 1 + 1 := k1
  have U5 : Blk w5 (g + 1 + 1) #[.int .i64 (s0 + m), .int .i64 (s1 + n), .int .i64 (s2 + m), .int .i64 (s3 + n), .int .i64 0, .int .i64 0] 25 := k0' ▸ d0
  have V5 : Blk w5 (g + 1 + 1 + 1) #[.int .i64 (2 * s0), .int .i64 (2 * s1), .int .i64 (2 * s2), .int .i64 (2 * s3), .int .i64 0, .int .i64 0] 25 := k1' ▸ d1
  have T5 := (T4.alloc (.cells #[.int .i64 s2, .int .i64 s3] 23)).calm hw (by simp <;> omega)
  have P5 := (P4.alloc (.cells #[.int .i64 s2, .int .i64 s3] 23)).calm hw (by simp <;> omega)
  have e5 := Ext.calm_trans (e4.alloc #[.int .i64 s2, .int .i64 s3] 23) hw (by simp <;> omega)
  clear hw k0 k0' k1 k1' l0 l1 d0 d1 T4 P4 U4 V4 cT4 cP4 cU4 cV4 e4
  simp only [pairs, putAll, Option.isSome_none, Bool.false_eq_true, if_false]
  have cT5 := T5.cell
  have cP5 := P5.cell
  have cU5 := U5.cell
  have cV5 := V5.cell
  go_wp2
  rw [rounds_succ]
  go_wp2
  apply wp_region_vars [false, false, false, false, false, false, false, false, false, false, false, false, false, false, false, false, false, false, false, true, false, true] [g + 1 + 1, g + 1 + 1 + 1] [⟨none, 0, g + 1 + 1, some 19, 25, #[.int .i64 (s0 + m), .int .i64 (s1 + n), .int .i64 (s2 + m), .int .i64 (s3 + n), .int .i64 0, .int .i64 0], #[.int .i64 (s0 + m), .int .i64 (s1 + n), .int .i64 (s2 + m), .int .i64 (s3 + n), .int .i64 (s4 + m), .int .i64 (s5 + n)]⟩, ⟨none, 0, g + 1 + 1 + 1, some 21, 25, #[.int .i64 (2 * s0), .int .i64 (2 * s1), .int .i64 (2 * s2), .int .i64 (2 * s3), .int .i64 0, .int .i64 0], #[.int .i64 (2 * s0), .int .i64 (2 * s1), .int .i64 (2 * s2), .int .i64 (2 * s3), .int .i64 (2 * s4), .int .i64 (2 * s5)]⟩] _ (by kernel_rfl) (by kernel_rfl) (by kernel_rfl)
  case H =>
    intro x' hx
    have hne : Nonempty (Wx x') := ⟨⟨x', Ext.refl x'⟩⟩
    have zk := T5.lt
    have zv := V5.lt
    have q0 := fun (y' : Wx x') => (((Blk.new w5 #[.int .i64 s4, .int .i64 s5] 23).calm hx (by simp <;> omega)).ext y'.ext).cell
    simp only [eraseM]
    repeat (go_big_quiet_step (fail))
    exact wpQuiet_nil rfl
  case hok =>
    simp only [List.forall_mem_cons, List.not_mem_nil, false_implies, implies_true, and_true]
    exact ⟨tgt_mine (by simp) (U5.alloc _) rfl rfl rfl rfl rfl rfl (by kernel_rfl) (by kernel_rfl) (of_decide_eq_true (by kernel_rfl)) rfl, tgt_mine (by simp) (V5.alloc _) rfl rfl rfl rfl rfl rfl (by kernel_rfl) (by kernel_rfl) (of_decide_eq_true (by kernel_rfl)) rfl⟩
  case hdis =>
    intro k k' t t' hk hk' hne _ _
    rcases k with _ | _ | k <;> rcases k' with _ | _ | k' <;> simp at hk hk' hne <;> (subst hk; subst hk'; simp)
  rintro w6 f hw ⟨k0, l0, d0, -, k1, l1, d1, -, -⟩
  have k0' : f 0 = g + 1 + 1 := k0
  have k1' : f 1 = g + 1 + 1 + 1 := k1
  have U6 : Blk w6 (g + 1 + 1) #[.int .i64 (s0 + m), .int .i64 (s1 + n), .int .i64 (s2 + m), .int .i64 (s3 + n), .int .i64 (s4 + m), .int .i64 (s5 + n)] 25 := k0' ▸ d0
  have V6 : Blk w6 (g + 1 + 1 + 1) #[.int .i64 (2 * s0), .int .i64 (2 * s1), .int .i64 (2 * s2), .int .i64 (2 * s3), .int .i64 (2 * s4), .int .i64 (2 * s5)] 25 := k1' ▸ d1
  have T6 := (T5.alloc (.cells #[.int .i64 s4, .int .i64 s5] 23)).calm hw (by simp <;> omega)
  have P6 := (P5.alloc (.cells #[.int .i64 s4, .int .i64 s5] 23)).calm hw (by simp <;> omega)
  have e6 := Ext.calm_trans (e5.alloc #[.int .i64 s4, .int .i64 s5] 23) hw (by simp <;> omega)
  clear hw k0 k0' k1 k1' l0 l1 d0 d1 T5 P5 U5 V5 cT5 cP5 cU5 cV5 e5
  simp only [pairs, putAll, Option.isSome_none, Bool.false_eq_true, if_false]
  have cT6 := T6.cell
  have cP6 := P6.cell
  have cU6 := U6.cell
  have cV6 := V6.cell
  go_wp2
  rw [rounds_succ]
  go_wp2
  apply wp_region_reads2 _ (by kernel_rfl) (by kernel_rfl)
  case H =>
    intro x' hx
    have hne : Nonempty (Wx x') := ⟨⟨x', Ext.refl x'⟩⟩
    have qT := fun (y : Wx x') => (T6.ext (hx.trans y.ext)).cell
    have qP := fun (y : Wx x') => (P6.ext (hx.trans y.ext)).cell
    have qU := fun (y : Wx x') => (U6.ext (hx.trans y.ext)).cell
    have qV := fun (y : Wx x') => (V6.ext (hx.trans y.ext)).cell
    try simp only [List.append_eq, List.cons_append, List.nil_append]
    repeat (go_big_quiet_step (first
      | (go_at_call 16; exact calm_of (covers_any _ _ _ _ _ _ _ _ (by omega) (by omega) (by omega) (by omega) (by omega) (by omega) (by omega) (by omega) _))
      | (go_at_call 15; exact calm_of (area_any _ _ _ _ _ _ (by omega) (by omega) (by omega) (by omega) (by omega) (by omega) _))))
    exact wpQuiet_nil rfl
  intro w7 hx7
  go_wp2
  go_ret
  exact ⟨rfl, e6.trans hx7⟩

end Go.Proofs.Ytbhgebflknafbaa
