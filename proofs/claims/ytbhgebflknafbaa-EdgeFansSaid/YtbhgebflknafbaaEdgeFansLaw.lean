/-
  DERIVED. The walk of the law EdgeFans: it returns true, whatever the numbers.
-/
import Derived.Test.YtbhgebflknafbaaEdgeAid
import Derived.Test.YtbhgebflknafbaaCalmMine
namespace Go.Proofs.Ytbhgebflknafbaa
open Go.RowKit
set_option linter.unusedVariables false

theorem idxW (x y z : Value) (w : World) :
    (Instr.index 37 (.agg #[x, y, z]) (.int .i64 0)).run Try.prog w = .ok x w ∧ (Instr.index 37 (.agg #[x, y, z]) (.int .i64 1)).run Try.prog w = .ok y w ∧ (Instr.index 37 (.agg #[x, y, z]) (.int .i64 2)).run Try.prog w = .ok z w := by
  refine ⟨?_, ?_, ?_⟩ <;> simp [Instr.index, asIntOf, run_underlying Try.underlying37, go_sem, part]
/-- the three parts of a triangle, and it -/
theorem fansB {s0 s1 s2 s3 s4 s5 m n x y : Int} (hs0 : -128 ≤ s0 ∧ s0 ≤ 127) (hs1 : -128 ≤ s1 ∧ s1 ≤ 127) (hs2 : -128 ≤ s2 ∧ s2 ≤ 127) (hs3 : -128 ≤ s3 ∧ s3 ≤ 127) (hs4 : -128 ≤ s4 ∧ s4 ≤ 127) (hs5 : -128 ≤ s5 ∧ s5 ≤ 127) (hm : -128 ≤ m ∧ m ≤ 127) (hn : -128 ≤ n ∧ n ≤ 127) (h0 : 0 < sd s2 s3 s4 s5 m n) (h1 : 0 < sd s4 s5 s0 s1 m n) (h2 : 0 < sd s0 s1 s2 s3 m n) :
    (covB s0 s1 s2 s3 s4 s5 x y = true ∧ covB s0 s1 s2 s3 m n x y = true ∧ covB s2 s3 s4 s5 m n x y = false ∧ covB s4 s5 s0 s1 m n x y = false) ∨ (covB s0 s1 s2 s3 s4 s5 x y = true ∧ covB s0 s1 s2 s3 m n x y = false ∧ covB s2 s3 s4 s5 m n x y = true ∧ covB s4 s5 s0 s1 m n x y = false) ∨ (covB s0 s1 s2 s3 s4 s5 x y = true ∧ covB s0 s1 s2 s3 m n x y = false ∧ covB s2 s3 s4 s5 m n x y = false ∧ covB s4 s5 s0 s1 m n x y = true) ∨ (covB s0 s1 s2 s3 s4 s5 x y = false ∧ covB s0 s1 s2 s3 m n x y = false ∧ covB s2 s3 s4 s5 m n x y = false ∧ covB s4 s5 s0 s1 m n x y = false) := by
  unfold sd at h0 h1 h2
  have n8 : ∀ a b c d : Int, (-128 ≤ a ∧ a ≤ 127) → (-128 ≤ b ∧ b ≤ 127) → (-128 ≤ c ∧ c ≤ 127) → (-128 ≤ d ∧ d ≤ 127) → Edge.Near3 (nr a) (nr b) (nr c) (nr d) := fun a b c d ha hb hc hd => by
    rw [nr8 ha, nr8 hb, nr8 hc, nr8 hd]
    unfold Edge.Near3 Edge.near; omega
  have h := Edge.fans (px := nr x) (py := nr y) (n8 s0 s1 s2 s3 hs0 hs1 hs2 hs3) (n8 s2 s3 s4 s5 hs2 hs3 hs4 hs5) (n8 s4 s5 s0 s1 hs4 hs5 hs0 hs1) (n8 m n s0 s1 hm hn hs0 hs1) (n8 m n s2 s3 hm hn hs2 hs3) (n8 m n s4 s5 hm hn hs4 hs5) h0 h1 h2
  rw [← covB_iff, ← covB_iff, ← covB_iff, ← covB_iff] at h
  cases e0 : covB s0 s1 s2 s3 s4 s5 x y <;> cases e1 : covB s0 s1 s2 s3 m n x y <;> cases e2 : covB s2 s3 s4 s5 m n x y <;> cases e3 : covB s4 s5 s0 s1 m n x y <;> simp_all
theorem covers_in {s0 s1 s2 s3 s4 s5 m n : Int} (h0 : 0 < sd s2 s3 s4 s5 m n) (h1 : 0 < sd s4 s5 s0 s1 m n) (h2 : 0 < sd s0 s1 s2 s3 m n) : covB s0 s1 s2 s3 s4 s5 m n = true := by
  rw [covB_iff]
  unfold sd at h0 h1 h2
  have hs := Edge.side_sum (nr s0) (nr s1) (nr s2) (nr s3) (nr s4) (nr s5) (nr m) (nr n)
  exact ⟨by omega, .inl h0, .inl h1, .inl h2⟩

set_option maxRecDepth 100000 in
set_option maxHeartbeats 4000000 in
theorem edgeFans_early0 (s0 s1 s2 s3 s4 s5 m x y n : Int) (hs0 : -128 ≤ s0 ∧ s0 ≤ 127) (hs1 : -128 ≤ s1 ∧ s1 ≤ 127) (hs2 : -128 ≤ s2 ∧ s2 ≤ 127) (hs3 : -128 ≤ s3 ∧ s3 ≤ 127) (hs4 : -128 ≤ s4 ∧ s4 ≤ 127) (hs5 : -128 ≤ s5 ∧ s5 ≤ 127) (hm : -128 ≤ m ∧ m ≤ 127) (hx : -128 ≤ x ∧ x ≤ 127) (hy : -128 ≤ y ∧ y ≤ 127) (hn : -128 ≤ n ∧ n ≤ 127) (q0 : sd s2 s3 s4 s5 m n ≤ 0) (w : World) :
    Calls Try.prog 6 #[.agg #[.int .i8 s0, .int .i8 s1, .int .i8 s2, .int .i8 s3, .int .i8 s4, .int .i8 s5], .int .i8 m, .int .i8 x, .int .i8 y, .int .i8 n] w fun e w' => e = .returned (.bool true) ∧ Ext w w' := by
  have d0 : decide (sd s2 s3 s4 s5 m n ≤ 0) = true := by simpa using q0
  have hI := idxW
  have hE := eqP
  go_enter Try.func6, Try.ntmps6
  go_wp2_with fail
  with_reducible refine (awake3_any _).mono ?_
  rintro e w1 ⟨rfl, hx1⟩
  have S1 : Blk w1 w.heap.size #[.int .i8 s0, .int .i8 s1, .int .i8 s2, .int .i8 s3, .int .i8 s4, .int .i8 s5] 29 := (Blk.new w _ _).ext hx1
  have cS := S1.cell
  have e1 : Ext w w1 := ((Ext.refl w).alloc _ _).trans hx1
  clear hx1
  go_wp2_with fail
  refine (smallTri_any _ _ _ _ _ _ (by omega) (by omega) (by omega) (by omega) (by omega) (by omega) _).mono ?_
  rintro e w2 ⟨rfl, hx2⟩
  have e2 := e1.trans hx2
  clear e1 hx2 S1 cS
  go_wp2_with fail
  refine (weights_any _ _ _ _ _ _ _ _ (by omega) (by omega) (by omega) (by omega) (by omega) (by omega) (by omega) (by omega) _).mono ?_
  rintro e w3 ⟨rfl, hx3⟩
  have T3 : Blk w3 w2.heap.size #[.int .i64 s0, .int .i64 s1, .int .i64 s2, .int .i64 s3, .int .i64 s4, .int .i64 s5] 25 := ((Blk.new w2 _ _).alloc _).ext hx3
  have Q3 : Blk w3 (w2.heap.size + 1) #[.int .i64 m, .int .i64 n] 23 := (Blk.new' (by simp) _ _).ext hx3
  have e3 := ((e2.alloc _ _).alloc _ _).trans hx3
  clear hx3 e2
  generalize w2.heap.size = g at *
  clear w2
  go_wp2
  refine wp_loop_rounds 4 ?_
  rw [rounds_succ]
  go_wp2
  go_ret
  exact ⟨rfl, e3⟩

set_option maxRecDepth 100000 in
set_option maxHeartbeats 4000000 in
theorem edgeFans_early1 (s0 s1 s2 s3 s4 s5 m x y n : Int) (hs0 : -128 ≤ s0 ∧ s0 ≤ 127) (hs1 : -128 ≤ s1 ∧ s1 ≤ 127) (hs2 : -128 ≤ s2 ∧ s2 ≤ 127) (hs3 : -128 ≤ s3 ∧ s3 ≤ 127) (hs4 : -128 ≤ s4 ∧ s4 ≤ 127) (hs5 : -128 ≤ s5 ∧ s5 ≤ 127) (hm : -128 ≤ m ∧ m ≤ 127) (hx : -128 ≤ x ∧ x ≤ 127) (hy : -128 ≤ y ∧ y ≤ 127) (hn : -128 ≤ n ∧ n ≤ 127) (p0 : 0 < sd s2 s3 s4 s5 m n) (q1 : sd s4 s5 s0 s1 m n ≤ 0) (w : World) :
    Calls Try.prog 6 #[.agg #[.int .i8 s0, .int .i8 s1, .int .i8 s2, .int .i8 s3, .int .i8 s4, .int .i8 s5], .int .i8 m, .int .i8 x, .int .i8 y, .int .i8 n] w fun e w' => e = .returned (.bool true) ∧ Ext w w' := by
  have d0 : decide (sd s2 s3 s4 s5 m n ≤ 0) = false := by simpa using p0
  have d1 : decide (sd s4 s5 s0 s1 m n ≤ 0) = true := by simpa using q1
  have hI := idxW
  have hE := eqP
  go_enter Try.func6, Try.ntmps6
  go_wp2_with fail
  with_reducible refine (awake3_any _).mono ?_
  rintro e w1 ⟨rfl, hx1⟩
  have S1 : Blk w1 w.heap.size #[.int .i8 s0, .int .i8 s1, .int .i8 s2, .int .i8 s3, .int .i8 s4, .int .i8 s5] 29 := (Blk.new w _ _).ext hx1
  have cS := S1.cell
  have e1 : Ext w w1 := ((Ext.refl w).alloc _ _).trans hx1
  clear hx1
  go_wp2_with fail
  refine (smallTri_any _ _ _ _ _ _ (by omega) (by omega) (by omega) (by omega) (by omega) (by omega) _).mono ?_
  rintro e w2 ⟨rfl, hx2⟩
  have e2 := e1.trans hx2
  clear e1 hx2 S1 cS
  go_wp2_with fail
  refine (weights_any _ _ _ _ _ _ _ _ (by omega) (by omega) (by omega) (by omega) (by omega) (by omega) (by omega) (by omega) _).mono ?_
  rintro e w3 ⟨rfl, hx3⟩
  have T3 : Blk w3 w2.heap.size #[.int .i64 s0, .int .i64 s1, .int .i64 s2, .int .i64 s3, .int .i64 s4, .int .i64 s5] 25 := ((Blk.new w2 _ _).alloc _).ext hx3
  have Q3 : Blk w3 (w2.heap.size + 1) #[.int .i64 m, .int .i64 n] 23 := (Blk.new' (by simp) _ _).ext hx3
  have e3 := ((e2.alloc _ _).alloc _ _).trans hx3
  clear hx3 e2
  generalize w2.heap.size = g at *
  clear w2
  go_wp2
  refine wp_loop_rounds 4 ?_
  rw [rounds_succ]
  go_wp2
  rw [rounds_succ]
  go_wp2
  go_ret
  exact ⟨rfl, e3⟩

set_option maxRecDepth 100000 in
set_option maxHeartbeats 4000000 in
theorem edgeFans_early2 (s0 s1 s2 s3 s4 s5 m x y n : Int) (hs0 : -128 ≤ s0 ∧ s0 ≤ 127) (hs1 : -128 ≤ s1 ∧ s1 ≤ 127) (hs2 : -128 ≤ s2 ∧ s2 ≤ 127) (hs3 : -128 ≤ s3 ∧ s3 ≤ 127) (hs4 : -128 ≤ s4 ∧ s4 ≤ 127) (hs5 : -128 ≤ s5 ∧ s5 ≤ 127) (hm : -128 ≤ m ∧ m ≤ 127) (hx : -128 ≤ x ∧ x ≤ 127) (hy : -128 ≤ y ∧ y ≤ 127) (hn : -128 ≤ n ∧ n ≤ 127) (p0 : 0 < sd s2 s3 s4 s5 m n) (p1 : 0 < sd s4 s5 s0 s1 m n) (q2 : sd s0 s1 s2 s3 m n ≤ 0) (w : World) :
    Calls Try.prog 6 #[.agg #[.int .i8 s0, .int .i8 s1, .int .i8 s2, .int .i8 s3, .int .i8 s4, .int .i8 s5], .int .i8 m, .int .i8 x, .int .i8 y, .int .i8 n] w fun e w' => e = .returned (.bool true) ∧ Ext w w' := by
  have d0 : decide (sd s2 s3 s4 s5 m n ≤ 0) = false := by simpa using p0
  have d1 : decide (sd s4 s5 s0 s1 m n ≤ 0) = false := by simpa using p1
  have d2 : decide (sd s0 s1 s2 s3 m n ≤ 0) = true := by simpa using q2
  have hI := idxW
  have hE := eqP
  go_enter Try.func6, Try.ntmps6
  go_wp2_with fail
  with_reducible refine (awake3_any _).mono ?_
  rintro e w1 ⟨rfl, hx1⟩
  have S1 : Blk w1 w.heap.size #[.int .i8 s0, .int .i8 s1, .int .i8 s2, .int .i8 s3, .int .i8 s4, .int .i8 s5] 29 := (Blk.new w _ _).ext hx1
  have cS := S1.cell
  have e1 : Ext w w1 := ((Ext.refl w).alloc _ _).trans hx1
  clear hx1
  go_wp2_with fail
  refine (smallTri_any _ _ _ _ _ _ (by omega) (by omega) (by omega) (by omega) (by omega) (by omega) _).mono ?_
  rintro e w2 ⟨rfl, hx2⟩
  have e2 := e1.trans hx2
  clear e1 hx2 S1 cS
  go_wp2_with fail
  refine (weights_any _ _ _ _ _ _ _ _ (by omega) (by omega) (by omega) (by omega) (by omega) (by omega) (by omega) (by omega) _).mono ?_
  rintro e w3 ⟨rfl, hx3⟩
  have T3 : Blk w3 w2.heap.size #[.int .i64 s0, .int .i64 s1, .int .i64 s2, .int .i64 s3, .int .i64 s4, .int .i64 s5] 25 := ((Blk.new w2 _ _).alloc _).ext hx3
  have Q3 : Blk w3 (w2.heap.size + 1) #[.int .i64 m, .int .i64 n] 23 := (Blk.new' (by simp) _ _).ext hx3
  have e3 := ((e2.alloc _ _).alloc _ _).trans hx3
  clear hx3 e2
  generalize w2.heap.size = g at *
  clear w2
  go_wp2
  refine wp_loop_rounds 4 ?_
  rw [rounds_succ]
  go_wp2
  rw [rounds_succ]
  go_wp2
  rw [rounds_succ]
  go_wp2
  go_ret
  exact ⟨rfl, e3⟩

set_option maxRecDepth 100000 in
set_option maxHeartbeats 4000000 in
theorem edgeFans_k00 (s0 s1 s2 s3 s4 s5 m x y n : Int) (hs0 : -128 ≤ s0 ∧ s0 ≤ 127) (hs1 : -128 ≤ s1 ∧ s1 ≤ 127) (hs2 : -128 ≤ s2 ∧ s2 ≤ 127) (hs3 : -128 ≤ s3 ∧ s3 ≤ 127) (hs4 : -128 ≤ s4 ∧ s4 ≤ 127) (hs5 : -128 ≤ s5 ∧ s5 ≤ 127) (hm : -128 ≤ m ∧ m ≤ 127) (hx : -128 ≤ x ∧ x ≤ 127) (hy : -128 ≤ y ∧ y ≤ 127) (hn : -128 ≤ n ∧ n ≤ 127) (p0 : 0 < sd s2 s3 s4 s5 m n) (p1 : 0 < sd s4 s5 s0 s1 m n) (p2 : 0 < sd s0 s1 s2 s3 m n) (c0 : covB s0 s1 s2 s3 m n x y = true) (c1 : covB s2 s3 s4 s5 m n x y = false) (c2 : covB s4 s5 s0 s1 m n x y = false) (ct : covB s0 s1 s2 s3 s4 s5 x y = true) (hq : ¬ (x = m ∧ y = n)) (w : World) :
    Calls Try.prog 6 #[.agg #[.int .i8 s0, .int .i8 s1, .int .i8 s2, .int .i8 s3, .int .i8 s4, .int .i8 s5], .int .i8 m, .int .i8 x, .int .i8 y, .int .i8 n] w fun e w' => e = .returned (.bool true) ∧ Ext w w' := by
  have d0 : decide (sd s2 s3 s4 s5 m n ≤ 0) = false := by simpa using p0
  have d1 : decide (sd s4 s5 s0 s1 m n ≤ 0) = false := by simpa using p1
  have d2 : decide (sd s0 s1 s2 s3 m n ≤ 0) = false := by simpa using p2
  have q1 : (x == m && y == n) = false := by
    cases h1 : (x == m) <;> cases h2 : (y == n) <;> simp_all
  have hI := idxW
  have hE := eqP
  go_enter Try.func6, Try.ntmps6
  go_wp2_with fail
  with_reducible refine (awake3_any _).mono ?_
  rintro e w1 ⟨rfl, hx1⟩
  have S1 : Blk w1 w.heap.size #[.int .i8 s0, .int .i8 s1, .int .i8 s2, .int .i8 s3, .int .i8 s4, .int .i8 s5] 29 := (Blk.new w _ _).ext hx1
  have cS := S1.cell
  have e1 : Ext w w1 := ((Ext.refl w).alloc _ _).trans hx1
  clear hx1
  go_wp2_with fail
  refine (smallTri_any _ _ _ _ _ _ (by omega) (by omega) (by omega) (by omega) (by omega) (by omega) _).mono ?_
  rintro e w2 ⟨rfl, hx2⟩
  have e2 := e1.trans hx2
  clear e1 hx2 S1 cS
  go_wp2_with fail
  refine (weights_any _ _ _ _ _ _ _ _ (by omega) (by omega) (by omega) (by omega) (by omega) (by omega) (by omega) (by omega) _).mono ?_
  rintro e w3 ⟨rfl, hx3⟩
  have T3 : Blk w3 w2.heap.size #[.int .i64 s0, .int .i64 s1, .int .i64 s2, .int .i64 s3, .int .i64 s4, .int .i64 s5] 25 := ((Blk.new w2 _ _).alloc _).ext hx3
  have Q3 : Blk w3 (w2.heap.size + 1) #[.int .i64 m, .int .i64 n] 23 := (Blk.new' (by simp) _ _).ext hx3
  have e3 := ((e2.alloc _ _).alloc _ _).trans hx3
  clear hx3 e2
  generalize w2.heap.size = g at *
  clear w2
  go_wp2
  refine wp_loop_rounds 4 ?_
  rw [rounds_succ]
  go_wp2
  rw [rounds_succ]
  go_wp2
  rw [rounds_succ]
  go_wp2
  rw [rounds_succ]
  go_wp2
  have T4 := T3.alloc (.cells #[.int .i64 x, .int .i64 y] 23)
  have Q4 := Q3.alloc (.cells #[.int .i64 x, .int .i64 y] 23)
  have P4 : Blk (w3.alloc (.cells #[.int .i64 x, .int .i64 y] 23)) w3.heap.size #[.int .i64 x, .int .i64 y] 23 := Blk.new w3 _ _
  have e4 := e3.alloc #[.int .i64 x, .int .i64 y] 23
  clear T3 Q3 e3
  generalize w3.alloc (.cells #[.int .i64 x, .int .i64 y] 23) = w4 at *
  generalize w3.heap.size = g3 at *
  clear w3
  have cT4 := T4.cell
  have cQ4 := Q4.cell
  have cP4 := P4.cell
  refine wp_loop_rounds 4 ?_
  rw [rounds_succ]
  go_wp2
  apply wp_region_reads2 _ (by kernel_rfl) (by kernel_rfl)
  case H =>
    intro x' hx
    have hne : Nonempty (Wx x') := ⟨⟨x', Ext.refl x'⟩⟩
    have qT := fun (y : Wx x') => (T4.ext (hx.trans y.ext)).cell
    have qQ := fun (y : Wx x') => (Q4.ext (hx.trans y.ext)).cell
    have qP := fun (y : Wx x') => (P4.ext (hx.trans y.ext)).cell
    try simp only [List.append_eq, List.cons_append, List.nil_append]
    repeat (go_big_quiet_step ((go_at_call 16; exact calm_of (covers_any _ _ _ _ _ _ _ _ (by omega) (by omega) (by omega) (by omega) (by omega) (by omega) (by omega) (by omega) _))))
    exact wpQuiet_nil rfl
  intro w5 hx5
  have T5 := T4.ext hx5
  have cT5 := T5.cell
  have Q5 := Q4.ext hx5
  have cQ5 := Q5.cell
  have P5 := P4.ext hx5
  have cP5 := P5.cell
  clear T4 cT4 Q4 cQ4 P4 cP4
  have e5 := e4.trans hx5
  clear e4 hx5
  rw [c0]
  go_wp2
  rw [rounds_succ]
  go_wp2
  apply wp_region_reads2 _ (by kernel_rfl) (by kernel_rfl)
  case H =>
    intro x' hx
    have hne : Nonempty (Wx x') := ⟨⟨x', Ext.refl x'⟩⟩
    have qT := fun (y : Wx x') => (T5.ext (hx.trans y.ext)).cell
    have qQ := fun (y : Wx x') => (Q5.ext (hx.trans y.ext)).cell
    have qP := fun (y : Wx x') => (P5.ext (hx.trans y.ext)).cell
    try simp only [List.append_eq, List.cons_append, List.nil_append]
    repeat (go_big_quiet_step ((go_at_call 16; exact calm_of (covers_any _ _ _ _ _ _ _ _ (by omega) (by omega) (by omega) (by omega) (by omega) (by omega) (by omega) (by omega) _))))
    exact wpQuiet_nil rfl
  intro w6 hx6
  have T6 := T5.ext hx6
  have cT6 := T6.cell
  have Q6 := Q5.ext hx6
  have cQ6 := Q6.cell
  have P6 := P5.ext hx6
  have cP6 := P6.cell
  clear T5 cT5 Q5 cQ5 P5 cP5
  have e6 := e5.trans hx6
  clear e5 hx6
  rw [c1]
  go_wp2
  rw [rounds_succ]
  go_wp2
  apply wp_region_reads2 _ (by kernel_rfl) (by kernel_rfl)
  case H =>
    intro x' hx
    have hne : Nonempty (Wx x') := ⟨⟨x', Ext.refl x'⟩⟩
    have qT := fun (y : Wx x') => (T6.ext (hx.trans y.ext)).cell
    have qQ := fun (y : Wx x') => (Q6.ext (hx.trans y.ext)).cell
    have qP := fun (y : Wx x') => (P6.ext (hx.trans y.ext)).cell
    try simp only [List.append_eq, List.cons_append, List.nil_append]
    repeat (go_big_quiet_step ((go_at_call 16; exact calm_of (covers_any _ _ _ _ _ _ _ _ (by omega) (by omega) (by omega) (by omega) (by omega) (by omega) (by omega) (by omega) _))))
    exact wpQuiet_nil rfl
  intro w7 hx7
  have T7 := T6.ext hx7
  have cT7 := T7.cell
  have Q7 := Q6.ext hx7
  have cQ7 := Q7.cell
  have P7 := P6.ext hx7
  have cP7 := P7.cell
  clear T6 cT6 Q6 cQ6 P6 cP6
  have e7 := e6.trans hx7
  clear e6 hx7
  rw [c2]
  go_wp2
  rw [rounds_succ]
  go_wp2_with fail
  refine (covers_any _ _ _ _ _ _ _ _ (by omega) (by omega) (by omega) (by omega) (by omega) (by omega) (by omega) (by omega) _).mono ?_
  rintro e w8 ⟨rfl, hx8⟩
  rw [ct]
  go_wp2
  go_ret
  exact ⟨rfl, e7.trans hx8⟩

set_option maxRecDepth 100000 in
set_option maxHeartbeats 4000000 in
theorem edgeFans_k01 (s0 s1 s2 s3 s4 s5 m x y n : Int) (hs0 : -128 ≤ s0 ∧ s0 ≤ 127) (hs1 : -128 ≤ s1 ∧ s1 ≤ 127) (hs2 : -128 ≤ s2 ∧ s2 ≤ 127) (hs3 : -128 ≤ s3 ∧ s3 ≤ 127) (hs4 : -128 ≤ s4 ∧ s4 ≤ 127) (hs5 : -128 ≤ s5 ∧ s5 ≤ 127) (hm : -128 ≤ m ∧ m ≤ 127) (hx : -128 ≤ x ∧ x ≤ 127) (hy : -128 ≤ y ∧ y ≤ 127) (hn : -128 ≤ n ∧ n ≤ 127) (p0 : 0 < sd s2 s3 s4 s5 m n) (p1 : 0 < sd s4 s5 s0 s1 m n) (p2 : 0 < sd s0 s1 s2 s3 m n) (c0 : covB s0 s1 s2 s3 m n x y = true) (c1 : covB s2 s3 s4 s5 m n x y = false) (c2 : covB s4 s5 s0 s1 m n x y = false) (ct : covB s0 s1 s2 s3 s4 s5 x y = true) (hq : (x = m ∧ y = n)) (w : World) :
    Calls Try.prog 6 #[.agg #[.int .i8 s0, .int .i8 s1, .int .i8 s2, .int .i8 s3, .int .i8 s4, .int .i8 s5], .int .i8 m, .int .i8 x, .int .i8 y, .int .i8 n] w fun e w' => e = .returned (.bool true) ∧ Ext w w' := by
  have d0 : decide (sd s2 s3 s4 s5 m n ≤ 0) = false := by simpa using p0
  have d1 : decide (sd s4 s5 s0 s1 m n ≤ 0) = false := by simpa using p1
  have d2 : decide (sd s0 s1 s2 s3 m n ≤ 0) = false := by simpa using p2
  have q1 : (x == m) = true := by simpa using hq.1
  have q2 : (y == n) = true := by simpa using hq.2
  clear hq
  have hI := idxW
  have hE := eqP
  go_enter Try.func6, Try.ntmps6
  go_wp2_with fail
  with_reducible refine (awake3_any _).mono ?_
  rintro e w1 ⟨rfl, hx1⟩
  have S1 : Blk w1 w.heap.size #[.int .i8 s0, .int .i8 s1, .int .i8 s2, .int .i8 s3, .int .i8 s4, .int .i8 s5] 29 := (Blk.new w _ _).ext hx1
  have cS := S1.cell
  have e1 : Ext w w1 := ((Ext.refl w).alloc _ _).trans hx1
  clear hx1
  go_wp2_with fail
  refine (smallTri_any _ _ _ _ _ _ (by omega) (by omega) (by omega) (by omega) (by omega) (by omega) _).mono ?_
  rintro e w2 ⟨rfl, hx2⟩
  have e2 := e1.trans hx2
  clear e1 hx2 S1 cS
  go_wp2_with fail
  refine (weights_any _ _ _ _ _ _ _ _ (by omega) (by omega) (by omega) (by omega) (by omega) (by omega) (by omega) (by omega) _).mono ?_
  rintro e w3 ⟨rfl, hx3⟩
  have T3 : Blk w3 w2.heap.size #[.int .i64 s0, .int .i64 s1, .int .i64 s2, .int .i64 s3, .int .i64 s4, .int .i64 s5] 25 := ((Blk.new w2 _ _).alloc _).ext hx3
  have Q3 : Blk w3 (w2.heap.size + 1) #[.int .i64 m, .int .i64 n] 23 := (Blk.new' (by simp) _ _).ext hx3
  have e3 := ((e2.alloc _ _).alloc _ _).trans hx3
  clear hx3 e2
  generalize w2.heap.size = g at *
  clear w2
  go_wp2
  refine wp_loop_rounds 4 ?_
  rw [rounds_succ]
  go_wp2
  rw [rounds_succ]
  go_wp2
  rw [rounds_succ]
  go_wp2
  rw [rounds_succ]
  go_wp2
  have T4 := T3.alloc (.cells #[.int .i64 x, .int .i64 y] 23)
  have Q4 := Q3.alloc (.cells #[.int .i64 x, .int .i64 y] 23)
  have P4 : Blk (w3.alloc (.cells #[.int .i64 x, .int .i64 y] 23)) w3.heap.size #[.int .i64 x, .int .i64 y] 23 := Blk.new w3 _ _
  have e4 := e3.alloc #[.int .i64 x, .int .i64 y] 23
  clear T3 Q3 e3
  generalize w3.alloc (.cells #[.int .i64 x, .int .i64 y] 23) = w4 at *
  generalize w3.heap.size = g3 at *
  clear w3
  have cT4 := T4.cell
  have cQ4 := Q4.cell
  have cP4 := P4.cell
  refine wp_loop_rounds 4 ?_
  rw [rounds_succ]
  go_wp2
  apply wp_region_reads2 _ (by kernel_rfl) (by kernel_rfl)
  case H =>
    intro x' hx
    have hne : Nonempty (Wx x') := ⟨⟨x', Ext.refl x'⟩⟩
    have qT := fun (y : Wx x') => (T4.ext (hx.trans y.ext)).cell
    have qQ := fun (y : Wx x') => (Q4.ext (hx.trans y.ext)).cell
    have qP := fun (y : Wx x') => (P4.ext (hx.trans y.ext)).cell
    try simp only [List.append_eq, List.cons_append, List.nil_append]
    repeat (go_big_quiet_step ((go_at_call 16; exact calm_of (covers_any _ _ _ _ _ _ _ _ (by omega) (by omega) (by omega) (by omega) (by omega) (by omega) (by omega) (by omega) _))))
    exact wpQuiet_nil rfl
  intro w5 hx5
  have T5 := T4.ext hx5
  have cT5 := T5.cell
  have Q5 := Q4.ext hx5
  have cQ5 := Q5.cell
  have P5 := P4.ext hx5
  have cP5 := P5.cell
  clear T4 cT4 Q4 cQ4 P4 cP4
  have e5 := e4.trans hx5
  clear e4 hx5
  rw [c0]
  go_wp2
  rw [rounds_succ]
  go_wp2
  apply wp_region_reads2 _ (by kernel_rfl) (by kernel_rfl)
  case H =>
    intro x' hx
    have hne : Nonempty (Wx x') := ⟨⟨x', Ext.refl x'⟩⟩
    have qT := fun (y : Wx x') => (T5.ext (hx.trans y.ext)).cell
    have qQ := fun (y : Wx x') => (Q5.ext (hx.trans y.ext)).cell
    have qP := fun (y : Wx x') => (P5.ext (hx.trans y.ext)).cell
    try simp only [List.append_eq, List.cons_append, List.nil_append]
    repeat (go_big_quiet_step ((go_at_call 16; exact calm_of (covers_any _ _ _ _ _ _ _ _ (by omega) (by omega) (by omega) (by omega) (by omega) (by omega) (by omega) (by omega) _))))
    exact wpQuiet_nil rfl
  intro w6 hx6
  have T6 := T5.ext hx6
  have cT6 := T6.cell
  have Q6 := Q5.ext hx6
  have cQ6 := Q6.cell
  have P6 := P5.ext hx6
  have cP6 := P6.cell
  clear T5 cT5 Q5 cQ5 P5 cP5
  have e6 := e5.trans hx6
  clear e5 hx6
  rw [c1]
  go_wp2
  rw [rounds_succ]
  go_wp2
  apply wp_region_reads2 _ (by kernel_rfl) (by kernel_rfl)
  case H =>
    intro x' hx
    have hne : Nonempty (Wx x') := ⟨⟨x', Ext.refl x'⟩⟩
    have qT := fun (y : Wx x') => (T6.ext (hx.trans y.ext)).cell
    have qQ := fun (y : Wx x') => (Q6.ext (hx.trans y.ext)).cell
    have qP := fun (y : Wx x') => (P6.ext (hx.trans y.ext)).cell
    try simp only [List.append_eq, List.cons_append, List.nil_append]
    repeat (go_big_quiet_step ((go_at_call 16; exact calm_of (covers_any _ _ _ _ _ _ _ _ (by omega) (by omega) (by omega) (by omega) (by omega) (by omega) (by omega) (by omega) _))))
    exact wpQuiet_nil rfl
  intro w7 hx7
  have T7 := T6.ext hx7
  have cT7 := T7.cell
  have Q7 := Q6.ext hx7
  have cQ7 := Q7.cell
  have P7 := P6.ext hx7
  have cP7 := P7.cell
  clear T6 cT6 Q6 cQ6 P6 cP6
  have e7 := e6.trans hx7
  clear e6 hx7
  rw [c2]
  go_wp2
  rw [rounds_succ]
  go_wp2
  go_ret
  exact ⟨rfl, e7⟩

set_option maxRecDepth 100000 in
set_option maxHeartbeats 4000000 in
theorem edgeFans_k10 (s0 s1 s2 s3 s4 s5 m x y n : Int) (hs0 : -128 ≤ s0 ∧ s0 ≤ 127) (hs1 : -128 ≤ s1 ∧ s1 ≤ 127) (hs2 : -128 ≤ s2 ∧ s2 ≤ 127) (hs3 : -128 ≤ s3 ∧ s3 ≤ 127) (hs4 : -128 ≤ s4 ∧ s4 ≤ 127) (hs5 : -128 ≤ s5 ∧ s5 ≤ 127) (hm : -128 ≤ m ∧ m ≤ 127) (hx : -128 ≤ x ∧ x ≤ 127) (hy : -128 ≤ y ∧ y ≤ 127) (hn : -128 ≤ n ∧ n ≤ 127) (p0 : 0 < sd s2 s3 s4 s5 m n) (p1 : 0 < sd s4 s5 s0 s1 m n) (p2 : 0 < sd s0 s1 s2 s3 m n) (c0 : covB s0 s1 s2 s3 m n x y = false) (c1 : covB s2 s3 s4 s5 m n x y = true) (c2 : covB s4 s5 s0 s1 m n x y = false) (ct : covB s0 s1 s2 s3 s4 s5 x y = true) (hq : ¬ (x = m ∧ y = n)) (w : World) :
    Calls Try.prog 6 #[.agg #[.int .i8 s0, .int .i8 s1, .int .i8 s2, .int .i8 s3, .int .i8 s4, .int .i8 s5], .int .i8 m, .int .i8 x, .int .i8 y, .int .i8 n] w fun e w' => e = .returned (.bool true) ∧ Ext w w' := by
  have d0 : decide (sd s2 s3 s4 s5 m n ≤ 0) = false := by simpa using p0
  have d1 : decide (sd s4 s5 s0 s1 m n ≤ 0) = false := by simpa using p1
  have d2 : decide (sd s0 s1 s2 s3 m n ≤ 0) = false := by simpa using p2
  have q1 : (x == m && y == n) = false := by
    cases h1 : (x == m) <;> cases h2 : (y == n) <;> simp_all
  have hI := idxW
  have hE := eqP
  go_enter Try.func6, Try.ntmps6
  go_wp2_with fail
  with_reducible refine (awake3_any _).mono ?_
  rintro e w1 ⟨rfl, hx1⟩
  have S1 : Blk w1 w.heap.size #[.int .i8 s0, .int .i8 s1, .int .i8 s2, .int .i8 s3, .int .i8 s4, .int .i8 s5] 29 := (Blk.new w _ _).ext hx1
  have cS := S1.cell
  have e1 : Ext w w1 := ((Ext.refl w).alloc _ _).trans hx1
  clear hx1
  go_wp2_with fail
  refine (smallTri_any _ _ _ _ _ _ (by omega) (by omega) (by omega) (by omega) (by omega) (by omega) _).mono ?_
  rintro e w2 ⟨rfl, hx2⟩
  have e2 := e1.trans hx2
  clear e1 hx2 S1 cS
  go_wp2_with fail
  refine (weights_any _ _ _ _ _ _ _ _ (by omega) (by omega) (by omega) (by omega) (by omega) (by omega) (by omega) (by omega) _).mono ?_
  rintro e w3 ⟨rfl, hx3⟩
  have T3 : Blk w3 w2.heap.size #[.int .i64 s0, .int .i64 s1, .int .i64 s2, .int .i64 s3, .int .i64 s4, .int .i64 s5] 25 := ((Blk.new w2 _ _).alloc _).ext hx3
  have Q3 : Blk w3 (w2.heap.size + 1) #[.int .i64 m, .int .i64 n] 23 := (Blk.new' (by simp) _ _).ext hx3
  have e3 := ((e2.alloc _ _).alloc _ _).trans hx3
  clear hx3 e2
  generalize w2.heap.size = g at *
  clear w2
  go_wp2
  refine wp_loop_rounds 4 ?_
  rw [rounds_succ]
  go_wp2
  rw [rounds_succ]
  go_wp2
  rw [rounds_succ]
  go_wp2
  rw [rounds_succ]
  go_wp2
  have T4 := T3.alloc (.cells #[.int .i64 x, .int .i64 y] 23)
  have Q4 := Q3.alloc (.cells #[.int .i64 x, .int .i64 y] 23)
  have P4 : Blk (w3.alloc (.cells #[.int .i64 x, .int .i64 y] 23)) w3.heap.size #[.int .i64 x, .int .i64 y] 23 := Blk.new w3 _ _
  have e4 := e3.alloc #[.int .i64 x, .int .i64 y] 23
  clear T3 Q3 e3
  generalize w3.alloc (.cells #[.int .i64 x, .int .i64 y] 23) = w4 at *
  generalize w3.heap.size = g3 at *
  clear w3
  have cT4 := T4.cell
  have cQ4 := Q4.cell
  have cP4 := P4.cell
  refine wp_loop_rounds 4 ?_
  rw [rounds_succ]
  go_wp2
  apply wp_region_reads2 _ (by kernel_rfl) (by kernel_rfl)
  case H =>
    intro x' hx
    have hne : Nonempty (Wx x') := ⟨⟨x', Ext.refl x'⟩⟩
    have qT := fun (y : Wx x') => (T4.ext (hx.trans y.ext)).cell
    have qQ := fun (y : Wx x') => (Q4.ext (hx.trans y.ext)).cell
    have qP := fun (y : Wx x') => (P4.ext (hx.trans y.ext)).cell
    try simp only [List.append_eq, List.cons_append, List.nil_append]
    repeat (go_big_quiet_step ((go_at_call 16; exact calm_of (covers_any _ _ _ _ _ _ _ _ (by omega) (by omega) (by omega) (by omega) (by omega) (by omega) (by omega) (by omega) _))))
    exact wpQuiet_nil rfl
  intro w5 hx5
  have T5 := T4.ext hx5
  have cT5 := T5.cell
  have Q5 := Q4.ext hx5
  have cQ5 := Q5.cell
  have P5 := P4.ext hx5
  have cP5 := P5.cell
  clear T4 cT4 Q4 cQ4 P4 cP4
  have e5 := e4.trans hx5
  clear e4 hx5
  rw [c0]
  go_wp2
  rw [rounds_succ]
  go_wp2
  apply wp_region_reads2 _ (by kernel_rfl) (by kernel_rfl)
  case H =>
    intro x' hx
    have hne : Nonempty (Wx x') := ⟨⟨x', Ext.refl x'⟩⟩
    have qT := fun (y : Wx x') => (T5.ext (hx.trans y.ext)).cell
    have qQ := fun (y : Wx x') => (Q5.ext (hx.trans y.ext)).cell
    have qP := fun (y : Wx x') => (P5.ext (hx.trans y.ext)).cell
    try simp only [List.append_eq, List.cons_append, List.nil_append]
    repeat (go_big_quiet_step ((go_at_call 16; exact calm_of (covers_any _ _ _ _ _ _ _ _ (by omega) (by omega) (by omega) (by omega) (by omega) (by omega) (by omega) (by omega) _))))
    exact wpQuiet_nil rfl
  intro w6 hx6
  have T6 := T5.ext hx6
  have cT6 := T6.cell
  have Q6 := Q5.ext hx6
  have cQ6 := Q6.cell
  have P6 := P5.ext hx6
  have cP6 := P6.cell
  clear T5 cT5 Q5 cQ5 P5 cP5
  have e6 := e5.trans hx6
  clear e5 hx6
  rw [c1]
  go_wp2
  rw [rounds_succ]
  go_wp2
  apply wp_region_reads2 _ (by kernel_rfl) (by kernel_rfl)
  case H =>
    intro x' hx
    have hne : Nonempty (Wx x') := ⟨⟨x', Ext.refl x'⟩⟩
    have qT := fun (y : Wx x') => (T6.ext (hx.trans y.ext)).cell
    have qQ := fun (y : Wx x') => (Q6.ext (hx.trans y.ext)).cell
    have qP := fun (y : Wx x') => (P6.ext (hx.trans y.ext)).cell
    try simp only [List.append_eq, List.cons_append, List.nil_append]
    repeat (go_big_quiet_step ((go_at_call 16; exact calm_of (covers_any _ _ _ _ _ _ _ _ (by omega) (by omega) (by omega) (by omega) (by omega) (by omega) (by omega) (by omega) _))))
    exact wpQuiet_nil rfl
  intro w7 hx7
  have T7 := T6.ext hx7
  have cT7 := T7.cell
  have Q7 := Q6.ext hx7
  have cQ7 := Q7.cell
  have P7 := P6.ext hx7
  have cP7 := P7.cell
  clear T6 cT6 Q6 cQ6 P6 cP6
  have e7 := e6.trans hx7
  clear e6 hx7
  rw [c2]
  go_wp2
  rw [rounds_succ]
  go_wp2_with fail
  refine (covers_any _ _ _ _ _ _ _ _ (by omega) (by omega) (by omega) (by omega) (by omega) (by omega) (by omega) (by omega) _).mono ?_
  rintro e w8 ⟨rfl, hx8⟩
  rw [ct]
  go_wp2
  go_ret
  exact ⟨rfl, e7.trans hx8⟩

set_option maxRecDepth 100000 in
set_option maxHeartbeats 4000000 in
theorem edgeFans_k11 (s0 s1 s2 s3 s4 s5 m x y n : Int) (hs0 : -128 ≤ s0 ∧ s0 ≤ 127) (hs1 : -128 ≤ s1 ∧ s1 ≤ 127) (hs2 : -128 ≤ s2 ∧ s2 ≤ 127) (hs3 : -128 ≤ s3 ∧ s3 ≤ 127) (hs4 : -128 ≤ s4 ∧ s4 ≤ 127) (hs5 : -128 ≤ s5 ∧ s5 ≤ 127) (hm : -128 ≤ m ∧ m ≤ 127) (hx : -128 ≤ x ∧ x ≤ 127) (hy : -128 ≤ y ∧ y ≤ 127) (hn : -128 ≤ n ∧ n ≤ 127) (p0 : 0 < sd s2 s3 s4 s5 m n) (p1 : 0 < sd s4 s5 s0 s1 m n) (p2 : 0 < sd s0 s1 s2 s3 m n) (c0 : covB s0 s1 s2 s3 m n x y = false) (c1 : covB s2 s3 s4 s5 m n x y = true) (c2 : covB s4 s5 s0 s1 m n x y = false) (ct : covB s0 s1 s2 s3 s4 s5 x y = true) (hq : (x = m ∧ y = n)) (w : World) :
    Calls Try.prog 6 #[.agg #[.int .i8 s0, .int .i8 s1, .int .i8 s2, .int .i8 s3, .int .i8 s4, .int .i8 s5], .int .i8 m, .int .i8 x, .int .i8 y, .int .i8 n] w fun e w' => e = .returned (.bool true) ∧ Ext w w' := by
  have d0 : decide (sd s2 s3 s4 s5 m n ≤ 0) = false := by simpa using p0
  have d1 : decide (sd s4 s5 s0 s1 m n ≤ 0) = false := by simpa using p1
  have d2 : decide (sd s0 s1 s2 s3 m n ≤ 0) = false := by simpa using p2
  have q1 : (x == m) = true := by simpa using hq.1
  have q2 : (y == n) = true := by simpa using hq.2
  clear hq
  have hI := idxW
  have hE := eqP
  go_enter Try.func6, Try.ntmps6
  go_wp2_with fail
  with_reducible refine (awake3_any _).mono ?_
  rintro e w1 ⟨rfl, hx1⟩
  have S1 : Blk w1 w.heap.size #[.int .i8 s0, .int .i8 s1, .int .i8 s2, .int .i8 s3, .int .i8 s4, .int .i8 s5] 29 := (Blk.new w _ _).ext hx1
  have cS := S1.cell
  have e1 : Ext w w1 := ((Ext.refl w).alloc _ _).trans hx1
  clear hx1
  go_wp2_with fail
  refine (smallTri_any _ _ _ _ _ _ (by omega) (by omega) (by omega) (by omega) (by omega) (by omega) _).mono ?_
  rintro e w2 ⟨rfl, hx2⟩
  have e2 := e1.trans hx2
  clear e1 hx2 S1 cS
  go_wp2_with fail
  refine (weights_any _ _ _ _ _ _ _ _ (by omega) (by omega) (by omega) (by omega) (by omega) (by omega) (by omega) (by omega) _).mono ?_
  rintro e w3 ⟨rfl, hx3⟩
  have T3 : Blk w3 w2.heap.size #[.int .i64 s0, .int .i64 s1, .int .i64 s2, .int .i64 s3, .int .i64 s4, .int .i64 s5] 25 := ((Blk.new w2 _ _).alloc _).ext hx3
  have Q3 : Blk w3 (w2.heap.size + 1) #[.int .i64 m, .int .i64 n] 23 := (Blk.new' (by simp) _ _).ext hx3
  have e3 := ((e2.alloc _ _).alloc _ _).trans hx3
  clear hx3 e2
  generalize w2.heap.size = g at *
  clear w2
  go_wp2
  refine wp_loop_rounds 4 ?_
  rw [rounds_succ]
  go_wp2
  rw [rounds_succ]
  go_wp2
  rw [rounds_succ]
  go_wp2
  rw [rounds_succ]
  go_wp2
  have T4 := T3.alloc (.cells #[.int .i64 x, .int .i64 y] 23)
  have Q4 := Q3.alloc (.cells #[.int .i64 x, .int .i64 y] 23)
  have P4 : Blk (w3.alloc (.cells #[.int .i64 x, .int .i64 y] 23)) w3.heap.size #[.int .i64 x, .int .i64 y] 23 := Blk.new w3 _ _
  have e4 := e3.alloc #[.int .i64 x, .int .i64 y] 23
  clear T3 Q3 e3
  generalize w3.alloc (.cells #[.int .i64 x, .int .i64 y] 23) = w4 at *
  generalize w3.heap.size = g3 at *
  clear w3
  have cT4 := T4.cell
  have cQ4 := Q4.cell
  have cP4 := P4.cell
  refine wp_loop_rounds 4 ?_
  rw [rounds_succ]
  go_wp2
  apply wp_region_reads2 _ (by kernel_rfl) (by kernel_rfl)
  case H =>
    intro x' hx
    have hne : Nonempty (Wx x') := ⟨⟨x', Ext.refl x'⟩⟩
    have qT := fun (y : Wx x') => (T4.ext (hx.trans y.ext)).cell
    have qQ := fun (y : Wx x') => (Q4.ext (hx.trans y.ext)).cell
    have qP := fun (y : Wx x') => (P4.ext (hx.trans y.ext)).cell
    try simp only [List.append_eq, List.cons_append, List.nil_append]
    repeat (go_big_quiet_step ((go_at_call 16; exact calm_of (covers_any _ _ _ _ _ _ _ _ (by omega) (by omega) (by omega) (by omega) (by omega) (by omega) (by omega) (by omega) _))))
    exact wpQuiet_nil rfl
  intro w5 hx5
  have T5 := T4.ext hx5
  have cT5 := T5.cell
  have Q5 := Q4.ext hx5
  have cQ5 := Q5.cell
  have P5 := P4.ext hx5
  have cP5 := P5.cell
  clear T4 cT4 Q4 cQ4 P4 cP4
  have e5 := e4.trans hx5
  clear e4 hx5
  rw [c0]
  go_wp2
  rw [rounds_succ]
  go_wp2
  apply wp_region_reads2 _ (by kernel_rfl) (by kernel_rfl)
  case H =>
    intro x' hx
    have hne : Nonempty (Wx x') := ⟨⟨x', Ext.refl x'⟩⟩
    have qT := fun (y : Wx x') => (T5.ext (hx.trans y.ext)).cell
    have qQ := fun (y : Wx x') => (Q5.ext (hx.trans y.ext)).cell
    have qP := fun (y : Wx x') => (P5.ext (hx.trans y.ext)).cell
    try simp only [List.append_eq, List.cons_append, List.nil_append]
    repeat (go_big_quiet_step ((go_at_call 16; exact calm_of (covers_any _ _ _ _ _ _ _ _ (by omega) (by omega) (by omega) (by omega) (by omega) (by omega) (by omega) (by omega) _))))
    exact wpQuiet_nil rfl
  intro w6 hx6
  have T6 := T5.ext hx6
  have cT6 := T6.cell
  have Q6 := Q5.ext hx6
  have cQ6 := Q6.cell
  have P6 := P5.ext hx6
  have cP6 := P6.cell
  clear T5 cT5 Q5 cQ5 P5 cP5
  have e6 := e5.trans hx6
  clear e5 hx6
  rw [c1]
  go_wp2
  rw [rounds_succ]
  go_wp2
  apply wp_region_reads2 _ (by kernel_rfl) (by kernel_rfl)
  case H =>
    intro x' hx
    have hne : Nonempty (Wx x') := ⟨⟨x', Ext.refl x'⟩⟩
    have qT := fun (y : Wx x') => (T6.ext (hx.trans y.ext)).cell
    have qQ := fun (y : Wx x') => (Q6.ext (hx.trans y.ext)).cell
    have qP := fun (y : Wx x') => (P6.ext (hx.trans y.ext)).cell
    try simp only [List.append_eq, List.cons_append, List.nil_append]
    repeat (go_big_quiet_step ((go_at_call 16; exact calm_of (covers_any _ _ _ _ _ _ _ _ (by omega) (by omega) (by omega) (by omega) (by omega) (by omega) (by omega) (by omega) _))))
    exact wpQuiet_nil rfl
  intro w7 hx7
  have T7 := T6.ext hx7
  have cT7 := T7.cell
  have Q7 := Q6.ext hx7
  have cQ7 := Q7.cell
  have P7 := P6.ext hx7
  have cP7 := P7.cell
  clear T6 cT6 Q6 cQ6 P6 cP6
  have e7 := e6.trans hx7
  clear e6 hx7
  rw [c2]
  go_wp2
  rw [rounds_succ]
  go_wp2
  go_ret
  exact ⟨rfl, e7⟩

set_option maxRecDepth 100000 in
set_option maxHeartbeats 4000000 in
theorem edgeFans_k20 (s0 s1 s2 s3 s4 s5 m x y n : Int) (hs0 : -128 ≤ s0 ∧ s0 ≤ 127) (hs1 : -128 ≤ s1 ∧ s1 ≤ 127) (hs2 : -128 ≤ s2 ∧ s2 ≤ 127) (hs3 : -128 ≤ s3 ∧ s3 ≤ 127) (hs4 : -128 ≤ s4 ∧ s4 ≤ 127) (hs5 : -128 ≤ s5 ∧ s5 ≤ 127) (hm : -128 ≤ m ∧ m ≤ 127) (hx : -128 ≤ x ∧ x ≤ 127) (hy : -128 ≤ y ∧ y ≤ 127) (hn : -128 ≤ n ∧ n ≤ 127) (p0 : 0 < sd s2 s3 s4 s5 m n) (p1 : 0 < sd s4 s5 s0 s1 m n) (p2 : 0 < sd s0 s1 s2 s3 m n) (c0 : covB s0 s1 s2 s3 m n x y = false) (c1 : covB s2 s3 s4 s5 m n x y = false) (c2 : covB s4 s5 s0 s1 m n x y = true) (ct : covB s0 s1 s2 s3 s4 s5 x y = true) (hq : ¬ (x = m ∧ y = n)) (w : World) :
    Calls Try.prog 6 #[.agg #[.int .i8 s0, .int .i8 s1, .int .i8 s2, .int .i8 s3, .int .i8 s4, .int .i8 s5], .int .i8 m, .int .i8 x, .int .i8 y, .int .i8 n] w fun e w' => e = .returned (.bool true) ∧ Ext w w' := by
  have d0 : decide (sd s2 s3 s4 s5 m n ≤ 0) = false := by simpa using p0
  have d1 : decide (sd s4 s5 s0 s1 m n ≤ 0) = false := by simpa using p1
  have d2 : decide (sd s0 s1 s2 s3 m n ≤ 0) = false := by simpa using p2
  have q1 : (x == m && y == n) = false := by
    cases h1 : (x == m) <;> cases h2 : (y == n) <;> simp_all
  have hI := idxW
  have hE := eqP
  go_enter Try.func6, Try.ntmps6
  go_wp2_with fail
  with_reducible refine (awake3_any _).mono ?_
  rintro e w1 ⟨rfl, hx1⟩
  have S1 : Blk w1 w.heap.size #[.int .i8 s0, .int .i8 s1, .int .i8 s2, .int .i8 s3, .int .i8 s4, .int .i8 s5] 29 := (Blk.new w _ _).ext hx1
  have cS := S1.cell
  have e1 : Ext w w1 := ((Ext.refl w).alloc _ _).trans hx1
  clear hx1
  go_wp2_with fail
  refine (smallTri_any _ _ _ _ _ _ (by omega) (by omega) (by omega) (by omega) (by omega) (by omega) _).mono ?_
  rintro e w2 ⟨rfl, hx2⟩
  have e2 := e1.trans hx2
  clear e1 hx2 S1 cS
  go_wp2_with fail
  refine (weights_any _ _ _ _ _ _ _ _ (by omega) (by omega) (by omega) (by omega) (by omega) (by omega) (by omega) (by omega) _).mono ?_
  rintro e w3 ⟨rfl, hx3⟩
  have T3 : Blk w3 w2.heap.size #[.int .i64 s0, .int .i64 s1, .int .i64 s2, .int .i64 s3, .int .i64 s4, .int .i64 s5] 25 := ((Blk.new w2 _ _).alloc _).ext hx3
  have Q3 : Blk w3 (w2.heap.size + 1) #[.int .i64 m, .int .i64 n] 23 := (Blk.new' (by simp) _ _).ext hx3
  have e3 := ((e2.alloc _ _).alloc _ _).trans hx3
  clear hx3 e2
  generalize w2.heap.size = g at *
  clear w2
  go_wp2
  refine wp_loop_rounds 4 ?_
  rw [rounds_succ]
  go_wp2
  rw [rounds_succ]
  go_wp2
  rw [rounds_succ]
  go_wp2
  rw [rounds_succ]
  go_wp2
  have T4 := T3.alloc (.cells #[.int .i64 x, .int .i64 y] 23)
  have Q4 := Q3.alloc (.cells #[.int .i64 x, .int .i64 y] 23)
  have P4 : Blk (w3.alloc (.cells #[.int .i64 x, .int .i64 y] 23)) w3.heap.size #[.int .i64 x, .int .i64 y] 23 := Blk.new w3 _ _
  have e4 := e3.alloc #[.int .i64 x, .int .i64 y] 23
  clear T3 Q3 e3
  generalize w3.alloc (.cells #[.int .i64 x, .int .i64 y] 23) = w4 at *
  generalize w3.heap.size = g3 at *
  clear w3
  have cT4 := T4.cell
  have cQ4 := Q4.cell
  have cP4 := P4.cell
  refine wp_loop_rounds 4 ?_
  rw [rounds_succ]
  go_wp2
  apply wp_region_reads2 _ (by kernel_rfl) (by kernel_rfl)
  case H =>
    intro x' hx
    have hne : Nonempty (Wx x') := ⟨⟨x', Ext.refl x'⟩⟩
    have qT := fun (y : Wx x') => (T4.ext (hx.trans y.ext)).cell
    have qQ := fun (y : Wx x') => (Q4.ext (hx.trans y.ext)).cell
    have qP := fun (y : Wx x') => (P4.ext (hx.trans y.ext)).cell
    try simp only [List.append_eq, List.cons_append, List.nil_append]
    repeat (go_big_quiet_step ((go_at_call 16; exact calm_of (covers_any _ _ _ _ _ _ _ _ (by omega) (by omega) (by omega) (by omega) (by omega) (by omega) (by omega) (by omega) _))))
    exact wpQuiet_nil rfl
  intro w5 hx5
  have T5 := T4.ext hx5
  have cT5 := T5.cell
  have Q5 := Q4.ext hx5
  have cQ5 := Q5.cell
  have P5 := P4.ext hx5
  have cP5 := P5.cell
  clear T4 cT4 Q4 cQ4 P4 cP4
  have e5 := e4.trans hx5
  clear e4 hx5
  rw [c0]
  go_wp2
  rw [rounds_succ]
  go_wp2
  apply wp_region_reads2 _ (by kernel_rfl) (by kernel_rfl)
  case H =>
    intro x' hx
    have hne : Nonempty (Wx x') := ⟨⟨x', Ext.refl x'⟩⟩
    have qT := fun (y : Wx x') => (T5.ext (hx.trans y.ext)).cell
    have qQ := fun (y : Wx x') => (Q5.ext (hx.trans y.ext)).cell
    have qP := fun (y : Wx x') => (P5.ext (hx.trans y.ext)).cell
    try simp only [List.append_eq, List.cons_append, List.nil_append]
    repeat (go_big_quiet_step ((go_at_call 16; exact calm_of (covers_any _ _ _ _ _ _ _ _ (by omega) (by omega) (by omega) (by omega) (by omega) (by omega) (by omega) (by omega) _))))
    exact wpQuiet_nil rfl
  intro w6 hx6
  have T6 := T5.ext hx6
  have cT6 := T6.cell
  have Q6 := Q5.ext hx6
  have cQ6 := Q6.cell
  have P6 := P5.ext hx6
  have cP6 := P6.cell
  clear T5 cT5 Q5 cQ5 P5 cP5
  have e6 := e5.trans hx6
  clear e5 hx6
  rw [c1]
  go_wp2
  rw [rounds_succ]
  go_wp2
  apply wp_region_reads2 _ (by kernel_rfl) (by kernel_rfl)
  case H =>
    intro x' hx
    have hne : Nonempty (Wx x') := ⟨⟨x', Ext.refl x'⟩⟩
    have qT := fun (y : Wx x') => (T6.ext (hx.trans y.ext)).cell
    have qQ := fun (y : Wx x') => (Q6.ext (hx.trans y.ext)).cell
    have qP := fun (y : Wx x') => (P6.ext (hx.trans y.ext)).cell
    try simp only [List.append_eq, List.cons_append, List.nil_append]
    repeat (go_big_quiet_step ((go_at_call 16; exact calm_of (covers_any _ _ _ _ _ _ _ _ (by omega) (by omega) (by omega) (by omega) (by omega) (by omega) (by omega) (by omega) _))))
    exact wpQuiet_nil rfl
  intro w7 hx7
  have T7 := T6.ext hx7
  have cT7 := T7.cell
  have Q7 := Q6.ext hx7
  have cQ7 := Q7.cell
  have P7 := P6.ext hx7
  have cP7 := P7.cell
  clear T6 cT6 Q6 cQ6 P6 cP6
  have e7 := e6.trans hx7
  clear e6 hx7
  rw [c2]
  go_wp2
  rw [rounds_succ]
  go_wp2_with fail
  refine (covers_any _ _ _ _ _ _ _ _ (by omega) (by omega) (by omega) (by omega) (by omega) (by omega) (by omega) (by omega) _).mono ?_
  rintro e w8 ⟨rfl, hx8⟩
  rw [ct]
  go_wp2
  go_ret
  exact ⟨rfl, e7.trans hx8⟩

set_option maxRecDepth 100000 in
set_option maxHeartbeats 4000000 in
theorem edgeFans_k21 (s0 s1 s2 s3 s4 s5 m x y n : Int) (hs0 : -128 ≤ s0 ∧ s0 ≤ 127) (hs1 : -128 ≤ s1 ∧ s1 ≤ 127) (hs2 : -128 ≤ s2 ∧ s2 ≤ 127) (hs3 : -128 ≤ s3 ∧ s3 ≤ 127) (hs4 : -128 ≤ s4 ∧ s4 ≤ 127) (hs5 : -128 ≤ s5 ∧ s5 ≤ 127) (hm : -128 ≤ m ∧ m ≤ 127) (hx : -128 ≤ x ∧ x ≤ 127) (hy : -128 ≤ y ∧ y ≤ 127) (hn : -128 ≤ n ∧ n ≤ 127) (p0 : 0 < sd s2 s3 s4 s5 m n) (p1 : 0 < sd s4 s5 s0 s1 m n) (p2 : 0 < sd s0 s1 s2 s3 m n) (c0 : covB s0 s1 s2 s3 m n x y = false) (c1 : covB s2 s3 s4 s5 m n x y = false) (c2 : covB s4 s5 s0 s1 m n x y = true) (ct : covB s0 s1 s2 s3 s4 s5 x y = true) (hq : (x = m ∧ y = n)) (w : World) :
    Calls Try.prog 6 #[.agg #[.int .i8 s0, .int .i8 s1, .int .i8 s2, .int .i8 s3, .int .i8 s4, .int .i8 s5], .int .i8 m, .int .i8 x, .int .i8 y, .int .i8 n] w fun e w' => e = .returned (.bool true) ∧ Ext w w' := by
  have d0 : decide (sd s2 s3 s4 s5 m n ≤ 0) = false := by simpa using p0
  have d1 : decide (sd s4 s5 s0 s1 m n ≤ 0) = false := by simpa using p1
  have d2 : decide (sd s0 s1 s2 s3 m n ≤ 0) = false := by simpa using p2
  have q1 : (x == m) = true := by simpa using hq.1
  have q2 : (y == n) = true := by simpa using hq.2
  clear hq
  have hI := idxW
  have hE := eqP
  go_enter Try.func6, Try.ntmps6
  go_wp2_with fail
  with_reducible refine (awake3_any _).mono ?_
  rintro e w1 ⟨rfl, hx1⟩
  have S1 : Blk w1 w.heap.size #[.int .i8 s0, .int .i8 s1, .int .i8 s2, .int .i8 s3, .int .i8 s4, .int .i8 s5] 29 := (Blk.new w _ _).ext hx1
  have cS := S1.cell
  have e1 : Ext w w1 := ((Ext.refl w).alloc _ _).trans hx1
  clear hx1
  go_wp2_with fail
  refine (smallTri_any _ _ _ _ _ _ (by omega) (by omega) (by omega) (by omega) (by omega) (by omega) _).mono ?_
  rintro e w2 ⟨rfl, hx2⟩
  have e2 := e1.trans hx2
  clear e1 hx2 S1 cS
  go_wp2_with fail
  refine (weights_any _ _ _ _ _ _ _ _ (by omega) (by omega) (by omega) (by omega) (by omega) (by omega) (by omega) (by omega) _).mono ?_
  rintro e w3 ⟨rfl, hx3⟩
  have T3 : Blk w3 w2.heap.size #[.int .i64 s0, .int .i64 s1, .int .i64 s2, .int .i64 s3, .int .i64 s4, .int .i64 s5] 25 := ((Blk.new w2 _ _).alloc _).ext hx3
  have Q3 : Blk w3 (w2.heap.size + 1) #[.int .i64 m, .int .i64 n] 23 := (Blk.new' (by simp) _ _).ext hx3
  have e3 := ((e2.alloc _ _).alloc _ _).trans hx3
  clear hx3 e2
  generalize w2.heap.size = g at *
  clear w2
  go_wp2
  refine wp_loop_rounds 4 ?_
  rw [rounds_succ]
  go_wp2
  rw [rounds_succ]
  go_wp2
  rw [rounds_succ]
  go_wp2
  rw [rounds_succ]
  go_wp2
  have T4 := T3.alloc (.cells #[.int .i64 x, .int .i64 y] 23)
  have Q4 := Q3.alloc (.cells #[.int .i64 x, .int .i64 y] 23)
  have P4 : Blk (w3.alloc (.cells #[.int .i64 x, .int .i64 y] 23)) w3.heap.size #[.int .i64 x, .int .i64 y] 23 := Blk.new w3 _ _
  have e4 := e3.alloc #[.int .i64 x, .int .i64 y] 23
  clear T3 Q3 e3
  generalize w3.alloc (.cells #[.int .i64 x, .int .i64 y] 23) = w4 at *
  generalize w3.heap.size = g3 at *
  clear w3
  have cT4 := T4.cell
  have cQ4 := Q4.cell
  have cP4 := P4.cell
  refine wp_loop_rounds 4 ?_
  rw [rounds_succ]
  go_wp2
  apply wp_region_reads2 _ (by kernel_rfl) (by kernel_rfl)
  case H =>
    intro x' hx
    have hne : Nonempty (Wx x') := ⟨⟨x', Ext.refl x'⟩⟩
    have qT := fun (y : Wx x') => (T4.ext (hx.trans y.ext)).cell
    have qQ := fun (y : Wx x') => (Q4.ext (hx.trans y.ext)).cell
    have qP := fun (y : Wx x') => (P4.ext (hx.trans y.ext)).cell
    try simp only [List.append_eq, List.cons_append, List.nil_append]
    repeat (go_big_quiet_step ((go_at_call 16; exact calm_of (covers_any _ _ _ _ _ _ _ _ (by omega) (by omega) (by omega) (by omega) (by omega) (by omega) (by omega) (by omega) _))))
    exact wpQuiet_nil rfl
  intro w5 hx5
  have T5 := T4.ext hx5
  have cT5 := T5.cell
  have Q5 := Q4.ext hx5
  have cQ5 := Q5.cell
  have P5 := P4.ext hx5
  have cP5 := P5.cell
  clear T4 cT4 Q4 cQ4 P4 cP4
  have e5 := e4.trans hx5
  clear e4 hx5
  rw [c0]
  go_wp2
  rw [rounds_succ]
  go_wp2
  apply wp_region_reads2 _ (by kernel_rfl) (by kernel_rfl)
  case H =>
    intro x' hx
    have hne : Nonempty (Wx x') := ⟨⟨x', Ext.refl x'⟩⟩
    have qT := fun (y : Wx x') => (T5.ext (hx.trans y.ext)).cell
    have qQ := fun (y : Wx x') => (Q5.ext (hx.trans y.ext)).cell
    have qP := fun (y : Wx x') => (P5.ext (hx.trans y.ext)).cell
    try simp only [List.append_eq, List.cons_append, List.nil_append]
    repeat (go_big_quiet_step ((go_at_call 16; exact calm_of (covers_any _ _ _ _ _ _ _ _ (by omega) (by omega) (by omega) (by omega) (by omega) (by omega) (by omega) (by omega) _))))
    exact wpQuiet_nil rfl
  intro w6 hx6
  have T6 := T5.ext hx6
  have cT6 := T6.cell
  have Q6 := Q5.ext hx6
  have cQ6 := Q6.cell
  have P6 := P5.ext hx6
  have cP6 := P6.cell
  clear T5 cT5 Q5 cQ5 P5 cP5
  have e6 := e5.trans hx6
  clear e5 hx6
  rw [c1]
  go_wp2
  rw [rounds_succ]
  go_wp2
  apply wp_region_reads2 _ (by kernel_rfl) (by kernel_rfl)
  case H =>
    intro x' hx
    have hne : Nonempty (Wx x') := ⟨⟨x', Ext.refl x'⟩⟩
    have qT := fun (y : Wx x') => (T6.ext (hx.trans y.ext)).cell
    have qQ := fun (y : Wx x') => (Q6.ext (hx.trans y.ext)).cell
    have qP := fun (y : Wx x') => (P6.ext (hx.trans y.ext)).cell
    try simp only [List.append_eq, List.cons_append, List.nil_append]
    repeat (go_big_quiet_step ((go_at_call 16; exact calm_of (covers_any _ _ _ _ _ _ _ _ (by omega) (by omega) (by omega) (by omega) (by omega) (by omega) (by omega) (by omega) _))))
    exact wpQuiet_nil rfl
  intro w7 hx7
  have T7 := T6.ext hx7
  have cT7 := T7.cell
  have Q7 := Q6.ext hx7
  have cQ7 := Q7.cell
  have P7 := P6.ext hx7
  have cP7 := P7.cell
  clear T6 cT6 Q6 cQ6 P6 cP6
  have e7 := e6.trans hx7
  clear e6 hx7
  rw [c2]
  go_wp2
  rw [rounds_succ]
  go_wp2
  go_ret
  exact ⟨rfl, e7⟩

set_option maxRecDepth 100000 in
set_option maxHeartbeats 4000000 in
theorem edgeFans_k30 (s0 s1 s2 s3 s4 s5 m x y n : Int) (hs0 : -128 ≤ s0 ∧ s0 ≤ 127) (hs1 : -128 ≤ s1 ∧ s1 ≤ 127) (hs2 : -128 ≤ s2 ∧ s2 ≤ 127) (hs3 : -128 ≤ s3 ∧ s3 ≤ 127) (hs4 : -128 ≤ s4 ∧ s4 ≤ 127) (hs5 : -128 ≤ s5 ∧ s5 ≤ 127) (hm : -128 ≤ m ∧ m ≤ 127) (hx : -128 ≤ x ∧ x ≤ 127) (hy : -128 ≤ y ∧ y ≤ 127) (hn : -128 ≤ n ∧ n ≤ 127) (p0 : 0 < sd s2 s3 s4 s5 m n) (p1 : 0 < sd s4 s5 s0 s1 m n) (p2 : 0 < sd s0 s1 s2 s3 m n) (c0 : covB s0 s1 s2 s3 m n x y = false) (c1 : covB s2 s3 s4 s5 m n x y = false) (c2 : covB s4 s5 s0 s1 m n x y = false) (ct : covB s0 s1 s2 s3 s4 s5 x y = false) (hq : ¬ (x = m ∧ y = n)) (w : World) :
    Calls Try.prog 6 #[.agg #[.int .i8 s0, .int .i8 s1, .int .i8 s2, .int .i8 s3, .int .i8 s4, .int .i8 s5], .int .i8 m, .int .i8 x, .int .i8 y, .int .i8 n] w fun e w' => e = .returned (.bool true) ∧ Ext w w' := by
  have d0 : decide (sd s2 s3 s4 s5 m n ≤ 0) = false := by simpa using p0
  have d1 : decide (sd s4 s5 s0 s1 m n ≤ 0) = false := by simpa using p1
  have d2 : decide (sd s0 s1 s2 s3 m n ≤ 0) = false := by simpa using p2
  have q1 : (x == m && y == n) = false := by
    cases h1 : (x == m) <;> cases h2 : (y == n) <;> simp_all
  have hI := idxW
  have hE := eqP
  go_enter Try.func6, Try.ntmps6
  go_wp2_with fail
  with_reducible refine (awake3_any _).mono ?_
  rintro e w1 ⟨rfl, hx1⟩
  have S1 : Blk w1 w.heap.size #[.int .i8 s0, .int .i8 s1, .int .i8 s2, .int .i8 s3, .int .i8 s4, .int .i8 s5] 29 := (Blk.new w _ _).ext hx1
  have cS := S1.cell
  have e1 : Ext w w1 := ((Ext.refl w).alloc _ _).trans hx1
  clear hx1
  go_wp2_with fail
  refine (smallTri_any _ _ _ _ _ _ (by omega) (by omega) (by omega) (by omega) (by omega) (by omega) _).mono ?_
  rintro e w2 ⟨rfl, hx2⟩
  have e2 := e1.trans hx2
  clear e1 hx2 S1 cS
  go_wp2_with fail
  refine (weights_any _ _ _ _ _ _ _ _ (by omega) (by omega) (by omega) (by omega) (by omega) (by omega) (by omega) (by omega) _).mono ?_
  rintro e w3 ⟨rfl, hx3⟩
  have T3 : Blk w3 w2.heap.size #[.int .i64 s0, .int .i64 s1, .int .i64 s2, .int .i64 s3, .int .i64 s4, .int .i64 s5] 25 := ((Blk.new w2 _ _).alloc _).ext hx3
  have Q3 : Blk w3 (w2.heap.size + 1) #[.int .i64 m, .int .i64 n] 23 := (Blk.new' (by simp) _ _).ext hx3
  have e3 := ((e2.alloc _ _).alloc _ _).trans hx3
  clear hx3 e2
  generalize w2.heap.size = g at *
  clear w2
  go_wp2
  refine wp_loop_rounds 4 ?_
  rw [rounds_succ]
  go_wp2
  rw [rounds_succ]
  go_wp2
  rw [rounds_succ]
  go_wp2
  rw [rounds_succ]
  go_wp2
  have T4 := T3.alloc (.cells #[.int .i64 x, .int .i64 y] 23)
  have Q4 := Q3.alloc (.cells #[.int .i64 x, .int .i64 y] 23)
  have P4 : Blk (w3.alloc (.cells #[.int .i64 x, .int .i64 y] 23)) w3.heap.size #[.int .i64 x, .int .i64 y] 23 := Blk.new w3 _ _
  have e4 := e3.alloc #[.int .i64 x, .int .i64 y] 23
  clear T3 Q3 e3
  generalize w3.alloc (.cells #[.int .i64 x, .int .i64 y] 23) = w4 at *
  generalize w3.heap.size = g3 at *
  clear w3
  have cT4 := T4.cell
  have cQ4 := Q4.cell
  have cP4 := P4.cell
  refine wp_loop_rounds 4 ?_
  rw [rounds_succ]
  go_wp2
  apply wp_region_reads2 _ (by kernel_rfl) (by kernel_rfl)
  case H =>
    intro x' hx
    have hne : Nonempty (Wx x') := ⟨⟨x', Ext.refl x'⟩⟩
    have qT := fun (y : Wx x') => (T4.ext (hx.trans y.ext)).cell
    have qQ := fun (y : Wx x') => (Q4.ext (hx.trans y.ext)).cell
    have qP := fun (y : Wx x') => (P4.ext (hx.trans y.ext)).cell
    try simp only [List.append_eq, List.cons_append, List.nil_append]
    repeat (go_big_quiet_step ((go_at_call 16; exact calm_of (covers_any _ _ _ _ _ _ _ _ (by omega) (by omega) (by omega) (by omega) (by omega) (by omega) (by omega) (by omega) _))))
    exact wpQuiet_nil rfl
  intro w5 hx5
  have T5 := T4.ext hx5
  have cT5 := T5.cell
  have Q5 := Q4.ext hx5
  have cQ5 := Q5.cell
  have P5 := P4.ext hx5
  have cP5 := P5.cell
  clear T4 cT4 Q4 cQ4 P4 cP4
  have e5 := e4.trans hx5
  clear e4 hx5
  rw [c0]
  go_wp2
  rw [rounds_succ]
  go_wp2
  apply wp_region_reads2 _ (by kernel_rfl) (by kernel_rfl)
  case H =>
    intro x' hx
    have hne : Nonempty (Wx x') := ⟨⟨x', Ext.refl x'⟩⟩
    have qT := fun (y : Wx x') => (T5.ext (hx.trans y.ext)).cell
    have qQ := fun (y : Wx x') => (Q5.ext (hx.trans y.ext)).cell
    have qP := fun (y : Wx x') => (P5.ext (hx.trans y.ext)).cell
    try simp only [List.append_eq, List.cons_append, List.nil_append]
    repeat (go_big_quiet_step ((go_at_call 16; exact calm_of (covers_any _ _ _ _ _ _ _ _ (by omega) (by omega) (by omega) (by omega) (by omega) (by omega) (by omega) (by omega) _))))
    exact wpQuiet_nil rfl
  intro w6 hx6
  have T6 := T5.ext hx6
  have cT6 := T6.cell
  have Q6 := Q5.ext hx6
  have cQ6 := Q6.cell
  have P6 := P5.ext hx6
  have cP6 := P6.cell
  clear T5 cT5 Q5 cQ5 P5 cP5
  have e6 := e5.trans hx6
  clear e5 hx6
  rw [c1]
  go_wp2
  rw [rounds_succ]
  go_wp2
  apply wp_region_reads2 _ (by kernel_rfl) (by kernel_rfl)
  case H =>
    intro x' hx
    have hne : Nonempty (Wx x') := ⟨⟨x', Ext.refl x'⟩⟩
    have qT := fun (y : Wx x') => (T6.ext (hx.trans y.ext)).cell
    have qQ := fun (y : Wx x') => (Q6.ext (hx.trans y.ext)).cell
    have qP := fun (y : Wx x') => (P6.ext (hx.trans y.ext)).cell
    try simp only [List.append_eq, List.cons_append, List.nil_append]
    repeat (go_big_quiet_step ((go_at_call 16; exact calm_of (covers_any _ _ _ _ _ _ _ _ (by omega) (by omega) (by omega) (by omega) (by omega) (by omega) (by omega) (by omega) _))))
    exact wpQuiet_nil rfl
  intro w7 hx7
  have T7 := T6.ext hx7
  have cT7 := T7.cell
  have Q7 := Q6.ext hx7
  have cQ7 := Q7.cell
  have P7 := P6.ext hx7
  have cP7 := P7.cell
  clear T6 cT6 Q6 cQ6 P6 cP6
  have e7 := e6.trans hx7
  clear e6 hx7
  rw [c2]
  go_wp2
  rw [rounds_succ]
  go_wp2_with fail
  refine (covers_any _ _ _ _ _ _ _ _ (by omega) (by omega) (by omega) (by omega) (by omega) (by omega) (by omega) (by omega) _).mono ?_
  rintro e w8 ⟨rfl, hx8⟩
  rw [ct]
  go_wp2
  go_ret
  exact ⟨rfl, e7.trans hx8⟩

theorem edgeFans_row (s0 s1 s2 s3 s4 s5 m x y n : Int) (hs0 : -128 ≤ s0 ∧ s0 ≤ 127) (hs1 : -128 ≤ s1 ∧ s1 ≤ 127) (hs2 : -128 ≤ s2 ∧ s2 ≤ 127) (hs3 : -128 ≤ s3 ∧ s3 ≤ 127) (hs4 : -128 ≤ s4 ∧ s4 ≤ 127) (hs5 : -128 ≤ s5 ∧ s5 ≤ 127) (hm : -128 ≤ m ∧ m ≤ 127) (hx : -128 ≤ x ∧ x ≤ 127) (hy : -128 ≤ y ∧ y ≤ 127) (hn : -128 ≤ n ∧ n ≤ 127)  (w : World) :
    Calls Try.prog 6 #[.agg #[.int .i8 s0, .int .i8 s1, .int .i8 s2, .int .i8 s3, .int .i8 s4, .int .i8 s5], .int .i8 m, .int .i8 x, .int .i8 y, .int .i8 n] w fun e w' => e = .returned (.bool true) ∧ Ext w w' := by
  by_cases p0 : 0 < sd s2 s3 s4 s5 m n
  · by_cases p1 : 0 < sd s4 s5 s0 s1 m n
    · by_cases p2 : 0 < sd s0 s1 s2 s3 m n
      · have hf := fansB (x := x) (y := y) hs0 hs1 hs2 hs3 hs4 hs5 hm hn p0 p1 p2
        by_cases hq : x = m ∧ y = n
        · have ht : covB s0 s1 s2 s3 s4 s5 x y = true := by rw [hq.1, hq.2]; exact covers_in p0 p1 p2
          rcases hf with ⟨ct, c0, c1, c2⟩ | ⟨ct, c0, c1, c2⟩ | ⟨ct, c0, c1, c2⟩ | ⟨ct, _⟩
          · exact edgeFans_k01 _ _ _ _ _ _ _ _ _ _ hs0 hs1 hs2 hs3 hs4 hs5 hm hx hy hn p0 p1 p2 c0 c1 c2 ct hq w
          · exact edgeFans_k11 _ _ _ _ _ _ _ _ _ _ hs0 hs1 hs2 hs3 hs4 hs5 hm hx hy hn p0 p1 p2 c0 c1 c2 ct hq w
          · exact edgeFans_k21 _ _ _ _ _ _ _ _ _ _ hs0 hs1 hs2 hs3 hs4 hs5 hm hx hy hn p0 p1 p2 c0 c1 c2 ct hq w
          · rw [ht] at ct; cases ct
        · rcases hf with ⟨ct, c0, c1, c2⟩ | ⟨ct, c0, c1, c2⟩ | ⟨ct, c0, c1, c2⟩ | ⟨ct, c0, c1, c2⟩
          · exact edgeFans_k00 _ _ _ _ _ _ _ _ _ _ hs0 hs1 hs2 hs3 hs4 hs5 hm hx hy hn p0 p1 p2 c0 c1 c2 ct hq w
          · exact edgeFans_k10 _ _ _ _ _ _ _ _ _ _ hs0 hs1 hs2 hs3 hs4 hs5 hm hx hy hn p0 p1 p2 c0 c1 c2 ct hq w
          · exact edgeFans_k20 _ _ _ _ _ _ _ _ _ _ hs0 hs1 hs2 hs3 hs4 hs5 hm hx hy hn p0 p1 p2 c0 c1 c2 ct hq w
          · exact edgeFans_k30 _ _ _ _ _ _ _ _ _ _ hs0 hs1 hs2 hs3 hs4 hs5 hm hx hy hn p0 p1 p2 c0 c1 c2 ct hq w
      · exact edgeFans_early2 _ _ _ _ _ _ _ _ _ _ hs0 hs1 hs2 hs3 hs4 hs5 hm hx hy hn p0 p1 (by omega) w
    · exact edgeFans_early1 _ _ _ _ _ _ _ _ _ _ hs0 hs1 hs2 hs3 hs4 hs5 hm hx hy hn p0 (by omega) w
  · exact edgeFans_early0 _ _ _ _ _ _ _ _ _ _ hs0 hs1 hs2 hs3 hs4 hs5 hm hx hy hn (by omega) w

end Go.Proofs.Ytbhgebflknafbaa
