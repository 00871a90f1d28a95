/-
  DERIVED. The walk of the law EdgeSides: it returns true, whatever the numbers.
-/
import Derived.Test.YtbhgebflknafbaaEdgeSidesRound
namespace Go.Proofs.Ytbhgebflknafbaa
open Go.RowKit
set_option linter.unusedVariables false

set_option maxRecDepth 100000 in
set_option maxHeartbeats 8000000 in
theorem edgeSides_row (t0 t1 t2 t3 t4 t5 s0 s1 s2 s3 s4 s5 p0 p1 x y : Int) (ht0 : -9223372036854775808 ≤ t0 ∧ t0 ≤ 9223372036854775807) (ht1 : -9223372036854775808 ≤ t1 ∧ t1 ≤ 9223372036854775807) (ht2 : -9223372036854775808 ≤ t2 ∧ t2 ≤ 9223372036854775807) (ht3 : -9223372036854775808 ≤ t3 ∧ t3 ≤ 9223372036854775807) (ht4 : -9223372036854775808 ≤ t4 ∧ t4 ≤ 9223372036854775807) (ht5 : -9223372036854775808 ≤ t5 ∧ t5 ≤ 9223372036854775807) (hs0 : -128 ≤ s0 ∧ s0 ≤ 127) (hs1 : -128 ≤ s1 ∧ s1 ≤ 127) (hs2 : -128 ≤ s2 ∧ s2 ≤ 127) (hs3 : -128 ≤ s3 ∧ s3 ≤ 127) (hs4 : -128 ≤ s4 ∧ s4 ≤ 127) (hs5 : -128 ≤ s5 ∧ s5 ≤ 127) (hp0 : -9223372036854775808 ≤ p0 ∧ p0 ≤ 9223372036854775807) (hp1 : -9223372036854775808 ≤ p1 ∧ p1 ≤ 9223372036854775807) (hx : -128 ≤ x ∧ x ≤ 127) (hy : -128 ≤ y ∧ y ≤ 127) (w : World) :
    Calls Try.prog 3 #[.agg #[.int .i64 t0, .int .i64 t1, .int .i64 t2, .int .i64 t3, .int .i64 t4, .int .i64 t5], .agg #[.int .i8 s0, .int .i8 s1, .int .i8 s2, .int .i8 s3, .int .i8 s4, .int .i8 s5], .agg #[.int .i64 p0, .int .i64 p1], .int .i8 x, .int .i8 y] w fun e w' => e = .returned (.bool true) ∧ Ext w w' := by
  have hwx : IntKind.i64.wrap x = x := by simp [IntKind.wrap, IntKind.bits, IntKind.signed]; omega
  have hwy : IntKind.i64.wrap y = y := by simp [IntKind.wrap, IntKind.bits, IntKind.signed]; omega
  go_enter Try.func3, Try.ntmps3
  go_wp2_with fail
  with_reducible refine (awake3_any _).mono ?_
  rintro e w1 ⟨rfl, hx1⟩
  have A1 : Blk w1 w.heap.size #[.int .i64 t0, .int .i64 t1, .int .i64 t2, .int .i64 t3, .int .i64 t4, .int .i64 t5] 25 := (((Blk.new w _ _).alloc _).alloc _).ext hx1
  have S1 : Blk w1 (w.heap.size + 1) #[.int .i8 s0, .int .i8 s1, .int .i8 s2, .int .i8 s3, .int .i8 s4, .int .i8 s5] 29 := ((Blk.new' (by simp) _ _).alloc _).ext hx1
  have P1 : Blk w1 (w.heap.size + 1 + 1) #[.int .i64 p0, .int .i64 p1] 23 := (Blk.new' (by simp) _ _).ext hx1
  have e1 : Ext w w1 := Ext.trans ((((Ext.refl w).alloc _ _).alloc _ _).alloc _ _) hx1
  clear hx1
  have cA1 := A1.cell
  have cS1 := S1.cell
  have cP1 := P1.cell
  go_upto_region 3 with fail
  go_cut [36, 37, 38] (fun v n z wx => ∃ g, v = .slice (some ⟨g, 0, none⟩) 2 2 ∧ n = .int .i64 2 ∧ z = .int .i64 0 ∧ Blk wx g #[.int .i64 t0, .int .i64 t1, .int .i64 t2, .int .i64 t3, .int .i64 t4, .int .i64 t5, .int .i64 p0, .int .i64 p1, .int .i64 s0, .int .i64 s1, .int .i64 s2, .int .i64 s3, .int .i64 s4, .int .i64 s5, .int .i64 x, .int .i64 y] 31 ∧ Ext w wx)
  case first =>
    go_region_held3 (fun w' => w'.cell? ⟨w.heap.size, 0, none⟩ = some (.int .i64 t0) ∧ w'.cell? ⟨w.heap.size, 1, none⟩ = some (.int .i64 t1) ∧ w'.cell? ⟨w.heap.size, 2, none⟩ = some (.int .i64 t2) ∧ w'.cell? ⟨w.heap.size, 3, none⟩ = some (.int .i64 t3) ∧ w'.cell? ⟨w.heap.size, 4, none⟩ = some (.int .i64 t4) ∧ w'.cell? ⟨w.heap.size, 5, none⟩ = some (.int .i64 t5) ∧ w'.cell? ⟨w.heap.size + 1, 0, none⟩ = some (.int .i8 s0) ∧ w'.cell? ⟨w.heap.size + 1, 1, none⟩ = some (.int .i8 s1) ∧ w'.cell? ⟨w.heap.size + 1, 2, none⟩ = some (.int .i8 s2) ∧ w'.cell? ⟨w.heap.size + 1, 3, none⟩ = some (.int .i8 s3) ∧ w'.cell? ⟨w.heap.size + 1, 4, none⟩ = some (.int .i8 s4) ∧ w'.cell? ⟨w.heap.size + 1, 5, none⟩ = some (.int .i8 s5) ∧ w'.cell? ⟨w.heap.size + 1 + 1, 0, none⟩ = some (.int .i64 p0) ∧ w'.cell? ⟨w.heap.size + 1 + 1, 1, none⟩ = some (.int .i64 p1)) (simp [go_sem, World.cell?_alloc_lt, *]) ((go_at_call 10; refine (smallTri_any _ _ _ _ _ _ (by omega) (by omega) (by omega) (by omega) (by omega) (by omega) _).mono ?_; rintro e w2 ⟨rfl, hx2⟩; have A2 := Blk.ext (w' := w2) (by exact A1) hx2; have S2 := Blk.ext (w' := w2) (by exact S1) hx2; have P2 := Blk.ext (w' := w2) (by exact P1) hx2; have cA2 := A2.cell; have cS2 := S2.cell; have cP2 := P2.cell; have zA := A2.lt; have zS := S2.lt; have zP := P2.lt))
    have e2 : Ext w w2 := by first | exact e1.trans hx2 | exact e1.drew.trans hx2 | exact (e1.drewN _).trans hx2
    go_wp2
    go_meet
    exact ⟨_, rfl, rfl, rfl, Blk.new w2 _ _, e2.alloc _ _⟩
  obtain ⟨g, rfl, rfl, rfl, L2, e2⟩ := hcut
  clear A1 S1 P1 cA1 cS1 cP1 e1
  generalize wc = w2 at *
  have cL2 := L2.cell
  go_wp2
  refine wp_loop_rounds 3 ?_
  rw [rounds_succ]
  go_upto_block 1 with fail
  refine sides_round _ _ _ _ _ _ _ _ _ _ _ _ _ _ _ _ _ _ _ _ _ _ _ _ _ _ _ _ _ _ _ _ _ _ _ _ _ _ _ _ _ _ _ _ _ _ _ _ _ _ _ _ _ _ _ _ _ _ _ _ _ _ _ _ _ _ _ _ _ _ _ _ _ _ _ _ _ _ _ _ _ _ _ _ _ _ _ _ _ _ _ _ _ _ _ _ _ _ _ _ _ _ _ _ _ _ _ _ _ _ _ _ _ _ _ _ _ _ _ _ _ _ _ _ _ _ _ _ _ _ _ _ _ _ _ _ _ _ _ _ _ _ _ _ _ _ _ _ _ _ _ _ _ _ _ _ _ _ _ _ _ _ _ _ _ _ _ _ _ _ _ _ _ _ _ _ _ _ _ _ _ _ _ _ _ _ _ _ _ _ _ _ _ _ _ _ _ _ _ _ _ _ _ _ _ _ _ _ _ _ _ _ _ _ _ _ _ _ _ _ _ _ _ _ _ _ _ _ _ _ _ _ _ _ _ _ _ _ _ _ _ _ _ _ _ _ _ _ _ _ _ _ _ _ _ _ _ _ _ _ _ _ _ _ _ _ _ _ _ _ _ _ _ _ _ _ _ _ g 0 t0 t1 t2 t3 t4 t5 p0 p1 s0 s1 s2 s3 s4 s5 x y t0 t1 t2 t3 t4 t5 p0 p1 (by omega) (by omega) (by omega) (by omega) (by omega) (by omega) (by omega) (by omega) _ L2 (.inl ⟨rfl, rfl, rfl, rfl, rfl, rfl, rfl, rfl, rfl⟩) (fun _ _ _ _ _ _ _ _ _ _ _ _ _ _ _ _ _ _ _ _ _ _ _ _ _ _ _ _ _ _ _ _ _ _ _ _ _ _ _ _ _ _ _ _ _ _ _ _ _ _ _ _ _ _ _ _ _ _ _ _ _ _ _ _ _ _ _ _ _ _ _ _ _ _ _ _ _ _ _ _ _ _ _ _ _ _ _ _ _ _ _ _ _ _ _ _ _ _ _ _ _ _ _ _ _ _ _ _ _ _ _ _ _ _ _ _ _ _ _ _ _ _ _ _ _ _ _ _ _ _ _ _ _ _ _ _ _ _ _ _ _ _ _ _ _ _ _ _ _ _ _ _ _ _ _ _ _ _ _ _ _ _ _ _ _ _ _ _ _ _ _ _ _ _ _ _ _ _ _ _ _ _ _ _ _ _ _ _ _ _ _ _ _ _ _ _ _ _ _ _ _ _ _ _ _ _ _ _ _ _ _ _ _ _ _ _ _ _ _ _ _ _ _ _ _ _ _ _ _ _ _ _ _ _ _ _ _ _ _ _ _ _ _ _ _ _ _ _ _ _ _ _ w3 hx3 => ?_)
  have L3 := L2.ext hx3
  have cL3 := L3.cell
  clear L2 cL2
  have e3 := e2.trans hx3
  clear e2 hx3
  go_wp2
  rw [rounds_succ]
  go_upto_block 1 with fail
  refine sides_round _ _ _ _ _ _ _ _ _ _ _ _ _ _ _ _ _ _ _ _ _ _ _ _ _ _ _ _ _ _ _ _ _ _ _ _ _ _ _ _ _ _ _ _ _ _ _ _ _ _ _ _ _ _ _ _ _ _ _ _ _ _ _ _ _ _ _ _ _ _ _ _ _ _ _ _ _ _ _ _ _ _ _ _ _ _ _ _ _ _ _ _ _ _ _ _ _ _ _ _ _ _ _ _ _ _ _ _ _ _ _ _ _ _ _ _ _ _ _ _ _ _ _ _ _ _ _ _ _ _ _ _ _ _ _ _ _ _ _ _ _ _ _ _ _ _ _ _ _ _ _ _ _ _ _ _ _ _ _ _ _ _ _ _ _ _ _ _ _ _ _ _ _ _ _ _ _ _ _ _ _ _ _ _ _ _ _ _ _ _ _ _ _ _ _ _ _ _ _ _ _ _ _ _ _ _ _ _ _ _ _ _ _ _ _ _ _ _ _ _ _ _ _ _ _ _ _ _ _ _ _ _ _ _ _ _ _ _ _ _ _ _ _ _ _ _ _ _ _ _ _ _ _ _ _ _ _ _ _ _ _ _ _ _ _ _ _ _ _ _ _ _ _ _ _ _ _ _ g 1 t0 t1 t2 t3 t4 t5 p0 p1 s0 s1 s2 s3 s4 s5 x y s0 s1 s2 s3 s4 s5 x y (by omega) (by omega) (by omega) (by omega) (by omega) (by omega) (by omega) (by omega) _ L3 (.inr ⟨rfl, rfl, rfl, rfl, rfl, rfl, rfl, rfl, rfl⟩) (fun _ _ _ _ _ _ _ _ _ _ _ _ _ _ _ _ _ _ _ _ _ _ _ _ _ _ _ _ _ _ _ _ _ _ _ _ _ _ _ _ _ _ _ _ _ _ _ _ _ _ _ _ _ _ _ _ _ _ _ _ _ _ _ _ _ _ _ _ _ _ _ _ _ _ _ _ _ _ _ _ _ _ _ _ _ _ _ _ _ _ _ _ _ _ _ _ _ _ _ _ _ _ _ _ _ _ _ _ _ _ _ _ _ _ _ _ _ _ _ _ _ _ _ _ _ _ _ _ _ _ _ _ _ _ _ _ _ _ _ _ _ _ _ _ _ _ _ _ _ _ _ _ _ _ _ _ _ _ _ _ _ _ _ _ _ _ _ _ _ _ _ _ _ _ _ _ _ _ _ _ _ _ _ _ _ _ _ _ _ _ _ _ _ _ _ _ _ _ _ _ _ _ _ _ _ _ _ _ _ _ _ _ _ _ _ _ _ _ _ _ _ _ _ _ _ _ _ _ _ _ _ _ _ _ _ _ _ _ _ _ _ _ _ _ _ _ _ _ _ _ _ _ w4 hx4 => ?_)
  have L4 := L3.ext hx4
  have cL4 := L4.cell
  clear L3 cL3
  have e4 := e3.trans hx4
  clear e3 hx4
  go_wp2
  rw [rounds_succ]
  go_wp2
  go_ret
  exact ⟨rfl, e4⟩
end Go.Proofs.Ytbhgebflknafbaa
