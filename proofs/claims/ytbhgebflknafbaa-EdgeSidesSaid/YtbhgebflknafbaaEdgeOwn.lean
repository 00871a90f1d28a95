/-
  DERIVED. The functions of the laws of layer 3 themselves: Awake, Small.Tri, ref.
-/
import Derived.Test.YtbhgebflknafbaaEdgeWalks
namespace Go.Proofs.Ytbhgebflknafbaa
open Go.RowKit
set_option linter.unusedVariables false

theorem idxS (x0 x1 y0 y1 z0 z1 : Value) (w : World) :
    (Instr.index 29 (.agg #[x0, x1, y0, y1, z0, z1]) (.int .i64 0)).run Try.prog w = .ok (.agg #[x0, x1]) w ∧
    (Instr.index 29 (.agg #[x0, x1, y0, y1, z0, z1]) (.int .i64 1)).run Try.prog w = .ok (.agg #[y0, y1]) w ∧
    (Instr.index 29 (.agg #[x0, x1, y0, y1, z0, z1]) (.int .i64 2)).run Try.prog w = .ok (.agg #[z0, z1]) w := by
  refine ⟨?_, ?_, ?_⟩ <;> simp [Instr.index, asIntOf, run_underlying Try.underlying29, go_sem, part]
set_option maxRecDepth 100000 in
set_option maxHeartbeats 800000 in
theorem smallTri_any (s0 s1 s2 s3 s4 s5 : Int) (hs0 : -128 ≤ s0 ∧ s0 ≤ 127) (hs1 : -128 ≤ s1 ∧ s1 ≤ 127) (hs2 : -128 ≤ s2 ∧ s2 ≤ 127) (hs3 : -128 ≤ s3 ∧ s3 ≤ 127) (hs4 : -128 ≤ s4 ∧ s4 ≤ 127) (hs5 : -128 ≤ s5 ∧ s5 ≤ 127) (w : World) :
    Calls Try.prog 10 #[.agg #[.int .i8 s0, .int .i8 s1, .int .i8 s2, .int .i8 s3, .int .i8 s4, .int .i8 s5]] w fun e w' => e = .returned (.agg #[.int .i64 s0, .int .i64 s1, .int .i64 s2, .int .i64 s3, .int .i64 s4, .int .i64 s5]) ∧ Ext w w' := by
  have hI := idxS
  go_enter Try.func10, Try.ntmps10
  go_wp2
  refine wp_loop_rounds 4 ?_
  rw [rounds_succ]
  go_wp2
  rw [rounds_succ]
  go_wp2
  rw [rounds_succ]
  go_wp2
  rw [rounds_succ]
  go_wp2
  refine bodyPost_ret (v := .agg #[.int .i64 s0, .int .i64 s1, .int .i64 s2, .int .i64 s3, .int .i64 s4, .int .i64 s5]) (by simp [results, Try.results10, go_sem]) rfl ⟨rfl, ?_⟩
  repeat (first | exact Ext.refl _ | apply Ext.drew | apply Ext.drewN | apply Ext.alloc)
set_option maxRecDepth 100000 in
set_option maxHeartbeats 800000 in
theorem awake3_any (w : World) : Calls Try.prog 9 #[] w fun e w' => e = .returned (.bool true) ∧ Ext w w' := by
  have e0 : covB 0 0 16 0 0 16 0 0 = true := by decide +kernel
  have e1 : covB 0 0 16 0 0 16 16 0 = false := by decide +kernel
  have e2 : sd 0 0 16 0 0 16 = 256 := by decide +kernel
  go_enter Try.func9, Try.ntmps9
  go_wp2_with fail
  refine (covers_any _ _ _ _ _ _ _ _ (by omega) (by omega) (by omega) (by omega) (by omega) (by omega) (by omega) (by omega) _).mono ?_
  rintro e w1 ⟨rfl, hx1⟩
  rw [e0]
  have A1 : Blk w1 w.heap.size #[.int .i64 0, .int .i64 0, .int .i64 16, .int .i64 0, .int .i64 0, .int .i64 16] 25 := (Blk.new w _ _).ext hx1
  have cA1 := A1.cell
  go_wp2_with fail
  refine (covers_any _ _ _ _ _ _ _ _ (by omega) (by omega) (by omega) (by omega) (by omega) (by omega) (by omega) (by omega) _).mono ?_
  rintro e w2 ⟨rfl, hx2⟩
  rw [e1]
  have A2 := A1.ext hx2
  have cA2 := A2.cell
  go_wp2_with fail
  refine (area_any _ _ _ _ _ _ (by omega) (by omega) (by omega) (by omega) (by omega) (by omega) _).mono ?_
  rintro e w3 ⟨rfl, hx3⟩
  rw [e2]
  go_wp2
  go_ret
  exact ⟨rfl, Ext.trans (Ext.trans (Ext.trans ((Ext.refl w).alloc _ _) hx1) hx2) hx3⟩
end Go.Proofs.Ytbhgebflknafbaa
