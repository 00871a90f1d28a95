/-
  DERIVED. Layer 11's law: a vertex by small numbers.
-/
import Derived.Test.YtjohcngmoemmbaaVx
import Derived.Test.YtjohcngmoemmbaaBlkLaws
import Derived.Test.YtjohcngmoemmbaaMinMax
import Derived.Deep.DeepCutAuto
namespace Go.Proofs.Ytjohcngmoemmbaa
open Go.RowKit
set_option linter.unusedVariables false
theorem idx4u (x0 x1 x2 x3 : Value) (w : World) :
    (Instr.index 23 (.agg #[x0, x1, x2, x3]) (.int .i64 0)).run Try.prog w = .ok x0 w ∧ (Instr.index 23 (.agg #[x0, x1, x2, x3]) (.int .i64 1)).run Try.prog w = .ok x1 w ∧
    (Instr.index 23 (.agg #[x0, x1, x2, x3]) (.int .i64 2)).run Try.prog w = .ok x2 w ∧ (Instr.index 23 (.agg #[x0, x1, x2, x3]) (.int .i64 3)).run Try.prog w = .ok x3 w := by
  refine ⟨?_, ?_, ?_, ?_⟩ <;> simp [Instr.index, asIntOf, run_underlying Try.underlying23, go_sem, part]

set_option maxRecDepth 100000 in
set_option maxHeartbeats 1000000 in
theorem vertex11_any (v : VSm) (hv : v.ok) (w : World) : Calls Try.prog 13 #[.agg v.l.toArray] w fun e w' => e = .returned (.agg (vxF v).l.toArray) ∧ Ext w w' := by
  obtain ⟨x, y, z, ww, r, g, b, a, far⟩ := v
  obtain ⟨h0, h1, h2, h3, h4, h5, h6, h7⟩ := hv
  simp only at h0 h1 h2 h3 h4 h5 h6 h7
  have hmx := maxI_fold
  have hix := idx4u (.int .u8 r) (.int .u8 g) (.int .u8 b) (.int .u8 a)
  cases far
  · have hF : (vxF ⟨x, y, z, ww, r, g, b, a, false⟩).l.toArray = #[.int .i64 (x * 3), .int .i64 (y * 3), .int .i64 (maxI (z * 2) (-9000)), .int .i64 (65536 + ww), .int .i64 (r * 257), .int .i64 (g * 257), .int .i64 (b * 257), .int .i64 (a * 257)] := by simp [vxF, maxI_eq]
    rw [hF]
    clear hF
    go_enter Try.func13, Try.ntmps13
    go_wp2_with fail
    refine wp_loop_rounds 5 ?_
    rw [rounds_succ]
    go_wp2
    rw [rounds_succ]
    go_wp2
    rw [rounds_succ]
    go_wp2
    rw [rounds_succ]
    go_wp2
    rw [rounds_succ]
    go_wp2
    exact bodyPost_ret (v := .agg #[.int .i64 (x * 3), .int .i64 (y * 3), .int .i64 (maxI (z * 2) (-9000)), .int .i64 (65536 + ww), .int .i64 (r * 257), .int .i64 (g * 257), .int .i64 (b * 257), .int .i64 (a * 257)]) (results_blk (b := w.heap.size + 1) (t := 2) (ty := 43) rfl rfl ((Blk.new' (by simp) _ _).alloc _) Try.underlying43 rfl (by kernel_rfl)) rfl ⟨rfl, (((Ext.refl w).alloc _ _).alloc _ _).alloc _ _⟩
  · have hF : (vxF ⟨x, y, z, ww, r, g, b, a, true⟩).l.toArray = #[.int .i64 (x * 3), .int .i64 (y * 3), .int .i64 (maxI (z * 2) (-9000)), .int .i64 (ww * 4), .int .i64 (r * 257), .int .i64 (g * 257), .int .i64 (b * 257), .int .i64 (a * 257)] := by simp [vxF, maxI_eq]
    rw [hF]
    clear hF
    go_enter Try.func13, Try.ntmps13
    go_wp2_with fail
    refine wp_loop_rounds 5 ?_
    rw [rounds_succ]
    go_wp2
    rw [rounds_succ]
    go_wp2
    rw [rounds_succ]
    go_wp2
    rw [rounds_succ]
    go_wp2
    rw [rounds_succ]
    go_wp2
    exact bodyPost_ret (v := .agg #[.int .i64 (x * 3), .int .i64 (y * 3), .int .i64 (maxI (z * 2) (-9000)), .int .i64 (ww * 4), .int .i64 (r * 257), .int .i64 (g * 257), .int .i64 (b * 257), .int .i64 (a * 257)]) (results_blk (b := w.heap.size + 1) (t := 2) (ty := 43) rfl rfl ((Blk.new' (by simp) _ _).alloc _) Try.underlying43 rfl (by kernel_rfl)) rfl ⟨rfl, (((Ext.refl w).alloc _ _).alloc _ _).alloc _ _⟩

end Go.Proofs.Ytjohcngmoemmbaa
