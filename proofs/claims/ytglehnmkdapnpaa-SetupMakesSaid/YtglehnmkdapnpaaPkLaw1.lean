/-
  DERIVED. azulejolaw13's Plain, Ref (made by mkset13.py).
-/
import Derived.Test.YtglehnmkdapnpaaPkRef2
import Derived.Test.YtglehnmkdapnpaaPkFix
import Derived.Test.YtglehnmkdapnpaaPkGs
namespace Go.Proofs.Ytglehnmkdapnpaa
open Go.RowKit
set_option linter.unusedVariables false
set_option maxRecDepth 100000 in
set_option maxHeartbeats 4000000 in
theorem plain_any (g0 g1 g2 g3 g4 g5 v0 v1 v2 v3 : Int) (w : World) : Calls Try.prog 24 #[.agg #[.int .i64 g0, .int .i64 g1, .int .i64 g2, .int .i64 g3, .int .i64 g4, .int .i64 g5], .agg #[.int .i64 v0, .int .i64 v1, .int .i64 v2, .int .i64 v3]] w fun e w' => e = .returned (.agg #[.int .i64 g0, .int .i64 g1, .int .i64 g2, .int .i64 g3, .int .i64 g4, .int .i64 g5, .int .i64 7, .int .i64 7, .int .i64 7, .int .i64 9, .int .i64 9, .int .i64 9, .int .i64 v0, .int .i64 v1, .int .i64 v2, .int .i64 v3, .int .i64 v0, .int .i64 v1, .int .i64 v2, .int .i64 v3, .int .i64 v0, .int .i64 v1, .int .i64 v2, .int .i64 v3]) ∧ Ext w w' := by
  have xx : Ext w (((w.alloc (.cells #[.int .i64 g0, .int .i64 g1, .int .i64 g2, .int .i64 g3, .int .i64 g4, .int .i64 g5] 52)).alloc (.cells #[.int .i64 v0, .int .i64 v1, .int .i64 v2, .int .i64 v3] 30)).alloc (.cells #[.int .i64 0, .int .i64 0, .int .i64 0, .int .i64 0, .int .i64 0, .int .i64 0, .int .i64 0, .int .i64 0, .int .i64 0, .int .i64 0, .int .i64 0, .int .i64 0, .int .i64 0, .int .i64 0, .int .i64 0, .int .i64 0, .int .i64 0, .int .i64 0, .int .i64 0, .int .i64 0, .int .i64 0, .int .i64 0, .int .i64 0, .int .i64 0] 55)) := (((Ext.refl w).alloc _ _).alloc _ _).alloc _ _
  have B2 := ((Blk.new w #[.int .i64 g0, .int .i64 g1, .int .i64 g2, .int .i64 g3, .int .i64 g4, .int .i64 g5] 52).alloc (.cells #[.int .i64 v0, .int .i64 v1, .int .i64 v2, .int .i64 v3] 30)).alloc (.cells #[.int .i64 0, .int .i64 0, .int .i64 0, .int .i64 0, .int .i64 0, .int .i64 0, .int .i64 0, .int .i64 0, .int .i64 0, .int .i64 0, .int .i64 0, .int .i64 0, .int .i64 0, .int .i64 0, .int .i64 0, .int .i64 0, .int .i64 0, .int .i64 0, .int .i64 0, .int .i64 0, .int .i64 0, .int .i64 0, .int .i64 0, .int .i64 0] 55)
  have B3 := (Blk.new (w.alloc (.cells #[.int .i64 g0, .int .i64 g1, .int .i64 g2, .int .i64 g3, .int .i64 g4, .int .i64 g5] 52)) #[.int .i64 v0, .int .i64 v1, .int .i64 v2, .int .i64 v3] 30).alloc (.cells #[.int .i64 0, .int .i64 0, .int .i64 0, .int .i64 0, .int .i64 0, .int .i64 0, .int .i64 0, .int .i64 0, .int .i64 0, .int .i64 0, .int .i64 0, .int .i64 0, .int .i64 0, .int .i64 0, .int .i64 0, .int .i64 0, .int .i64 0, .int .i64 0, .int .i64 0, .int .i64 0, .int .i64 0, .int .i64 0, .int .i64 0, .int .i64 0] 55)
  have B4 := Blk.new ((w.alloc (.cells #[.int .i64 g0, .int .i64 g1, .int .i64 g2, .int .i64 g3, .int .i64 g4, .int .i64 g5] 52)).alloc (.cells #[.int .i64 v0, .int .i64 v1, .int .i64 v2, .int .i64 v3] 30)) #[.int .i64 0, .int .i64 0, .int .i64 0, .int .i64 0, .int .i64 0, .int .i64 0, .int .i64 0, .int .i64 0, .int .i64 0, .int .i64 0, .int .i64 0, .int .i64 0, .int .i64 0, .int .i64 0, .int .i64 0, .int .i64 0, .int .i64 0, .int .i64 0, .int .i64 0, .int .i64 0, .int .i64 0, .int .i64 0, .int .i64 0, .int .i64 0] 55
  go_enter Try.func24, Try.ntmps24
  go_upto_region 1 with fail
  simp only [World.size_alloc] at B3 B4
  generalize (((w.alloc (.cells #[.int .i64 g0, .int .i64 g1, .int .i64 g2, .int .i64 g3, .int .i64 g4, .int .i64 g5] 52)).alloc (.cells #[.int .i64 v0, .int .i64 v1, .int .i64 v2, .int .i64 v3] 30)).alloc (.cells #[.int .i64 0, .int .i64 0, .int .i64 0, .int .i64 0, .int .i64 0, .int .i64 0, .int .i64 0, .int .i64 0, .int .i64 0, .int .i64 0, .int .i64 0, .int .i64 0, .int .i64 0, .int .i64 0, .int .i64 0, .int .i64 0, .int .i64 0, .int .i64 0, .int .i64 0, .int .i64 0, .int .i64 0, .int .i64 0, .int .i64 0, .int .i64 0] 55)) = w1 at *
  have Bf := B4.setRow #[.int .i64 g0, .int .i64 g1, .int .i64 g2, .int .i64 g3, .int .i64 g4, .int .i64 g5, .int .i64 7, .int .i64 7, .int .i64 7, .int .i64 9, .int .i64 9, .int .i64 9, .int .i64 v0, .int .i64 v1, .int .i64 v2, .int .i64 v3, .int .i64 v0, .int .i64 v1, .int .i64 v2, .int .i64 v3, .int .i64 v0, .int .i64 v1, .int .i64 v2, .int .i64 v3]
  have Ef := xx.setRow (g := w.heap.size + 1 + 1) (by omega) #[.int .i64 g0, .int .i64 g1, .int .i64 g2, .int .i64 g3, .int .i64 g4, .int .i64 g5, .int .i64 7, .int .i64 7, .int .i64 7, .int .i64 9, .int .i64 9, .int .i64 9, .int .i64 v0, .int .i64 v1, .int .i64 v2, .int .i64 v3, .int .i64 v0, .int .i64 v1, .int .i64 v2, .int .i64 v3, .int .i64 v0, .int .i64 v1, .int .i64 v2, .int .i64 v3]
  go_wp2_with (first
    | ((with_reducible refine wpList_load_blk (op := ⟨some 5, _, _, _, _, _⟩) ?_ 52 (.tmp 2) ?_ (w.heap.size) ?_ (z := _) (T := 52) B2 Try.underlying52 ?_ ?_ ?_); rfl; rfl; rfl; rfl; kernel_rfl)
    | ((with_reducible refine wpList_load_blk (op := ⟨some 8, _, _, _, _, _⟩) ?_ 30 (.tmp 3) ?_ (w.heap.size + 1) ?_ (z := _) (T := 30) B3 Try.underlying30 ?_ ?_ ?_); rfl; rfl; rfl; rfl; kernel_rfl)
    | ((with_reducible refine wpList_load_blk (op := ⟨some 9, _, _, _, _, _⟩) ?_ 30 (.tmp 3) ?_ (w.heap.size + 1) ?_ (z := _) (T := 30) B3 Try.underlying30 ?_ ?_ ?_); rfl; rfl; rfl; rfl; kernel_rfl)
    | ((with_reducible refine wpList_load_blk (op := ⟨some 10, _, _, _, _, _⟩) ?_ 30 (.tmp 3) ?_ (w.heap.size + 1) ?_ (z := _) (T := 30) B3 Try.underlying30 ?_ ?_ ?_); rfl; rfl; rfl; rfl; kernel_rfl)
    | ((with_reducible refine wpList_build13 (o := ⟨some 11, _, _, _, _, _⟩) ?_ 53 #[(0, .tmp 8), (1, .tmp 9), (2, .tmp 10)] ?_ #[.int .i64 v0, .int .i64 v1, .int .i64 v2, .int .i64 v3, .int .i64 v0, .int .i64 v1, .int .i64 v2, .int .i64 v3, .int .i64 v0, .int .i64 v1, .int .i64 v2, .int .i64 v3] ?_ ?_); rfl; rfl; kernel_rfl)
    | ((with_reducible refine wpList_build13 (o := ⟨some 12, _, _, _, _, _⟩) ?_ 55 #[(0, .tmp 5), (1, .tmp 6), (2, .tmp 7), (3, .tmp 11)] ?_ #[.int .i64 g0, .int .i64 g1, .int .i64 g2, .int .i64 g3, .int .i64 g4, .int .i64 g5, .int .i64 7, .int .i64 7, .int .i64 7, .int .i64 9, .int .i64 9, .int .i64 9, .int .i64 v0, .int .i64 v1, .int .i64 v2, .int .i64 v3, .int .i64 v0, .int .i64 v1, .int .i64 v2, .int .i64 v3, .int .i64 v0, .int .i64 v1, .int .i64 v2, .int .i64 v3] ?_ ?_); rfl; rfl; kernel_rfl)
    | ((with_reducible refine wpList_store_blk (op := ⟨none, .store 55 (.tmp 4) (.tmp 12), _, _, _, _⟩) ?_ 55 (.tmp 4) (.tmp 12) ?_ (w.heap.size + 1 + 1) ?_ (cs := #[.int .i64 g0, .int .i64 g1, .int .i64 g2, .int .i64 g3, .int .i64 g4, .int .i64 g5, .int .i64 7, .int .i64 7, .int .i64 7, .int .i64 9, .int .i64 9, .int .i64 9, .int .i64 v0, .int .i64 v1, .int .i64 v2, .int .i64 v3, .int .i64 v0, .int .i64 v1, .int .i64 v2, .int .i64 v3, .int .i64 v0, .int .i64 v1, .int .i64 v2, .int .i64 v3]) ?_ (z := #[.int .i64 0, .int .i64 0, .int .i64 0, .int .i64 0, .int .i64 0, .int .i64 0, .int .i64 0, .int .i64 0, .int .i64 0, .int .i64 0, .int .i64 0, .int .i64 0, .int .i64 0, .int .i64 0, .int .i64 0, .int .i64 0, .int .i64 0, .int .i64 0, .int .i64 0, .int .i64 0, .int .i64 0, .int .i64 0, .int .i64 0, .int .i64 0]) (T := 55) ?_ ?_ ?_ ?_ ?_); rfl; rfl; rfl; rfl; exact B4; kernel_rfl; kernel_rfl; kernel_rfl)
    | fail)
  exact bodyPost_ret (v := .agg #[.int .i64 g0, .int .i64 g1, .int .i64 g2, .int .i64 g3, .int .i64 g4, .int .i64 g5, .int .i64 7, .int .i64 7, .int .i64 7, .int .i64 9, .int .i64 9, .int .i64 9, .int .i64 v0, .int .i64 v1, .int .i64 v2, .int .i64 v3, .int .i64 v0, .int .i64 v1, .int .i64 v2, .int .i64 v3, .int .i64 v0, .int .i64 v1, .int .i64 v2, .int .i64 v3]) (results_blk (b := w.heap.size + 1 + 1) (t := 4) (ty := 55) rfl rfl Bf Try.underlying55 rfl (by kernel_rfl)) rfl ⟨rfl, Ef⟩
set_option maxRecDepth 100000 in
set_option maxHeartbeats 4000000 in
theorem ref13_any (g0 g1 g2 g3 g4 g5 e0 e1 e2 n0 n1 n2 a0 a1 a2 a3 b0 b1 b2 b3 c0 c1 c2 c3 : Int) (w : World) : Calls Try.prog 16 #[.agg #[.int .i64 g0, .int .i64 g1, .int .i64 g2, .int .i64 g3, .int .i64 g4, .int .i64 g5, .int .i64 e0, .int .i64 e1, .int .i64 e2, .int .i64 n0, .int .i64 n1, .int .i64 n2, .int .i64 a0, .int .i64 a1, .int .i64 a2, .int .i64 a3, .int .i64 b0, .int .i64 b1, .int .i64 b2, .int .i64 b3, .int .i64 c0, .int .i64 c1, .int .i64 c2, .int .i64 c3]] w fun e w' => e = .returned (.agg #[.int .i64 g0, .int .i64 g1, .int .i64 g2, .int .i64 g3, .int .i64 g4, .int .i64 g5, .int .i64 e0, .int .i64 e1, .int .i64 e2, .int .i64 n0, .int .i64 n1, .int .i64 n2, .int .i64 a0, .int .i64 a1, .int .i64 a2, .int .i64 a3, .int .i64 b0, .int .i64 b1, .int .i64 b2, .int .i64 b3, .int .i64 c0, .int .i64 c1, .int .i64 c2, .int .i64 c3]) ∧ Ext w w' := by
  have xx : Ext w ((w.alloc (.cells #[.int .i64 g0, .int .i64 g1, .int .i64 g2, .int .i64 g3, .int .i64 g4, .int .i64 g5, .int .i64 e0, .int .i64 e1, .int .i64 e2, .int .i64 n0, .int .i64 n1, .int .i64 n2, .int .i64 a0, .int .i64 a1, .int .i64 a2, .int .i64 a3, .int .i64 b0, .int .i64 b1, .int .i64 b2, .int .i64 b3, .int .i64 c0, .int .i64 c1, .int .i64 c2, .int .i64 c3] 55)).alloc (.cells #[.int .i64 0, .int .i64 0, .int .i64 0, .int .i64 0, .int .i64 0, .int .i64 0, .int .i64 0, .int .i64 0, .int .i64 0, .int .i64 0, .int .i64 0, .int .i64 0, .int .i64 0, .int .i64 0, .int .i64 0, .int .i64 0, .int .i64 0, .int .i64 0, .int .i64 0, .int .i64 0, .int .i64 0, .int .i64 0, .int .i64 0, .int .i64 0] 42)) := ((Ext.refl w).alloc _ _).alloc _ _
  have B1 := (Blk.new w #[.int .i64 g0, .int .i64 g1, .int .i64 g2, .int .i64 g3, .int .i64 g4, .int .i64 g5, .int .i64 e0, .int .i64 e1, .int .i64 e2, .int .i64 n0, .int .i64 n1, .int .i64 n2, .int .i64 a0, .int .i64 a1, .int .i64 a2, .int .i64 a3, .int .i64 b0, .int .i64 b1, .int .i64 b2, .int .i64 b3, .int .i64 c0, .int .i64 c1, .int .i64 c2, .int .i64 c3] 55).alloc (.cells #[.int .i64 0, .int .i64 0, .int .i64 0, .int .i64 0, .int .i64 0, .int .i64 0, .int .i64 0, .int .i64 0, .int .i64 0, .int .i64 0, .int .i64 0, .int .i64 0, .int .i64 0, .int .i64 0, .int .i64 0, .int .i64 0, .int .i64 0, .int .i64 0, .int .i64 0, .int .i64 0, .int .i64 0, .int .i64 0, .int .i64 0, .int .i64 0] 42)
  have B2 := Blk.new (w.alloc (.cells #[.int .i64 g0, .int .i64 g1, .int .i64 g2, .int .i64 g3, .int .i64 g4, .int .i64 g5, .int .i64 e0, .int .i64 e1, .int .i64 e2, .int .i64 n0, .int .i64 n1, .int .i64 n2, .int .i64 a0, .int .i64 a1, .int .i64 a2, .int .i64 a3, .int .i64 b0, .int .i64 b1, .int .i64 b2, .int .i64 b3, .int .i64 c0, .int .i64 c1, .int .i64 c2, .int .i64 c3] 55)) #[.int .i64 0, .int .i64 0, .int .i64 0, .int .i64 0, .int .i64 0, .int .i64 0, .int .i64 0, .int .i64 0, .int .i64 0, .int .i64 0, .int .i64 0, .int .i64 0, .int .i64 0, .int .i64 0, .int .i64 0, .int .i64 0, .int .i64 0, .int .i64 0, .int .i64 0, .int .i64 0, .int .i64 0, .int .i64 0, .int .i64 0, .int .i64 0] 42
  go_enter Try.func16, Try.ntmps16
  go_upto_region 1 with fail
  simp only [World.size_alloc] at B2
  generalize ((w.alloc (.cells #[.int .i64 g0, .int .i64 g1, .int .i64 g2, .int .i64 g3, .int .i64 g4, .int .i64 g5, .int .i64 e0, .int .i64 e1, .int .i64 e2, .int .i64 n0, .int .i64 n1, .int .i64 n2, .int .i64 a0, .int .i64 a1, .int .i64 a2, .int .i64 a3, .int .i64 b0, .int .i64 b1, .int .i64 b2, .int .i64 b3, .int .i64 c0, .int .i64 c1, .int .i64 c2, .int .i64 c3] 55)).alloc (.cells #[.int .i64 0, .int .i64 0, .int .i64 0, .int .i64 0, .int .i64 0, .int .i64 0, .int .i64 0, .int .i64 0, .int .i64 0, .int .i64 0, .int .i64 0, .int .i64 0, .int .i64 0, .int .i64 0, .int .i64 0, .int .i64 0, .int .i64 0, .int .i64 0, .int .i64 0, .int .i64 0, .int .i64 0, .int .i64 0, .int .i64 0, .int .i64 0] 42)) = w1 at *
  have B3 := Blk.new w1 #[.int .i64 0, .int .i64 0, .int .i64 0, .int .i64 0, .int .i64 0, .int .i64 0, .int .i64 0, .int .i64 0, .int .i64 0, .int .i64 0, .int .i64 0, .int .i64 0, .int .i64 0, .int .i64 0, .int .i64 0, .int .i64 0, .int .i64 0, .int .i64 0, .int .i64 0, .int .i64 0, .int .i64 0, .int .i64 0, .int .i64 0, .int .i64 0] 42
  have y3 : Ext w1 (w1.alloc (.cells #[.int .i64 0, .int .i64 0, .int .i64 0, .int .i64 0, .int .i64 0, .int .i64 0, .int .i64 0, .int .i64 0, .int .i64 0, .int .i64 0, .int .i64 0, .int .i64 0, .int .i64 0, .int .i64 0, .int .i64 0, .int .i64 0, .int .i64 0, .int .i64 0, .int .i64 0, .int .i64 0, .int .i64 0, .int .i64 0, .int .i64 0, .int .i64 0] 42)) := (Ext.refl _).alloc _ _
  go_upto_region 2 with fail
  have hb2 := B2.lt
  have xx := xx.trans y3
  have B1 := B1.ext y3
  have B2 := B2.ext y3
  clear y3
  generalize w1.alloc (.cells #[.int .i64 0, .int .i64 0, .int .i64 0, .int .i64 0, .int .i64 0, .int .i64 0, .int .i64 0, .int .i64 0, .int .i64 0, .int .i64 0, .int .i64 0, .int .i64 0, .int .i64 0, .int .i64 0, .int .i64 0, .int .i64 0, .int .i64 0, .int .i64 0, .int .i64 0, .int .i64 0, .int .i64 0, .int .i64 0, .int .i64 0, .int .i64 0] 42) = w2 at *
  generalize w1.heap.size = k3 at *
  go_wp2_with fail
  refine wp_loop_rounds 4 ?_
  rw [rounds_succ]
  go_upto_region 5 with fail
  apply wp_region_vars [false, false, false, false, false, false, false, false, false, false, false, false, false, false, true] [k3] [⟨none, 0, k3, some 14, 42, #[.int .i64 0, .int .i64 0, .int .i64 0, .int .i64 0, .int .i64 0, .int .i64 0, .int .i64 0, .int .i64 0, .int .i64 0, .int .i64 0, .int .i64 0, .int .i64 0, .int .i64 0, .int .i64 0, .int .i64 0, .int .i64 0, .int .i64 0, .int .i64 0, .int .i64 0, .int .i64 0, .int .i64 0, .int .i64 0, .int .i64 0, .int .i64 0], #[.int .i64 g0, .int .i64 g1, .int .i64 0, .int .i64 0, .int .i64 0, .int .i64 0, .int .i64 0, .int .i64 0, .int .i64 0, .int .i64 0, .int .i64 0, .int .i64 0, .int .i64 0, .int .i64 0, .int .i64 0, .int .i64 0, .int .i64 0, .int .i64 0, .int .i64 0, .int .i64 0, .int .i64 0, .int .i64 0, .int .i64 0, .int .i64 0]⟩] _ (by kernel_rfl) (by kernel_rfl) (by kernel_rfl)
  case H =>
    intro x0 hx
    have hne : Nonempty (Wx x0) := ⟨⟨x0, Ext.refl x0⟩⟩
    have qB1 := fun (y : Wx x0) => ((B1.calm hx (by simp <;> omega)).ext y.ext).cell
    simp only [eraseM]
    repeat (go_big_quiet_step (fail))
    exact wpQuiet_nil rfl
  case hok =>
    simp only [List.forall_mem_cons, List.not_mem_nil, false_implies, implies_true, and_true]
    exact tgt_mine (v := .agg #[.int .i64 g0, .int .i64 g1]) (off := 0) (by simp) B3 rfl rfl rfl rfl rfl rfl (by kernel_rfl) (by kernel_rfl) (of_decide_eq_true (by kernel_rfl)) rfl
  case hdis =>
    intro k k' t t' hk hk' hkk ha ha'
    exfalso
    have h1 : k < 1 := (List.getElem?_eq_some_iff.1 hk).1
    have h2 : k' < 1 := (List.getElem?_eq_some_iff.1 hk').1
    omega
  rintro w3_0 f hw ⟨k0, l0, d0, u0, -⟩
  have e0' : f 0 = k3 := k0
  rw [e0'] at d0
  simp only [pairs, putAll, Option.isSome_none, Bool.false_eq_true, if_false]
  have B3 : Blk w3_0 k3 #[.int .i64 g0, .int .i64 g1, .int .i64 0, .int .i64 0, .int .i64 0, .int .i64 0, .int .i64 0, .int .i64 0, .int .i64 0, .int .i64 0, .int .i64 0, .int .i64 0, .int .i64 0, .int .i64 0, .int .i64 0, .int .i64 0, .int .i64 0, .int .i64 0, .int .i64 0, .int .i64 0, .int .i64 0, .int .i64 0, .int .i64 0, .int .i64 0] 42 := d0
  have B1 := B1.calm hw (by simp; omega)
  have B2 := B2.calm hw (by simp; omega)
  have xx := Ext.calm_trans xx hw (by simp; omega)
  clear k0 l0 d0 u0 e0' hw
  go_upto_region 6 with fail
  apply wp_region_tail 3 [false, false, false, false, false, false, false, false, false, false, false, false, false, false, false, false, false, true, false, false, true, false, false, true] [] [k3] _ (by kernel_rfl) (by kernel_rfl) (by kernel_rfl)
  case H =>
    intro x0 hx
    have hne : Nonempty (Wx x0) := ⟨⟨x0, Ext.refl x0⟩⟩
    have qB1 := fun (y : Wx x0) => ((B1.calm hx (by simp <;> omega)).ext y.ext).cell
    simp only [eraseM]
    repeat (go_big_quiet_step (fail))
    exact wpQuiet_nil rfl
  case hF => rfl
  change tailW _ _ _ _ [_, _, _] _ _
  refine fun u0 x0 hc0 => ?_
  have B := B3.ext x0
  have cc := B.cell
  have ff := B.frozen
  refine gives_skip (u' := (u0.setCell ⟨k3, 6, none⟩ (.int .i64 e0))) (by simp [go_sem, cc, ff]) ⟨((hc0).trans (calm_put u0 k3 6 (.int .i64 e0))), fun u1 x1 hc1 => ?_⟩
  have B := (B.set 6 (.int .i64 e0)).ext x1
  clear cc ff
  have cc := B.cell
  have ff := B.frozen
  refine gives_skip (u' := (u1.setCell ⟨k3, 9, none⟩ (.int .i64 n0))) (by simp [go_sem, cc, ff]) ⟨((hc1).trans (calm_put u1 k3 9 (.int .i64 n0))), fun u2 x2 hc2 => ?_⟩
  have B := (B.set 9 (.int .i64 n0)).ext x2
  clear cc ff
  have cc := B.cell
  have ff := B.frozen
  refine gives_skip (u' := ((((u2.setCell ⟨k3, 12, none⟩ (.int .i64 a0)).setCell ⟨k3, 13, none⟩ (.int .i64 a1)).setCell ⟨k3, 14, none⟩ (.int .i64 a2)).setCell ⟨k3, 15, none⟩ (.int .i64 a3))) (by simp [go_sem, cc, ff]) ⟨((((((((hc2).trans (calm_put u2 k3 12 (.int .i64 a0)))).trans (calm_put ((u2.setCell ⟨k3, 12, none⟩ (.int .i64 a0))) k3 13 (.int .i64 a1)))).trans (calm_put (((u2.setCell ⟨k3, 12, none⟩ (.int .i64 a0)).setCell ⟨k3, 13, none⟩ (.int .i64 a1))) k3 14 (.int .i64 a2)))).trans (calm_put ((((u2.setCell ⟨k3, 12, none⟩ (.int .i64 a0)).setCell ⟨k3, 13, none⟩ (.int .i64 a1)).setCell ⟨k3, 14, none⟩ (.int .i64 a2))) k3 15 (.int .i64 a3))), fun w4_0 x3 hc3 => ?_⟩
  have B := ((((B.set 12 (.int .i64 a0)).set 13 (.int .i64 a1)).set 14 (.int .i64 a2)).set 15 (.int .i64 a3)).ext x3
  clear cc ff
  have B3 : Blk w4_0 k3 #[.int .i64 g0, .int .i64 g1, .int .i64 0, .int .i64 0, .int .i64 0, .int .i64 0, .int .i64 e0, .int .i64 0, .int .i64 0, .int .i64 n0, .int .i64 0, .int .i64 0, .int .i64 a0, .int .i64 a1, .int .i64 a2, .int .i64 a3, .int .i64 0, .int .i64 0, .int .i64 0, .int .i64 0, .int .i64 0, .int .i64 0, .int .i64 0, .int .i64 0] 42 := by simpa using B
  clear B x0 x1 x2 x3 hc0 hc1 hc2
  simp only [Act.put]
  have B1 := B1.calm hc3 (by simp; omega)
  have B2 := B2.calm hc3 (by simp; omega)
  have xx := Ext.calm_trans xx hc3 (by simp; omega)
  clear hc3
  go_wp2_with fail
  rw [rounds_succ]
  go_upto_region 5 with fail
  apply wp_region_vars [false, false, false, false, false, false, false, false, false, false, false, false, false, false, true] [k3] [⟨none, 0, k3, some 14, 42, #[.int .i64 g0, .int .i64 g1, .int .i64 0, .int .i64 0, .int .i64 0, .int .i64 0, .int .i64 e0, .int .i64 0, .int .i64 0, .int .i64 n0, .int .i64 0, .int .i64 0, .int .i64 a0, .int .i64 a1, .int .i64 a2, .int .i64 a3, .int .i64 0, .int .i64 0, .int .i64 0, .int .i64 0, .int .i64 0, .int .i64 0, .int .i64 0, .int .i64 0], #[.int .i64 g0, .int .i64 g1, .int .i64 g2, .int .i64 g3, .int .i64 0, .int .i64 0, .int .i64 e0, .int .i64 0, .int .i64 0, .int .i64 n0, .int .i64 0, .int .i64 0, .int .i64 a0, .int .i64 a1, .int .i64 a2, .int .i64 a3, .int .i64 0, .int .i64 0, .int .i64 0, .int .i64 0, .int .i64 0, .int .i64 0, .int .i64 0, .int .i64 0]⟩] _ (by kernel_rfl) (by kernel_rfl) (by kernel_rfl)
  case H =>
    intro x0 hx
    have hne : Nonempty (Wx x0) := ⟨⟨x0, Ext.refl x0⟩⟩
    have qB1 := fun (y : Wx x0) => ((B1.calm hx (by simp <;> omega)).ext y.ext).cell
    simp only [eraseM]
    repeat (go_big_quiet_step (fail))
    exact wpQuiet_nil rfl
  case hok =>
    simp only [List.forall_mem_cons, List.not_mem_nil, false_implies, implies_true, and_true]
    exact tgt_mine (v := .agg #[.int .i64 g2, .int .i64 g3]) (off := 2) (by simp) B3 rfl rfl rfl rfl rfl rfl (by kernel_rfl) (by kernel_rfl) (of_decide_eq_true (by kernel_rfl)) rfl
  case hdis =>
    intro k k' t t' hk hk' hkk ha ha'
    exfalso
    have h1 : k < 1 := (List.getElem?_eq_some_iff.1 hk).1
    have h2 : k' < 1 := (List.getElem?_eq_some_iff.1 hk').1
    omega
  rintro w3_1 f hw ⟨k0, l0, d0, u0, -⟩
  have e0' : f 0 = k3 := k0
  rw [e0'] at d0
  simp only [pairs, putAll, Option.isSome_none, Bool.false_eq_true, if_false]
  have B3 : Blk w3_1 k3 #[.int .i64 g0, .int .i64 g1, .int .i64 g2, .int .i64 g3, .int .i64 0, .int .i64 0, .int .i64 e0, .int .i64 0, .int .i64 0, .int .i64 n0, .int .i64 0, .int .i64 0, .int .i64 a0, .int .i64 a1, .int .i64 a2, .int .i64 a3, .int .i64 0, .int .i64 0, .int .i64 0, .int .i64 0, .int .i64 0, .int .i64 0, .int .i64 0, .int .i64 0] 42 := d0
  have B1 := B1.calm hw (by simp; omega)
  have B2 := B2.calm hw (by simp; omega)
  have xx := Ext.calm_trans xx hw (by simp; omega)
  clear k0 l0 d0 u0 e0' hw
  go_upto_region 6 with fail
  apply wp_region_tail 3 [false, false, false, false, false, false, false, false, false, false, false, false, false, false, false, false, false, true, false, false, true, false, false, true] [] [k3] _ (by kernel_rfl) (by kernel_rfl) (by kernel_rfl)
  case H =>
    intro x0 hx
    have hne : Nonempty (Wx x0) := ⟨⟨x0, Ext.refl x0⟩⟩
    have qB1 := fun (y : Wx x0) => ((B1.calm hx (by simp <;> omega)).ext y.ext).cell
    simp only [eraseM]
    repeat (go_big_quiet_step (fail))
    exact wpQuiet_nil rfl
  case hF => rfl
  change tailW _ _ _ _ [_, _, _] _ _
  refine fun u0 x0 hc0 => ?_
  have B := B3.ext x0
  have cc := B.cell
  have ff := B.frozen
  refine gives_skip (u' := (u0.setCell ⟨k3, 7, none⟩ (.int .i64 e1))) (by simp [go_sem, cc, ff]) ⟨((hc0).trans (calm_put u0 k3 7 (.int .i64 e1))), fun u1 x1 hc1 => ?_⟩
  have B := (B.set 7 (.int .i64 e1)).ext x1
  clear cc ff
  have cc := B.cell
  have ff := B.frozen
  refine gives_skip (u' := (u1.setCell ⟨k3, 10, none⟩ (.int .i64 n1))) (by simp [go_sem, cc, ff]) ⟨((hc1).trans (calm_put u1 k3 10 (.int .i64 n1))), fun u2 x2 hc2 => ?_⟩
  have B := (B.set 10 (.int .i64 n1)).ext x2
  clear cc ff
  have cc := B.cell
  have ff := B.frozen
  refine gives_skip (u' := ((((u2.setCell ⟨k3, 16, none⟩ (.int .i64 b0)).setCell ⟨k3, 17, none⟩ (.int .i64 b1)).setCell ⟨k3, 18, none⟩ (.int .i64 b2)).setCell ⟨k3, 19, none⟩ (.int .i64 b3))) (by simp [go_sem, cc, ff]) ⟨((((((((hc2).trans (calm_put u2 k3 16 (.int .i64 b0)))).trans (calm_put ((u2.setCell ⟨k3, 16, none⟩ (.int .i64 b0))) k3 17 (.int .i64 b1)))).trans (calm_put (((u2.setCell ⟨k3, 16, none⟩ (.int .i64 b0)).setCell ⟨k3, 17, none⟩ (.int .i64 b1))) k3 18 (.int .i64 b2)))).trans (calm_put ((((u2.setCell ⟨k3, 16, none⟩ (.int .i64 b0)).setCell ⟨k3, 17, none⟩ (.int .i64 b1)).setCell ⟨k3, 18, none⟩ (.int .i64 b2))) k3 19 (.int .i64 b3))), fun w4_1 x3 hc3 => ?_⟩
  have B := ((((B.set 16 (.int .i64 b0)).set 17 (.int .i64 b1)).set 18 (.int .i64 b2)).set 19 (.int .i64 b3)).ext x3
  clear cc ff
  have B3 : Blk w4_1 k3 #[.int .i64 g0, .int .i64 g1, .int .i64 g2, .int .i64 g3, .int .i64 0, .int .i64 0, .int .i64 e0, .int .i64 e1, .int .i64 0, .int .i64 n0, .int .i64 n1, .int .i64 0, .int .i64 a0, .int .i64 a1, .int .i64 a2, .int .i64 a3, .int .i64 b0, .int .i64 b1, .int .i64 b2, .int .i64 b3, .int .i64 0, .int .i64 0, .int .i64 0, .int .i64 0] 42 := by simpa using B
  clear B x0 x1 x2 x3 hc0 hc1 hc2
  simp only [Act.put]
  have B1 := B1.calm hc3 (by simp; omega)
  have B2 := B2.calm hc3 (by simp; omega)
  have xx := Ext.calm_trans xx hc3 (by simp; omega)
  clear hc3
  go_wp2_with fail
  rw [rounds_succ]
  go_upto_region 5 with fail
  apply wp_region_vars [false, false, false, false, false, false, false, false, false, false, false, false, false, false, true] [k3] [⟨none, 0, k3, some 14, 42, #[.int .i64 g0, .int .i64 g1, .int .i64 g2, .int .i64 g3, .int .i64 0, .int .i64 0, .int .i64 e0, .int .i64 e1, .int .i64 0, .int .i64 n0, .int .i64 n1, .int .i64 0, .int .i64 a0, .int .i64 a1, .int .i64 a2, .int .i64 a3, .int .i64 b0, .int .i64 b1, .int .i64 b2, .int .i64 b3, .int .i64 0, .int .i64 0, .int .i64 0, .int .i64 0], #[.int .i64 g0, .int .i64 g1, .int .i64 g2, .int .i64 g3, .int .i64 g4, .int .i64 g5, .int .i64 e0, .int .i64 e1, .int .i64 0, .int .i64 n0, .int .i64 n1, .int .i64 0, .int .i64 a0, .int .i64 a1, .int .i64 a2, .int .i64 a3, .int .i64 b0, .int .i64 b1, .int .i64 b2, .int .i64 b3, .int .i64 0, .int .i64 0, .int .i64 0, .int .i64 0]⟩] _ (by kernel_rfl) (by kernel_rfl) (by kernel_rfl)
  case H =>
    intro x0 hx
    have hne : Nonempty (Wx x0) := ⟨⟨x0, Ext.refl x0⟩⟩
    have qB1 := fun (y : Wx x0) => ((B1.calm hx (by simp <;> omega)).ext y.ext).cell
    simp only [eraseM]
    repeat (go_big_quiet_step (fail))
    exact wpQuiet_nil rfl
  case hok =>
    simp only [List.forall_mem_cons, List.not_mem_nil, false_implies, implies_true, and_true]
    exact tgt_mine (v := .agg #[.int .i64 g4, .int .i64 g5]) (off := 4) (by simp) B3 rfl rfl rfl rfl rfl rfl (by kernel_rfl) (by kernel_rfl) (of_decide_eq_true (by kernel_rfl)) rfl
  case hdis =>
    intro k k' t t' hk hk' hkk ha ha'
    exfalso
    have h1 : k < 1 := (List.getElem?_eq_some_iff.1 hk).1
    have h2 : k' < 1 := (List.getElem?_eq_some_iff.1 hk').1
    omega
  rintro w3_2 f hw ⟨k0, l0, d0, u0, -⟩
  have e0' : f 0 = k3 := k0
  rw [e0'] at d0
  simp only [pairs, putAll, Option.isSome_none, Bool.false_eq_true, if_false]
  have B3 : Blk w3_2 k3 #[.int .i64 g0, .int .i64 g1, .int .i64 g2, .int .i64 g3, .int .i64 g4, .int .i64 g5, .int .i64 e0, .int .i64 e1, .int .i64 0, .int .i64 n0, .int .i64 n1, .int .i64 0, .int .i64 a0, .int .i64 a1, .int .i64 a2, .int .i64 a3, .int .i64 b0, .int .i64 b1, .int .i64 b2, .int .i64 b3, .int .i64 0, .int .i64 0, .int .i64 0, .int .i64 0] 42 := d0
  have B1 := B1.calm hw (by simp; omega)
  have B2 := B2.calm hw (by simp; omega)
  have xx := Ext.calm_trans xx hw (by simp; omega)
  clear k0 l0 d0 u0 e0' hw
  go_upto_region 6 with fail
  apply wp_region_tail 3 [false, false, false, false, false, false, false, false, false, false, false, false, false, false, false, false, false, true, false, false, true, false, false, true] [] [k3] _ (by kernel_rfl) (by kernel_rfl) (by kernel_rfl)
  case H =>
    intro x0 hx
    have hne : Nonempty (Wx x0) := ⟨⟨x0, Ext.refl x0⟩⟩
    have qB1 := fun (y : Wx x0) => ((B1.calm hx (by simp <;> omega)).ext y.ext).cell
    simp only [eraseM]
    repeat (go_big_quiet_step (fail))
    exact wpQuiet_nil rfl
  case hF => rfl
  change tailW _ _ _ _ [_, _, _] _ _
  refine fun u0 x0 hc0 => ?_
  have B := B3.ext x0
  have cc := B.cell
  have ff := B.frozen
  refine gives_skip (u' := (u0.setCell ⟨k3, 8, none⟩ (.int .i64 e2))) (by simp [go_sem, cc, ff]) ⟨((hc0).trans (calm_put u0 k3 8 (.int .i64 e2))), fun u1 x1 hc1 => ?_⟩
  have B := (B.set 8 (.int .i64 e2)).ext x1
  clear cc ff
  have cc := B.cell
  have ff := B.frozen
  refine gives_skip (u' := (u1.setCell ⟨k3, 11, none⟩ (.int .i64 n2))) (by simp [go_sem, cc, ff]) ⟨((hc1).trans (calm_put u1 k3 11 (.int .i64 n2))), fun u2 x2 hc2 => ?_⟩
  have B := (B.set 11 (.int .i64 n2)).ext x2
  clear cc ff
  have cc := B.cell
  have ff := B.frozen
  refine gives_skip (u' := ((((u2.setCell ⟨k3, 20, none⟩ (.int .i64 c0)).setCell ⟨k3, 21, none⟩ (.int .i64 c1)).setCell ⟨k3, 22, none⟩ (.int .i64 c2)).setCell ⟨k3, 23, none⟩ (.int .i64 c3))) (by simp [go_sem, cc, ff]) ⟨((((((((hc2).trans (calm_put u2 k3 20 (.int .i64 c0)))).trans (calm_put ((u2.setCell ⟨k3, 20, none⟩ (.int .i64 c0))) k3 21 (.int .i64 c1)))).trans (calm_put (((u2.setCell ⟨k3, 20, none⟩ (.int .i64 c0)).setCell ⟨k3, 21, none⟩ (.int .i64 c1))) k3 22 (.int .i64 c2)))).trans (calm_put ((((u2.setCell ⟨k3, 20, none⟩ (.int .i64 c0)).setCell ⟨k3, 21, none⟩ (.int .i64 c1)).setCell ⟨k3, 22, none⟩ (.int .i64 c2))) k3 23 (.int .i64 c3))), fun w4_2 x3 hc3 => ?_⟩
  have B := ((((B.set 20 (.int .i64 c0)).set 21 (.int .i64 c1)).set 22 (.int .i64 c2)).set 23 (.int .i64 c3)).ext x3
  clear cc ff
  have B3 : Blk w4_2 k3 #[.int .i64 g0, .int .i64 g1, .int .i64 g2, .int .i64 g3, .int .i64 g4, .int .i64 g5, .int .i64 e0, .int .i64 e1, .int .i64 e2, .int .i64 n0, .int .i64 n1, .int .i64 n2, .int .i64 a0, .int .i64 a1, .int .i64 a2, .int .i64 a3, .int .i64 b0, .int .i64 b1, .int .i64 b2, .int .i64 b3, .int .i64 c0, .int .i64 c1, .int .i64 c2, .int .i64 c3] 42 := by simpa using B
  clear B x0 x1 x2 x3 hc0 hc1 hc2
  simp only [Act.put]
  have B1 := B1.calm hc3 (by simp; omega)
  have B2 := B2.calm hc3 (by simp; omega)
  have xx := Ext.calm_trans xx hc3 (by simp; omega)
  clear hc3
  go_wp2_with fail
  rw [rounds_succ]
  have Bf := B2.setRow #[.int .i64 g0, .int .i64 g1, .int .i64 g2, .int .i64 g3, .int .i64 g4, .int .i64 g5, .int .i64 e0, .int .i64 e1, .int .i64 e2, .int .i64 n0, .int .i64 n1, .int .i64 n2, .int .i64 a0, .int .i64 a1, .int .i64 a2, .int .i64 a3, .int .i64 b0, .int .i64 b1, .int .i64 b2, .int .i64 b3, .int .i64 c0, .int .i64 c1, .int .i64 c2, .int .i64 c3]
  have Ef := xx.setRow (g := w.heap.size + 1) (by omega) #[.int .i64 g0, .int .i64 g1, .int .i64 g2, .int .i64 g3, .int .i64 g4, .int .i64 g5, .int .i64 e0, .int .i64 e1, .int .i64 e2, .int .i64 n0, .int .i64 n1, .int .i64 n2, .int .i64 a0, .int .i64 a1, .int .i64 a2, .int .i64 a3, .int .i64 b0, .int .i64 b1, .int .i64 b2, .int .i64 b3, .int .i64 c0, .int .i64 c1, .int .i64 c2, .int .i64 c3]
  go_wp2_with (first
    | ((with_reducible refine wpList_load_blk (op := ⟨some 44, _, _, _, _, _⟩) ?_ 42 (.tmp 3) ?_ (k3) ?_ (z := _) (T := 42) B3 Try.underlying42 ?_ ?_ ?_); rfl; rfl; rfl; rfl; kernel_rfl)
    | ((with_reducible refine wpList_store_blk (op := ⟨none, .store 42 (.tmp 2) (.tmp 44), _, _, _, _⟩) ?_ 42 (.tmp 2) (.tmp 44) ?_ (w.heap.size + 1) ?_ (cs := #[.int .i64 g0, .int .i64 g1, .int .i64 g2, .int .i64 g3, .int .i64 g4, .int .i64 g5, .int .i64 e0, .int .i64 e1, .int .i64 e2, .int .i64 n0, .int .i64 n1, .int .i64 n2, .int .i64 a0, .int .i64 a1, .int .i64 a2, .int .i64 a3, .int .i64 b0, .int .i64 b1, .int .i64 b2, .int .i64 b3, .int .i64 c0, .int .i64 c1, .int .i64 c2, .int .i64 c3]) ?_ (z := #[.int .i64 0, .int .i64 0, .int .i64 0, .int .i64 0, .int .i64 0, .int .i64 0, .int .i64 0, .int .i64 0, .int .i64 0, .int .i64 0, .int .i64 0, .int .i64 0, .int .i64 0, .int .i64 0, .int .i64 0, .int .i64 0, .int .i64 0, .int .i64 0, .int .i64 0, .int .i64 0, .int .i64 0, .int .i64 0, .int .i64 0, .int .i64 0]) (T := 42) ?_ ?_ ?_ ?_ ?_); rfl; rfl; rfl; rfl; exact B2; kernel_rfl; kernel_rfl; kernel_rfl)
    | fail)
  exact bodyPost_ret (v := .agg #[.int .i64 g0, .int .i64 g1, .int .i64 g2, .int .i64 g3, .int .i64 g4, .int .i64 g5, .int .i64 e0, .int .i64 e1, .int .i64 e2, .int .i64 n0, .int .i64 n1, .int .i64 n2, .int .i64 a0, .int .i64 a1, .int .i64 a2, .int .i64 a3, .int .i64 b0, .int .i64 b1, .int .i64 b2, .int .i64 b3, .int .i64 c0, .int .i64 c1, .int .i64 c2, .int .i64 c3]) (results_blk (b := w.heap.size + 1) (t := 2) (ty := 42) rfl rfl Bf Try.underlying42 rfl (by kernel_rfl)) rfl ⟨rfl, Ef⟩
end Go.Proofs.Ytglehnmkdapnpaa

