/-
  DERIVED. The landed clip's Inside (made by mkclip.py).
-/
import Derived.Test.YtjohcngmoemmbaaClipGen
import Derived.Test.YtjohcngmoemmbaaVecWithin
import Derived.Test.YtjohcngmoemmbaaCalmLast
namespace Go.Proofs.Ytjohcngmoemmbaa
open Go.RowKit
set_option linter.unusedVariables false
theorem withinW_lim (n : Int) : withinW n 4194304 = lim4 n := by
  unfold withinW withinZ lim4
  rw [if_neg (by omega)]
set_option maxRecDepth 100000 in
set_option maxHeartbeats 4000000 in
theorem inside_0 (p0 p1 p2 p3 c0 c1 c2 c3 q0 q1 q2 q3 : Int) (h0 : -4194304 ≤ q0 ∧ q0 ≤ 4194304) (h1 : -4194304 ≤ q1 ∧ q1 ≤ 4194304) (h2 : -4194304 ≤ q2 ∧ q2 ≤ 4194304) (h3 : -4194304 ≤ q3 ∧ q3 ≤ 4194304) (hW : ∀ u : World, Calls Try.prog 14 #[.agg #[.int .i64 p0, .int .i64 p1, .int .i64 p2, .int .i64 p3], .int .i64 4194304] u fun e w' => e = .returned (.agg #[.int .i64 q0, .int .i64 q1, .int .i64 q2, .int .i64 q3]) ∧ Ext u w') (w : World) : Calls Try.prog 15 #[.agg #[.int .i64 p0, .int .i64 p1, .int .i64 p2, .int .i64 p3, .int .i64 c0, .int .i64 c1, .int .i64 c2, .int .i64 c3], .int .i64 0] w fun e w' => e = .returned (.int .i64 (q3 - 256)) ∧ Ext w w' := by
  have HW := Lib.hid hW
  clear hW
  have x1 : Ext w (w.alloc (.cells #[.int .i64 p0, .int .i64 p1, .int .i64 p2, .int .i64 p3, .int .i64 c0, .int .i64 c1, .int .i64 c2, .int .i64 c3] 32)) := (Ext.refl w).alloc _ _
  go_enter Try.func15, Try.ntmps15
  go_wp2_with fail
  refine (HW.out _).mono ?_
  rintro e w2 ⟨rfl, x2⟩
  have x12 := x1.trans x2
  have B5 := (Blk.new w2 #[.int .i64 0, .int .i64 0, .int .i64 0, .int .i64 0] 30).setRow #[.int .i64 q0, .int .i64 q1, .int .i64 q2, .int .i64 q3]
  have x5 : Ext w ((w2.alloc (.cells #[.int .i64 0, .int .i64 0, .int .i64 0, .int .i64 0] 30)).setRow w2.heap.size #[.int .i64 q0, .int .i64 q1, .int .i64 q2, .int .i64 q3]) := (x12.alloc _ _).setRow (by have := x12.size; omega) _
  go_upto_region 2 with (first
    | ((with_reducible refine wpList_store_blk (op := ⟨none, .store 30 (.tmp 5) (.tmp 12), _, _, _, _⟩) ?_ 30 (.tmp 5) (.tmp 12) ?_ (w2.heap.size) ?_ (cs := #[.int .i64 q0, .int .i64 q1, .int .i64 q2, .int .i64 q3]) ?_ (z := #[.int .i64 0, .int .i64 0, .int .i64 0, .int .i64 0]) (T := 30) ?_ ?_ ?_ ?_ ?_); rfl; rfl; rfl; rfl; exact Blk.new w2 _ _; kernel_rfl; kernel_rfl; kernel_rfl)
    | fail)
  generalize (w2.alloc (.cells #[.int .i64 0, .int .i64 0, .int .i64 0, .int .i64 0] 30)).setRow w2.heap.size #[.int .i64 q0, .int .i64 q1, .int .i64 q2, .int .i64 q3] = w3 at *
  generalize w2.heap.size = b5 at *
  clear x1 x2 x12 HW
  have cB5 := B5.cell
  simp only [Act.put]
  apply wp_region_reads2 _ (by kernel_rfl) (by kernel_rfl)
  case H =>
    intro y0 hy0
    have hne : Nonempty (Wx y0) := ⟨⟨y0, Ext.refl y0⟩⟩
    have qB := fun (t : Wx y0) => (B5.ext (hy0.trans t.ext)).cell
    repeat (go_big_quiet_step (fail))
    exact wpQuiet_nil rfl
  intro w4 x4
  have x45 := x5.trans x4
  clear x4 x5 B5 cB5
  go_wp2
  go_ret
  exact ⟨by first | rfl | (simp; omega), x45⟩
set_option maxRecDepth 100000 in
set_option maxHeartbeats 4000000 in
theorem inside_1 (p0 p1 p2 p3 c0 c1 c2 c3 q0 q1 q2 q3 : Int) (h0 : -4194304 ≤ q0 ∧ q0 ≤ 4194304) (h1 : -4194304 ≤ q1 ∧ q1 ≤ 4194304) (h2 : -4194304 ≤ q2 ∧ q2 ≤ 4194304) (h3 : -4194304 ≤ q3 ∧ q3 ≤ 4194304) (hW : ∀ u : World, Calls Try.prog 14 #[.agg #[.int .i64 p0, .int .i64 p1, .int .i64 p2, .int .i64 p3], .int .i64 4194304] u fun e w' => e = .returned (.agg #[.int .i64 q0, .int .i64 q1, .int .i64 q2, .int .i64 q3]) ∧ Ext u w') (w : World) : Calls Try.prog 15 #[.agg #[.int .i64 p0, .int .i64 p1, .int .i64 p2, .int .i64 p3, .int .i64 c0, .int .i64 c1, .int .i64 c2, .int .i64 c3], .int .i64 1] w fun e w' => e = .returned (.int .i64 (q2)) ∧ Ext w w' := by
  have HW := Lib.hid hW
  clear hW
  have x1 : Ext w (w.alloc (.cells #[.int .i64 p0, .int .i64 p1, .int .i64 p2, .int .i64 p3, .int .i64 c0, .int .i64 c1, .int .i64 c2, .int .i64 c3] 32)) := (Ext.refl w).alloc _ _
  go_enter Try.func15, Try.ntmps15
  go_wp2_with fail
  refine (HW.out _).mono ?_
  rintro e w2 ⟨rfl, x2⟩
  have x12 := x1.trans x2
  have B5 := (Blk.new w2 #[.int .i64 0, .int .i64 0, .int .i64 0, .int .i64 0] 30).setRow #[.int .i64 q0, .int .i64 q1, .int .i64 q2, .int .i64 q3]
  have x5 : Ext w ((w2.alloc (.cells #[.int .i64 0, .int .i64 0, .int .i64 0, .int .i64 0] 30)).setRow w2.heap.size #[.int .i64 q0, .int .i64 q1, .int .i64 q2, .int .i64 q3]) := (x12.alloc _ _).setRow (by have := x12.size; omega) _
  go_upto_region 2 with (first
    | ((with_reducible refine wpList_store_blk (op := ⟨none, .store 30 (.tmp 5) (.tmp 12), _, _, _, _⟩) ?_ 30 (.tmp 5) (.tmp 12) ?_ (w2.heap.size) ?_ (cs := #[.int .i64 q0, .int .i64 q1, .int .i64 q2, .int .i64 q3]) ?_ (z := #[.int .i64 0, .int .i64 0, .int .i64 0, .int .i64 0]) (T := 30) ?_ ?_ ?_ ?_ ?_); rfl; rfl; rfl; rfl; exact Blk.new w2 _ _; kernel_rfl; kernel_rfl; kernel_rfl)
    | fail)
  generalize (w2.alloc (.cells #[.int .i64 0, .int .i64 0, .int .i64 0, .int .i64 0] 30)).setRow w2.heap.size #[.int .i64 q0, .int .i64 q1, .int .i64 q2, .int .i64 q3] = w3 at *
  generalize w2.heap.size = b5 at *
  clear x1 x2 x12 HW
  have cB5 := B5.cell
  simp only [Act.put]
  apply wp_region_reads2 _ (by kernel_rfl) (by kernel_rfl)
  case H =>
    intro y0 hy0
    have hne : Nonempty (Wx y0) := ⟨⟨y0, Ext.refl y0⟩⟩
    have qB := fun (t : Wx y0) => (B5.ext (hy0.trans t.ext)).cell
    repeat (go_big_quiet_step (fail))
    exact wpQuiet_nil rfl
  intro w4 x4
  have x45 := x5.trans x4
  clear x4 x5 B5 cB5
  go_wp2
  go_ret
  exact ⟨by first | rfl | (simp; omega), x45⟩
set_option maxRecDepth 100000 in
set_option maxHeartbeats 4000000 in
theorem inside_2 (p0 p1 p2 p3 c0 c1 c2 c3 q0 q1 q2 q3 : Int) (h0 : -4194304 ≤ q0 ∧ q0 ≤ 4194304) (h1 : -4194304 ≤ q1 ∧ q1 ≤ 4194304) (h2 : -4194304 ≤ q2 ∧ q2 ≤ 4194304) (h3 : -4194304 ≤ q3 ∧ q3 ≤ 4194304) (hW : ∀ u : World, Calls Try.prog 14 #[.agg #[.int .i64 p0, .int .i64 p1, .int .i64 p2, .int .i64 p3], .int .i64 4194304] u fun e w' => e = .returned (.agg #[.int .i64 q0, .int .i64 q1, .int .i64 q2, .int .i64 q3]) ∧ Ext u w') (w : World) : Calls Try.prog 15 #[.agg #[.int .i64 p0, .int .i64 p1, .int .i64 p2, .int .i64 p3, .int .i64 c0, .int .i64 c1, .int .i64 c2, .int .i64 c3], .int .i64 2] w fun e w' => e = .returned (.int .i64 (q3 - q2)) ∧ Ext w w' := by
  have HW := Lib.hid hW
  clear hW
  have x1 : Ext w (w.alloc (.cells #[.int .i64 p0, .int .i64 p1, .int .i64 p2, .int .i64 p3, .int .i64 c0, .int .i64 c1, .int .i64 c2, .int .i64 c3] 32)) := (Ext.refl w).alloc _ _
  go_enter Try.func15, Try.ntmps15
  go_wp2_with fail
  refine (HW.out _).mono ?_
  rintro e w2 ⟨rfl, x2⟩
  have x12 := x1.trans x2
  have B5 := (Blk.new w2 #[.int .i64 0, .int .i64 0, .int .i64 0, .int .i64 0] 30).setRow #[.int .i64 q0, .int .i64 q1, .int .i64 q2, .int .i64 q3]
  have x5 : Ext w ((w2.alloc (.cells #[.int .i64 0, .int .i64 0, .int .i64 0, .int .i64 0] 30)).setRow w2.heap.size #[.int .i64 q0, .int .i64 q1, .int .i64 q2, .int .i64 q3]) := (x12.alloc _ _).setRow (by have := x12.size; omega) _
  go_upto_region 2 with (first
    | ((with_reducible refine wpList_store_blk (op := ⟨none, .store 30 (.tmp 5) (.tmp 12), _, _, _, _⟩) ?_ 30 (.tmp 5) (.tmp 12) ?_ (w2.heap.size) ?_ (cs := #[.int .i64 q0, .int .i64 q1, .int .i64 q2, .int .i64 q3]) ?_ (z := #[.int .i64 0, .int .i64 0, .int .i64 0, .int .i64 0]) (T := 30) ?_ ?_ ?_ ?_ ?_); rfl; rfl; rfl; rfl; exact Blk.new w2 _ _; kernel_rfl; kernel_rfl; kernel_rfl)
    | fail)
  generalize (w2.alloc (.cells #[.int .i64 0, .int .i64 0, .int .i64 0, .int .i64 0] 30)).setRow w2.heap.size #[.int .i64 q0, .int .i64 q1, .int .i64 q2, .int .i64 q3] = w3 at *
  generalize w2.heap.size = b5 at *
  clear x1 x2 x12 HW
  have cB5 := B5.cell
  simp only [Act.put]
  apply wp_region_reads2 _ (by kernel_rfl) (by kernel_rfl)
  case H =>
    intro y0 hy0
    have hne : Nonempty (Wx y0) := ⟨⟨y0, Ext.refl y0⟩⟩
    have qB := fun (t : Wx y0) => (B5.ext (hy0.trans t.ext)).cell
    repeat (go_big_quiet_step (fail))
    exact wpQuiet_nil rfl
  intro w4 x4
  have x45 := x5.trans x4
  clear x4 x5 B5 cB5
  go_wp2
  go_ret
  exact ⟨by first | rfl | (simp; omega), x45⟩
set_option maxRecDepth 100000 in
set_option maxHeartbeats 4000000 in
theorem inside_3 (p0 p1 p2 p3 c0 c1 c2 c3 q0 q1 q2 q3 : Int) (h0 : -4194304 ≤ q0 ∧ q0 ≤ 4194304) (h1 : -4194304 ≤ q1 ∧ q1 ≤ 4194304) (h2 : -4194304 ≤ q2 ∧ q2 ≤ 4194304) (h3 : -4194304 ≤ q3 ∧ q3 ≤ 4194304) (hW : ∀ u : World, Calls Try.prog 14 #[.agg #[.int .i64 p0, .int .i64 p1, .int .i64 p2, .int .i64 p3], .int .i64 4194304] u fun e w' => e = .returned (.agg #[.int .i64 q0, .int .i64 q1, .int .i64 q2, .int .i64 q3]) ∧ Ext u w') (w : World) : Calls Try.prog 15 #[.agg #[.int .i64 p0, .int .i64 p1, .int .i64 p2, .int .i64 p3, .int .i64 c0, .int .i64 c1, .int .i64 c2, .int .i64 c3], .int .i64 3] w fun e w' => e = .returned (.int .i64 (8 * q3 + q0)) ∧ Ext w w' := by
  have HW := Lib.hid hW
  clear hW
  have x1 : Ext w (w.alloc (.cells #[.int .i64 p0, .int .i64 p1, .int .i64 p2, .int .i64 p3, .int .i64 c0, .int .i64 c1, .int .i64 c2, .int .i64 c3] 32)) := (Ext.refl w).alloc _ _
  go_enter Try.func15, Try.ntmps15
  go_wp2_with fail
  refine (HW.out _).mono ?_
  rintro e w2 ⟨rfl, x2⟩
  have x12 := x1.trans x2
  have B5 := (Blk.new w2 #[.int .i64 0, .int .i64 0, .int .i64 0, .int .i64 0] 30).setRow #[.int .i64 q0, .int .i64 q1, .int .i64 q2, .int .i64 q3]
  have x5 : Ext w ((w2.alloc (.cells #[.int .i64 0, .int .i64 0, .int .i64 0, .int .i64 0] 30)).setRow w2.heap.size #[.int .i64 q0, .int .i64 q1, .int .i64 q2, .int .i64 q3]) := (x12.alloc _ _).setRow (by have := x12.size; omega) _
  go_upto_region 2 with (first
    | ((with_reducible refine wpList_store_blk (op := ⟨none, .store 30 (.tmp 5) (.tmp 12), _, _, _, _⟩) ?_ 30 (.tmp 5) (.tmp 12) ?_ (w2.heap.size) ?_ (cs := #[.int .i64 q0, .int .i64 q1, .int .i64 q2, .int .i64 q3]) ?_ (z := #[.int .i64 0, .int .i64 0, .int .i64 0, .int .i64 0]) (T := 30) ?_ ?_ ?_ ?_ ?_); rfl; rfl; rfl; rfl; exact Blk.new w2 _ _; kernel_rfl; kernel_rfl; kernel_rfl)
    | fail)
  generalize (w2.alloc (.cells #[.int .i64 0, .int .i64 0, .int .i64 0, .int .i64 0] 30)).setRow w2.heap.size #[.int .i64 q0, .int .i64 q1, .int .i64 q2, .int .i64 q3] = w3 at *
  generalize w2.heap.size = b5 at *
  clear x1 x2 x12 HW
  have cB5 := B5.cell
  simp only [Act.put]
  apply wp_region_reads2 _ (by kernel_rfl) (by kernel_rfl)
  case H =>
    intro y0 hy0
    have hne : Nonempty (Wx y0) := ⟨⟨y0, Ext.refl y0⟩⟩
    have qB := fun (t : Wx y0) => (B5.ext (hy0.trans t.ext)).cell
    repeat (go_big_quiet_step (fail))
    exact wpQuiet_nil rfl
  intro w4 x4
  have x45 := x5.trans x4
  clear x4 x5 B5 cB5
  go_wp2
  go_ret
  exact ⟨by first | rfl | (simp; omega), x45⟩
set_option maxRecDepth 100000 in
set_option maxHeartbeats 4000000 in
theorem inside_4 (p0 p1 p2 p3 c0 c1 c2 c3 q0 q1 q2 q3 : Int) (h0 : -4194304 ≤ q0 ∧ q0 ≤ 4194304) (h1 : -4194304 ≤ q1 ∧ q1 ≤ 4194304) (h2 : -4194304 ≤ q2 ∧ q2 ≤ 4194304) (h3 : -4194304 ≤ q3 ∧ q3 ≤ 4194304) (hW : ∀ u : World, Calls Try.prog 14 #[.agg #[.int .i64 p0, .int .i64 p1, .int .i64 p2, .int .i64 p3], .int .i64 4194304] u fun e w' => e = .returned (.agg #[.int .i64 q0, .int .i64 q1, .int .i64 q2, .int .i64 q3]) ∧ Ext u w') (w : World) : Calls Try.prog 15 #[.agg #[.int .i64 p0, .int .i64 p1, .int .i64 p2, .int .i64 p3, .int .i64 c0, .int .i64 c1, .int .i64 c2, .int .i64 c3], .int .i64 4] w fun e w' => e = .returned (.int .i64 (8 * q3 - q0)) ∧ Ext w w' := by
  have HW := Lib.hid hW
  clear hW
  have x1 : Ext w (w.alloc (.cells #[.int .i64 p0, .int .i64 p1, .int .i64 p2, .int .i64 p3, .int .i64 c0, .int .i64 c1, .int .i64 c2, .int .i64 c3] 32)) := (Ext.refl w).alloc _ _
  go_enter Try.func15, Try.ntmps15
  go_wp2_with fail
  refine (HW.out _).mono ?_
  rintro e w2 ⟨rfl, x2⟩
  have x12 := x1.trans x2
  have B5 := (Blk.new w2 #[.int .i64 0, .int .i64 0, .int .i64 0, .int .i64 0] 30).setRow #[.int .i64 q0, .int .i64 q1, .int .i64 q2, .int .i64 q3]
  have x5 : Ext w ((w2.alloc (.cells #[.int .i64 0, .int .i64 0, .int .i64 0, .int .i64 0] 30)).setRow w2.heap.size #[.int .i64 q0, .int .i64 q1, .int .i64 q2, .int .i64 q3]) := (x12.alloc _ _).setRow (by have := x12.size; omega) _
  go_upto_region 2 with (first
    | ((with_reducible refine wpList_store_blk (op := ⟨none, .store 30 (.tmp 5) (.tmp 12), _, _, _, _⟩) ?_ 30 (.tmp 5) (.tmp 12) ?_ (w2.heap.size) ?_ (cs := #[.int .i64 q0, .int .i64 q1, .int .i64 q2, .int .i64 q3]) ?_ (z := #[.int .i64 0, .int .i64 0, .int .i64 0, .int .i64 0]) (T := 30) ?_ ?_ ?_ ?_ ?_); rfl; rfl; rfl; rfl; exact Blk.new w2 _ _; kernel_rfl; kernel_rfl; kernel_rfl)
    | fail)
  generalize (w2.alloc (.cells #[.int .i64 0, .int .i64 0, .int .i64 0, .int .i64 0] 30)).setRow w2.heap.size #[.int .i64 q0, .int .i64 q1, .int .i64 q2, .int .i64 q3] = w3 at *
  generalize w2.heap.size = b5 at *
  clear x1 x2 x12 HW
  have cB5 := B5.cell
  simp only [Act.put]
  apply wp_region_reads2 _ (by kernel_rfl) (by kernel_rfl)
  case H =>
    intro y0 hy0
    have hne : Nonempty (Wx y0) := ⟨⟨y0, Ext.refl y0⟩⟩
    have qB := fun (t : Wx y0) => (B5.ext (hy0.trans t.ext)).cell
    repeat (go_big_quiet_step (fail))
    exact wpQuiet_nil rfl
  intro w4 x4
  have x45 := x5.trans x4
  clear x4 x5 B5 cB5
  go_wp2
  go_ret
  exact ⟨by first | rfl | (simp; omega), x45⟩
set_option maxRecDepth 100000 in
set_option maxHeartbeats 4000000 in
theorem inside_5 (p0 p1 p2 p3 c0 c1 c2 c3 q0 q1 q2 q3 : Int) (h0 : -4194304 ≤ q0 ∧ q0 ≤ 4194304) (h1 : -4194304 ≤ q1 ∧ q1 ≤ 4194304) (h2 : -4194304 ≤ q2 ∧ q2 ≤ 4194304) (h3 : -4194304 ≤ q3 ∧ q3 ≤ 4194304) (hW : ∀ u : World, Calls Try.prog 14 #[.agg #[.int .i64 p0, .int .i64 p1, .int .i64 p2, .int .i64 p3], .int .i64 4194304] u fun e w' => e = .returned (.agg #[.int .i64 q0, .int .i64 q1, .int .i64 q2, .int .i64 q3]) ∧ Ext u w') (w : World) : Calls Try.prog 15 #[.agg #[.int .i64 p0, .int .i64 p1, .int .i64 p2, .int .i64 p3, .int .i64 c0, .int .i64 c1, .int .i64 c2, .int .i64 c3], .int .i64 5] w fun e w' => e = .returned (.int .i64 (8 * q3 + q1)) ∧ Ext w w' := by
  have HW := Lib.hid hW
  clear hW
  have x1 : Ext w (w.alloc (.cells #[.int .i64 p0, .int .i64 p1, .int .i64 p2, .int .i64 p3, .int .i64 c0, .int .i64 c1, .int .i64 c2, .int .i64 c3] 32)) := (Ext.refl w).alloc _ _
  go_enter Try.func15, Try.ntmps15
  go_wp2_with fail
  refine (HW.out _).mono ?_
  rintro e w2 ⟨rfl, x2⟩
  have x12 := x1.trans x2
  have B5 := (Blk.new w2 #[.int .i64 0, .int .i64 0, .int .i64 0, .int .i64 0] 30).setRow #[.int .i64 q0, .int .i64 q1, .int .i64 q2, .int .i64 q3]
  have x5 : Ext w ((w2.alloc (.cells #[.int .i64 0, .int .i64 0, .int .i64 0, .int .i64 0] 30)).setRow w2.heap.size #[.int .i64 q0, .int .i64 q1, .int .i64 q2, .int .i64 q3]) := (x12.alloc _ _).setRow (by have := x12.size; omega) _
  go_upto_region 2 with (first
    | ((with_reducible refine wpList_store_blk (op := ⟨none, .store 30 (.tmp 5) (.tmp 12), _, _, _, _⟩) ?_ 30 (.tmp 5) (.tmp 12) ?_ (w2.heap.size) ?_ (cs := #[.int .i64 q0, .int .i64 q1, .int .i64 q2, .int .i64 q3]) ?_ (z := #[.int .i64 0, .int .i64 0, .int .i64 0, .int .i64 0]) (T := 30) ?_ ?_ ?_ ?_ ?_); rfl; rfl; rfl; rfl; exact Blk.new w2 _ _; kernel_rfl; kernel_rfl; kernel_rfl)
    | fail)
  generalize (w2.alloc (.cells #[.int .i64 0, .int .i64 0, .int .i64 0, .int .i64 0] 30)).setRow w2.heap.size #[.int .i64 q0, .int .i64 q1, .int .i64 q2, .int .i64 q3] = w3 at *
  generalize w2.heap.size = b5 at *
  clear x1 x2 x12 HW
  have cB5 := B5.cell
  simp only [Act.put]
  apply wp_region_reads2 _ (by kernel_rfl) (by kernel_rfl)
  case H =>
    intro y0 hy0
    have hne : Nonempty (Wx y0) := ⟨⟨y0, Ext.refl y0⟩⟩
    have qB := fun (t : Wx y0) => (B5.ext (hy0.trans t.ext)).cell
    repeat (go_big_quiet_step (fail))
    exact wpQuiet_nil rfl
  intro w4 x4
  have x45 := x5.trans x4
  clear x4 x5 B5 cB5
  go_wp2
  go_ret
  exact ⟨by first | rfl | (simp; omega), x45⟩
set_option maxRecDepth 100000 in
set_option maxHeartbeats 4000000 in
theorem inside_6 (p0 p1 p2 p3 c0 c1 c2 c3 q0 q1 q2 q3 : Int) (h0 : -4194304 ≤ q0 ∧ q0 ≤ 4194304) (h1 : -4194304 ≤ q1 ∧ q1 ≤ 4194304) (h2 : -4194304 ≤ q2 ∧ q2 ≤ 4194304) (h3 : -4194304 ≤ q3 ∧ q3 ≤ 4194304) (hW : ∀ u : World, Calls Try.prog 14 #[.agg #[.int .i64 p0, .int .i64 p1, .int .i64 p2, .int .i64 p3], .int .i64 4194304] u fun e w' => e = .returned (.agg #[.int .i64 q0, .int .i64 q1, .int .i64 q2, .int .i64 q3]) ∧ Ext u w') (w : World) : Calls Try.prog 15 #[.agg #[.int .i64 p0, .int .i64 p1, .int .i64 p2, .int .i64 p3, .int .i64 c0, .int .i64 c1, .int .i64 c2, .int .i64 c3], .int .i64 6] w fun e w' => e = .returned (.int .i64 (8 * q3 - q1)) ∧ Ext w w' := by
  have HW := Lib.hid hW
  clear hW
  have x1 : Ext w (w.alloc (.cells #[.int .i64 p0, .int .i64 p1, .int .i64 p2, .int .i64 p3, .int .i64 c0, .int .i64 c1, .int .i64 c2, .int .i64 c3] 32)) := (Ext.refl w).alloc _ _
  go_enter Try.func15, Try.ntmps15
  go_wp2_with fail
  refine (HW.out _).mono ?_
  rintro e w2 ⟨rfl, x2⟩
  have x12 := x1.trans x2
  have B5 := (Blk.new w2 #[.int .i64 0, .int .i64 0, .int .i64 0, .int .i64 0] 30).setRow #[.int .i64 q0, .int .i64 q1, .int .i64 q2, .int .i64 q3]
  have x5 : Ext w ((w2.alloc (.cells #[.int .i64 0, .int .i64 0, .int .i64 0, .int .i64 0] 30)).setRow w2.heap.size #[.int .i64 q0, .int .i64 q1, .int .i64 q2, .int .i64 q3]) := (x12.alloc _ _).setRow (by have := x12.size; omega) _
  go_upto_region 2 with (first
    | ((with_reducible refine wpList_store_blk (op := ⟨none, .store 30 (.tmp 5) (.tmp 12), _, _, _, _⟩) ?_ 30 (.tmp 5) (.tmp 12) ?_ (w2.heap.size) ?_ (cs := #[.int .i64 q0, .int .i64 q1, .int .i64 q2, .int .i64 q3]) ?_ (z := #[.int .i64 0, .int .i64 0, .int .i64 0, .int .i64 0]) (T := 30) ?_ ?_ ?_ ?_ ?_); rfl; rfl; rfl; rfl; exact Blk.new w2 _ _; kernel_rfl; kernel_rfl; kernel_rfl)
    | fail)
  generalize (w2.alloc (.cells #[.int .i64 0, .int .i64 0, .int .i64 0, .int .i64 0] 30)).setRow w2.heap.size #[.int .i64 q0, .int .i64 q1, .int .i64 q2, .int .i64 q3] = w3 at *
  generalize w2.heap.size = b5 at *
  clear x1 x2 x12 HW
  have cB5 := B5.cell
  simp only [Act.put]
  apply wp_region_reads2 _ (by kernel_rfl) (by kernel_rfl)
  case H =>
    intro y0 hy0
    have hne : Nonempty (Wx y0) := ⟨⟨y0, Ext.refl y0⟩⟩
    have qB := fun (t : Wx y0) => (B5.ext (hy0.trans t.ext)).cell
    repeat (go_big_quiet_step (fail))
    exact wpQuiet_nil rfl
  intro w4 x4
  have x45 := x5.trans x4
  clear x4 x5 B5 cB5
  go_wp2
  go_ret
  exact ⟨by first | rfl | (simp; omega), x45⟩
set_option maxRecDepth 100000 in
set_option maxHeartbeats 4000000 in
theorem inside_7 (p0 p1 p2 p3 c0 c1 c2 c3 q0 q1 q2 q3 : Int) (h0 : -4194304 ≤ q0 ∧ q0 ≤ 4194304) (h1 : -4194304 ≤ q1 ∧ q1 ≤ 4194304) (h2 : -4194304 ≤ q2 ∧ q2 ≤ 4194304) (h3 : -4194304 ≤ q3 ∧ q3 ≤ 4194304) (hW : ∀ u : World, Calls Try.prog 14 #[.agg #[.int .i64 p0, .int .i64 p1, .int .i64 p2, .int .i64 p3], .int .i64 4194304] u fun e w' => e = .returned (.agg #[.int .i64 q0, .int .i64 q1, .int .i64 q2, .int .i64 q3]) ∧ Ext u w') (k : Int) (n0 : k ≠ 0) (n1 : k ≠ 1) (n2 : k ≠ 2) (n3 : k ≠ 3) (n4 : k ≠ 4) (n5 : k ≠ 5) (n6 : k ≠ 6) (w : World) : Calls Try.prog 15 #[.agg #[.int .i64 p0, .int .i64 p1, .int .i64 p2, .int .i64 p3, .int .i64 c0, .int .i64 c1, .int .i64 c2, .int .i64 c3], .int .i64 k] w fun e w' => e = .returned (.int .i64 (0)) ∧ Ext w w' := by
  have HW := Lib.hid hW
  clear hW
  have x1 : Ext w (w.alloc (.cells #[.int .i64 p0, .int .i64 p1, .int .i64 p2, .int .i64 p3, .int .i64 c0, .int .i64 c1, .int .i64 c2, .int .i64 c3] 32)) := (Ext.refl w).alloc _ _
  go_enter Try.func15, Try.ntmps15
  go_wp2_with fail
  refine (HW.out _).mono ?_
  rintro e w2 ⟨rfl, x2⟩
  have x12 := x1.trans x2
  have B5 := (Blk.new w2 #[.int .i64 0, .int .i64 0, .int .i64 0, .int .i64 0] 30).setRow #[.int .i64 q0, .int .i64 q1, .int .i64 q2, .int .i64 q3]
  have x5 : Ext w ((w2.alloc (.cells #[.int .i64 0, .int .i64 0, .int .i64 0, .int .i64 0] 30)).setRow w2.heap.size #[.int .i64 q0, .int .i64 q1, .int .i64 q2, .int .i64 q3]) := (x12.alloc _ _).setRow (by have := x12.size; omega) _
  go_upto_region 2 with (first
    | ((with_reducible refine wpList_store_blk (op := ⟨none, .store 30 (.tmp 5) (.tmp 12), _, _, _, _⟩) ?_ 30 (.tmp 5) (.tmp 12) ?_ (w2.heap.size) ?_ (cs := #[.int .i64 q0, .int .i64 q1, .int .i64 q2, .int .i64 q3]) ?_ (z := #[.int .i64 0, .int .i64 0, .int .i64 0, .int .i64 0]) (T := 30) ?_ ?_ ?_ ?_ ?_); rfl; rfl; rfl; rfl; exact Blk.new w2 _ _; kernel_rfl; kernel_rfl; kernel_rfl)
    | fail)
  generalize (w2.alloc (.cells #[.int .i64 0, .int .i64 0, .int .i64 0, .int .i64 0] 30)).setRow w2.heap.size #[.int .i64 q0, .int .i64 q1, .int .i64 q2, .int .i64 q3] = w3 at *
  generalize w2.heap.size = b5 at *
  clear x1 x2 x12 HW
  have cB5 := B5.cell
  simp only [Act.put]
  apply wp_region_reads2 _ (by kernel_rfl) (by kernel_rfl)
  case H =>
    intro y0 hy0
    have hne : Nonempty (Wx y0) := ⟨⟨y0, Ext.refl y0⟩⟩
    have qB := fun (t : Wx y0) => (B5.ext (hy0.trans t.ext)).cell
    repeat (go_big_quiet_step (fail))
    exact wpQuiet_nil rfl
  intro w4 x4
  have x45 := x5.trans x4
  clear x4 x5 B5 cB5
  go_wp2
  go_ret
  exact ⟨by first | rfl | (simp; omega), x45⟩
theorem vwithin_lim (p0 p1 p2 p3 : Int) (b0 : -9223372036854775808 ≤ p0 ∧ p0 ≤ 9223372036854775807) (b1 : -9223372036854775808 ≤ p1 ∧ p1 ≤ 9223372036854775807) (b2 : -9223372036854775808 ≤ p2 ∧ p2 ≤ 9223372036854775807) (b3 : -9223372036854775808 ≤ p3 ∧ p3 ≤ 9223372036854775807) (u : World) : Calls Try.prog 14 #[.agg #[.int .i64 p0, .int .i64 p1, .int .i64 p2, .int .i64 p3], .int .i64 4194304] u fun e w' => e = .returned (.agg #[.int .i64 (lim4 p0), .int .i64 (lim4 p1), .int .i64 (lim4 p2), .int .i64 (lim4 p3)]) ∧ Ext u w' := by
  have := vec_within p0 p1 p2 p3 4194304 b0 b1 b2 b3 (by omega) u
  simp only [withinW_lim] at this
  exact this
theorem inside_any (v : V8) (h : v.in64) (k : Int) (w : World) : Calls Try.prog 15 #[.agg v.l.toArray, .int .i64 k] w fun e w' => e = .returned (.int .i64 (insZ v k)) ∧ Ext w w' := by
  obtain ⟨b0, b1, b2, b3, -, -, -, -⟩ := h
  have hW := fun u => vwithin_lim v.p0 v.p1 v.p2 v.p3 b0 b1 b2 b3 u
  have g0 := lim4_bd v.p0
  have g1 := lim4_bd v.p1
  have g2 := lim4_bd v.p2
  have g3 := lim4_bd v.p3
  by_cases n0 : k = 0
  · subst n0
    exact inside_0 v.p0 v.p1 v.p2 v.p3 v.c0 v.c1 v.c2 v.c3 _ _ _ _ g0 g1 g2 g3 hW w
  by_cases n1 : k = 1
  · subst n1
    exact inside_1 v.p0 v.p1 v.p2 v.p3 v.c0 v.c1 v.c2 v.c3 _ _ _ _ g0 g1 g2 g3 hW w
  by_cases n2 : k = 2
  · subst n2
    exact inside_2 v.p0 v.p1 v.p2 v.p3 v.c0 v.c1 v.c2 v.c3 _ _ _ _ g0 g1 g2 g3 hW w
  by_cases n3 : k = 3
  · subst n3
    exact inside_3 v.p0 v.p1 v.p2 v.p3 v.c0 v.c1 v.c2 v.c3 _ _ _ _ g0 g1 g2 g3 hW w
  by_cases n4 : k = 4
  · subst n4
    exact inside_4 v.p0 v.p1 v.p2 v.p3 v.c0 v.c1 v.c2 v.c3 _ _ _ _ g0 g1 g2 g3 hW w
  by_cases n5 : k = 5
  · subst n5
    exact inside_5 v.p0 v.p1 v.p2 v.p3 v.c0 v.c1 v.c2 v.c3 _ _ _ _ g0 g1 g2 g3 hW w
  by_cases n6 : k = 6
  · subst n6
    exact inside_6 v.p0 v.p1 v.p2 v.p3 v.c0 v.c1 v.c2 v.c3 _ _ _ _ g0 g1 g2 g3 hW w
  have e : insZ v k = 0 := by
    unfold insZ
    split
    · obtain ⟨j, hj⟩ : ∃ j : Nat, k = j + 7 := ⟨(k - 7).toNat, by omega⟩
      have : k.toNat = j + 7 := by omega
      rw [this]
      rfl
    · rfl
  rw [e]
  exact inside_7 v.p0 v.p1 v.p2 v.p3 v.c0 v.c1 v.c2 v.c3 _ _ _ _ g0 g1 g2 g3 hW k n0 n1 n2 n3 n4 n5 n6 w
theorem insideN_any (v : V8) (h : v.in64) (k : Nat) (w : World) : Calls Try.prog 15 #[.agg v.l.toArray, .int .i64 (k : Int)] w fun e w' => e = .returned (.int .i64 (insF v.lim k)) ∧ Ext w w' := by
  have e : insZ v (k : Int) = insF v.lim k := by
    unfold insZ
    rw [if_pos (by omega), Int.toNat_natCast]
  rw [← e]
  exact inside_any v h k w
end Go.Proofs.Ytjohcngmoemmbaa
