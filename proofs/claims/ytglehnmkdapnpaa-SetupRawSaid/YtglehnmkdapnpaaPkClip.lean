/-
  DERIVED. The landed clip's Inside (made by mkclip.py). · The landed clip's between, Cross (made by mkclip.py). · The landed clip's last limits (made by mkclip.py). · The landed clip's cut (made by mkclip.py). · The landed clip's Clip (made by mkclip.py).
-/
import Derived.Test.YtglehnmkdapnpaaPkRefC
import Derived.Test.YtglehnmkdapnpaaPkVecW
import Derived.Test.YtglehnmkdapnpaaPkGs
import Derived.Test.YtglehnmkdapnpaaPkFix
import Derived.Test.YtglehnmkdapnpaaPkVecMM
import Derived.Deep.LoopGhost
namespace Go.Proofs.Ytglehnmkdapnpaa
open Go.RowKit
set_option linter.unusedVariables false
theorem withinW_lim (n : Int) : withinW n 4194304 = lim4 n := by
  unfold withinW withinZ lim4
  rw [if_neg (by omega)]
set_option maxRecDepth 100000 in
set_option maxHeartbeats 4000000 in
theorem inside_0 (p0 p1 p2 p3 c0 c1 c2 c3 q0 q1 q2 q3 : Int) (h0 : -4194304 ≤ q0 ∧ q0 ≤ 4194304) (h1 : -4194304 ≤ q1 ∧ q1 ≤ 4194304) (h2 : -4194304 ≤ q2 ∧ q2 ≤ 4194304) (h3 : -4194304 ≤ q3 ∧ q3 ≤ 4194304) (hW : ∀ u : World, Calls Try.prog 33 #[.agg #[.int .i64 p0, .int .i64 p1, .int .i64 p2, .int .i64 p3], .int .i64 4194304] u fun e w' => e = .returned (.agg #[.int .i64 q0, .int .i64 q1, .int .i64 q2, .int .i64 q3]) ∧ Ext u w') (w : World) : Calls Try.prog 47 #[.agg #[.int .i64 p0, .int .i64 p1, .int .i64 p2, .int .i64 p3, .int .i64 c0, .int .i64 c1, .int .i64 c2, .int .i64 c3], .int .i64 0] w fun e w' => e = .returned (.int .i64 (q3 - 256)) ∧ Ext w w' := by
  have HW := Lib.hid hW
  clear hW
  have x1 : Ext w (w.alloc (.cells #[.int .i64 p0, .int .i64 p1, .int .i64 p2, .int .i64 p3, .int .i64 c0, .int .i64 c1, .int .i64 c2, .int .i64 c3] 32)) := (Ext.refl w).alloc _ _
  go_enter Try.func47, Try.ntmps47
  go_wp2_with fail
  refine (HW.out _).mono ?_
  rintro e w2 ⟨rfl, x2⟩
  have x12 := x1.trans x2
  have B5 := (Blk.new w2 #[.int .i64 0, .int .i64 0, .int .i64 0, .int .i64 0] 30).setRow #[.int .i64 q0, .int .i64 q1, .int .i64 q2, .int .i64 q3]
  have x5 : Ext w ((w2.alloc (.cells #[.int .i64 0, .int .i64 0, .int .i64 0, .int .i64 0] 30)).setRow w2.heap.size #[.int .i64 q0, .int .i64 q1, .int .i64 q2, .int .i64 q3]) := (x12.alloc _ _).setRow (by have := x12.size; omega) _
  go_upto_region 2 with (first
    | ((with_reducible refine wpList_store_blk (op := ⟨none, .store 30 (.tmp 5) (.tmp 12), _, _, _, _⟩) ?_ 30 (.tmp 5) (.tmp 12) ?_ (w2.heap.size) ?_ (cs := #[.int .i64 q0, .int .i64 q1, .int .i64 q2, .int .i64 q3]) ?_ (z := #[.int .i64 0, .int .i64 0, .int .i64 0, .int .i64 0]) (T := 30) ?_ ?_ ?_ ?_ ?_); rfl; rfl; rfl; rfl; exact Blk.new w2 _ _; kernel_rfl; kernel_rfl; kernel_rfl)
    | fail)
  generalize (w2.alloc (.cells #[.int .i64 0, .int .i64 0, .int .i64 0, .int .i64 0] 30)).setRow w2.heap.size #[.int .i64 q0, .int .i64 q1, .int .i64 q2, .int .i64 q3] = w3 at *
  generalize w2.heap.size = b5 at *
  clear x1 x2 x12 HW
  have cB5 := B5.cell
  simp only [Act.put]
  apply wp_region_reads2 _ (by kernel_rfl) (by kernel_rfl)
  case H =>
    intro y0 hy0
    have hne : Nonempty (Wx y0) := ⟨⟨y0, Ext.refl y0⟩⟩
    have qB := fun (t : Wx y0) => (B5.ext (hy0.trans t.ext)).cell
    repeat (go_big_quiet_step (fail))
    exact wpQuiet_nil rfl
  intro w4 x4
  have x45 := x5.trans x4
  clear x4 x5 B5 cB5
  go_wp2
  go_ret
  exact ⟨by first | rfl | (simp; omega), x45⟩
set_option maxRecDepth 100000 in
set_option maxHeartbeats 4000000 in
theorem inside_1 (p0 p1 p2 p3 c0 c1 c2 c3 q0 q1 q2 q3 : Int) (h0 : -4194304 ≤ q0 ∧ q0 ≤ 4194304) (h1 : -4194304 ≤ q1 ∧ q1 ≤ 4194304) (h2 : -4194304 ≤ q2 ∧ q2 ≤ 4194304) (h3 : -4194304 ≤ q3 ∧ q3 ≤ 4194304) (hW : ∀ u : World, Calls Try.prog 33 #[.agg #[.int .i64 p0, .int .i64 p1, .int .i64 p2, .int .i64 p3], .int .i64 4194304] u fun e w' => e = .returned (.agg #[.int .i64 q0, .int .i64 q1, .int .i64 q2, .int .i64 q3]) ∧ Ext u w') (w : World) : Calls Try.prog 47 #[.agg #[.int .i64 p0, .int .i64 p1, .int .i64 p2, .int .i64 p3, .int .i64 c0, .int .i64 c1, .int .i64 c2, .int .i64 c3], .int .i64 1] w fun e w' => e = .returned (.int .i64 (q2)) ∧ Ext w w' := by
  have HW := Lib.hid hW
  clear hW
  have x1 : Ext w (w.alloc (.cells #[.int .i64 p0, .int .i64 p1, .int .i64 p2, .int .i64 p3, .int .i64 c0, .int .i64 c1, .int .i64 c2, .int .i64 c3] 32)) := (Ext.refl w).alloc _ _
  go_enter Try.func47, Try.ntmps47
  go_wp2_with fail
  refine (HW.out _).mono ?_
  rintro e w2 ⟨rfl, x2⟩
  have x12 := x1.trans x2
  have B5 := (Blk.new w2 #[.int .i64 0, .int .i64 0, .int .i64 0, .int .i64 0] 30).setRow #[.int .i64 q0, .int .i64 q1, .int .i64 q2, .int .i64 q3]
  have x5 : Ext w ((w2.alloc (.cells #[.int .i64 0, .int .i64 0, .int .i64 0, .int .i64 0] 30)).setRow w2.heap.size #[.int .i64 q0, .int .i64 q1, .int .i64 q2, .int .i64 q3]) := (x12.alloc _ _).setRow (by have := x12.size; omega) _
  go_upto_region 2 with (first
    | ((with_reducible refine wpList_store_blk (op := ⟨none, .store 30 (.tmp 5) (.tmp 12), _, _, _, _⟩) ?_ 30 (.tmp 5) (.tmp 12) ?_ (w2.heap.size) ?_ (cs := #[.int .i64 q0, .int .i64 q1, .int .i64 q2, .int .i64 q3]) ?_ (z := #[.int .i64 0, .int .i64 0, .int .i64 0, .int .i64 0]) (T := 30) ?_ ?_ ?_ ?_ ?_); rfl; rfl; rfl; rfl; exact Blk.new w2 _ _; kernel_rfl; kernel_rfl; kernel_rfl)
    | fail)
  generalize (w2.alloc (.cells #[.int .i64 0, .int .i64 0, .int .i64 0, .int .i64 0] 30)).setRow w2.heap.size #[.int .i64 q0, .int .i64 q1, .int .i64 q2, .int .i64 q3] = w3 at *
  generalize w2.heap.size = b5 at *
  clear x1 x2 x12 HW
  have cB5 := B5.cell
  simp only [Act.put]
  apply wp_region_reads2 _ (by kernel_rfl) (by kernel_rfl)
  case H =>
    intro y0 hy0
    have hne : Nonempty (Wx y0) := ⟨⟨y0, Ext.refl y0⟩⟩
    have qB := fun (t : Wx y0) => (B5.ext (hy0.trans t.ext)).cell
    repeat (go_big_quiet_step (fail))
    exact wpQuiet_nil rfl
  intro w4 x4
  have x45 := x5.trans x4
  clear x4 x5 B5 cB5
  go_wp2
  go_ret
  exact ⟨by first | rfl | (simp; omega), x45⟩
set_option maxRecDepth 100000 in
set_option maxHeartbeats 4000000 in
theorem inside_2 (p0 p1 p2 p3 c0 c1 c2 c3 q0 q1 q2 q3 : Int) (h0 : -4194304 ≤ q0 ∧ q0 ≤ 4194304) (h1 : -4194304 ≤ q1 ∧ q1 ≤ 4194304) (h2 : -4194304 ≤ q2 ∧ q2 ≤ 4194304) (h3 : -4194304 ≤ q3 ∧ q3 ≤ 4194304) (hW : ∀ u : World, Calls Try.prog 33 #[.agg #[.int .i64 p0, .int .i64 p1, .int .i64 p2, .int .i64 p3], .int .i64 4194304] u fun e w' => e = .returned (.agg #[.int .i64 q0, .int .i64 q1, .int .i64 q2, .int .i64 q3]) ∧ Ext u w') (w : World) : Calls Try.prog 47 #[.agg #[.int .i64 p0, .int .i64 p1, .int .i64 p2, .int .i64 p3, .int .i64 c0, .int .i64 c1, .int .i64 c2, .int .i64 c3], .int .i64 2] w fun e w' => e = .returned (.int .i64 (q3 - q2)) ∧ Ext w w' := by
  have HW := Lib.hid hW
  clear hW
  have x1 : Ext w (w.alloc (.cells #[.int .i64 p0, .int .i64 p1, .int .i64 p2, .int .i64 p3, .int .i64 c0, .int .i64 c1, .int .i64 c2, .int .i64 c3] 32)) := (Ext.refl w).alloc _ _
  go_enter Try.func47, Try.ntmps47
  go_wp2_with fail
  refine (HW.out _).mono ?_
  rintro e w2 ⟨rfl, x2⟩
  have x12 := x1.trans x2
  have B5 := (Blk.new w2 #[.int .i64 0, .int .i64 0, .int .i64 0, .int .i64 0] 30).setRow #[.int .i64 q0, .int .i64 q1, .int .i64 q2, .int .i64 q3]
  have x5 : Ext w ((w2.alloc (.cells #[.int .i64 0, .int .i64 0, .int .i64 0, .int .i64 0] 30)).setRow w2.heap.size #[.int .i64 q0, .int .i64 q1, .int .i64 q2, .int .i64 q3]) := (x12.alloc _ _).setRow (by have := x12.size; omega) _
  go_upto_region 2 with (first
    | ((with_reducible refine wpList_store_blk (op := ⟨none, .store 30 (.tmp 5) (.tmp 12), _, _, _, _⟩) ?_ 30 (.tmp 5) (.tmp 12) ?_ (w2.heap.size) ?_ (cs := #[.int .i64 q0, .int .i64 q1, .int .i64 q2, .int .i64 q3]) ?_ (z := #[.int .i64 0, .int .i64 0, .int .i64 0, .int .i64 0]) (T := 30) ?_ ?_ ?_ ?_ ?_); rfl; rfl; rfl; rfl; exact Blk.new w2 _ _; kernel_rfl; kernel_rfl; kernel_rfl)
    | fail)
  generalize (w2.alloc (.cells #[.int .i64 0, .int .i64 0, .int .i64 0, .int .i64 0] 30)).setRow w2.heap.size #[.int .i64 q0, .int .i64 q1, .int .i64 q2, .int .i64 q3] = w3 at *
  generalize w2.heap.size = b5 at *
  clear x1 x2 x12 HW
  have cB5 := B5.cell
  simp only [Act.put]
  apply wp_region_reads2 _ (by kernel_rfl) (by kernel_rfl)
  case H =>
    intro y0 hy0
    have hne : Nonempty (Wx y0) := ⟨⟨y0, Ext.refl y0⟩⟩
    have qB := fun (t : Wx y0) => (B5.ext (hy0.trans t.ext)).cell
    repeat (go_big_quiet_step (fail))
    exact wpQuiet_nil rfl
  intro w4 x4
  have x45 := x5.trans x4
  clear x4 x5 B5 cB5
  go_wp2
  go_ret
  exact ⟨by first | rfl | (simp; omega), x45⟩
set_option maxRecDepth 100000 in
set_option maxHeartbeats 4000000 in
theorem inside_3 (p0 p1 p2 p3 c0 c1 c2 c3 q0 q1 q2 q3 : Int) (h0 : -4194304 ≤ q0 ∧ q0 ≤ 4194304) (h1 : -4194304 ≤ q1 ∧ q1 ≤ 4194304) (h2 : -4194304 ≤ q2 ∧ q2 ≤ 4194304) (h3 : -4194304 ≤ q3 ∧ q3 ≤ 4194304) (hW : ∀ u : World, Calls Try.prog 33 #[.agg #[.int .i64 p0, .int .i64 p1, .int .i64 p2, .int .i64 p3], .int .i64 4194304] u fun e w' => e = .returned (.agg #[.int .i64 q0, .int .i64 q1, .int .i64 q2, .int .i64 q3]) ∧ Ext u w') (w : World) : Calls Try.prog 47 #[.agg #[.int .i64 p0, .int .i64 p1, .int .i64 p2, .int .i64 p3, .int .i64 c0, .int .i64 c1, .int .i64 c2, .int .i64 c3], .int .i64 3] w fun e w' => e = .returned (.int .i64 (8 * q3 + q0)) ∧ Ext w w' := by
  have HW := Lib.hid hW
  clear hW
  have x1 : Ext w (w.alloc (.cells #[.int .i64 p0, .int .i64 p1, .int .i64 p2, .int .i64 p3, .int .i64 c0, .int .i64 c1, .int .i64 c2, .int .i64 c3] 32)) := (Ext.refl w).alloc _ _
  go_enter Try.func47, Try.ntmps47
  go_wp2_with fail
  refine (HW.out _).mono ?_
  rintro e w2 ⟨rfl, x2⟩
  have x12 := x1.trans x2
  have B5 := (Blk.new w2 #[.int .i64 0, .int .i64 0, .int .i64 0, .int .i64 0] 30).setRow #[.int .i64 q0, .int .i64 q1, .int .i64 q2, .int .i64 q3]
  have x5 : Ext w ((w2.alloc (.cells #[.int .i64 0, .int .i64 0, .int .i64 0, .int .i64 0] 30)).setRow w2.heap.size #[.int .i64 q0, .int .i64 q1, .int .i64 q2, .int .i64 q3]) := (x12.alloc _ _).setRow (by have := x12.size; omega) _
  go_upto_region 2 with (first
    | ((with_reducible refine wpList_store_blk (op := ⟨none, .store 30 (.tmp 5) (.tmp 12), _, _, _, _⟩) ?_ 30 (.tmp 5) (.tmp 12) ?_ (w2.heap.size) ?_ (cs := #[.int .i64 q0, .int .i64 q1, .int .i64 q2, .int .i64 q3]) ?_ (z := #[.int .i64 0, .int .i64 0, .int .i64 0, .int .i64 0]) (T := 30) ?_ ?_ ?_ ?_ ?_); rfl; rfl; rfl; rfl; exact Blk.new w2 _ _; kernel_rfl; kernel_rfl; kernel_rfl)
    | fail)
  generalize (w2.alloc (.cells #[.int .i64 0, .int .i64 0, .int .i64 0, .int .i64 0] 30)).setRow w2.heap.size #[.int .i64 q0, .int .i64 q1, .int .i64 q2, .int .i64 q3] = w3 at *
  generalize w2.heap.size = b5 at *
  clear x1 x2 x12 HW
  have cB5 := B5.cell
  simp only [Act.put]
  apply wp_region_reads2 _ (by kernel_rfl) (by kernel_rfl)
  case H =>
    intro y0 hy0
    have hne : Nonempty (Wx y0) := ⟨⟨y0, Ext.refl y0⟩⟩
    have qB := fun (t : Wx y0) => (B5.ext (hy0.trans t.ext)).cell
    repeat (go_big_quiet_step (fail))
    exact wpQuiet_nil rfl
  intro w4 x4
  have x45 := x5.trans x4
  clear x4 x5 B5 cB5
  go_wp2
  go_ret
  exact ⟨by first | rfl | (simp; omega), x45⟩
set_option maxRecDepth 100000 in
set_option maxHeartbeats 4000000 in
theorem inside_4 (p0 p1 p2 p3 c0 c1 c2 c3 q0 q1 q2 q3 : Int) (h0 : -4194304 ≤ q0 ∧ q0 ≤ 4194304) (h1 : -4194304 ≤ q1 ∧ q1 ≤ 4194304) (h2 : -4194304 ≤ q2 ∧ q2 ≤ 4194304) (h3 : -4194304 ≤ q3 ∧ q3 ≤ 4194304) (hW : ∀ u : World, Calls Try.prog 33 #[.agg #[.int .i64 p0, .int .i64 p1, .int .i64 p2, .int .i64 p3], .int .i64 4194304] u fun e w' => e = .returned (.agg #[.int .i64 q0, .int .i64 q1, .int .i64 q2, .int .i64 q3]) ∧ Ext u w') (w : World) : Calls Try.prog 47 #[.agg #[.int .i64 p0, .int .i64 p1, .int .i64 p2, .int .i64 p3, .int .i64 c0, .int .i64 c1, .int .i64 c2, .int .i64 c3], .int .i64 4] w fun e w' => e = .returned (.int .i64 (8 * q3 - q0)) ∧ Ext w w' := by
  have HW := Lib.hid hW
  clear hW
  have x1 : Ext w (w.alloc (.cells #[.int .i64 p0, .int .i64 p1, .int .i64 p2, .int .i64 p3, .int .i64 c0, .int .i64 c1, .int .i64 c2, .int .i64 c3] 32)) := (Ext.refl w).alloc _ _
  go_enter Try.func47, Try.ntmps47
  go_wp2_with fail
  refine (HW.out _).mono ?_
  rintro e w2 ⟨rfl, x2⟩
  have x12 := x1.trans x2
  have B5 := (Blk.new w2 #[.int .i64 0, .int .i64 0, .int .i64 0, .int .i64 0] 30).setRow #[.int .i64 q0, .int .i64 q1, .int .i64 q2, .int .i64 q3]
  have x5 : Ext w ((w2.alloc (.cells #[.int .i64 0, .int .i64 0, .int .i64 0, .int .i64 0] 30)).setRow w2.heap.size #[.int .i64 q0, .int .i64 q1, .int .i64 q2, .int .i64 q3]) := (x12.alloc _ _).setRow (by have := x12.size; omega) _
  go_upto_region 2 with (first
    | ((with_reducible refine wpList_store_blk (op := ⟨none, .store 30 (.tmp 5) (.tmp 12), _, _, _, _⟩) ?_ 30 (.tmp 5) (.tmp 12) ?_ (w2.heap.size) ?_ (cs := #[.int .i64 q0, .int .i64 q1, .int .i64 q2, .int .i64 q3]) ?_ (z := #[.int .i64 0, .int .i64 0, .int .i64 0, .int .i64 0]) (T := 30) ?_ ?_ ?_ ?_ ?_); rfl; rfl; rfl; rfl; exact Blk.new w2 _ _; kernel_rfl; kernel_rfl; kernel_rfl)
    | fail)
  generalize (w2.alloc (.cells #[.int .i64 0, .int .i64 0, .int .i64 0, .int .i64 0] 30)).setRow w2.heap.size #[.int .i64 q0, .int .i64 q1, .int .i64 q2, .int .i64 q3] = w3 at *
  generalize w2.heap.size = b5 at *
  clear x1 x2 x12 HW
  have cB5 := B5.cell
  simp only [Act.put]
  apply wp_region_reads2 _ (by kernel_rfl) (by kernel_rfl)
  case H =>
    intro y0 hy0
    have hne : Nonempty (Wx y0) := ⟨⟨y0, Ext.refl y0⟩⟩
    have qB := fun (t : Wx y0) => (B5.ext (hy0.trans t.ext)).cell
    repeat (go_big_quiet_step (fail))
    exact wpQuiet_nil rfl
  intro w4 x4
  have x45 := x5.trans x4
  clear x4 x5 B5 cB5
  go_wp2
  go_ret
  exact ⟨by first | rfl | (simp; omega), x45⟩
set_option maxRecDepth 100000 in
set_option maxHeartbeats 4000000 in
theorem inside_5 (p0 p1 p2 p3 c0 c1 c2 c3 q0 q1 q2 q3 : Int) (h0 : -4194304 ≤ q0 ∧ q0 ≤ 4194304) (h1 : -4194304 ≤ q1 ∧ q1 ≤ 4194304) (h2 : -4194304 ≤ q2 ∧ q2 ≤ 4194304) (h3 : -4194304 ≤ q3 ∧ q3 ≤ 4194304) (hW : ∀ u : World, Calls Try.prog 33 #[.agg #[.int .i64 p0, .int .i64 p1, .int .i64 p2, .int .i64 p3], .int .i64 4194304] u fun e w' => e = .returned (.agg #[.int .i64 q0, .int .i64 q1, .int .i64 q2, .int .i64 q3]) ∧ Ext u w') (w : World) : Calls Try.prog 47 #[.agg #[.int .i64 p0, .int .i64 p1, .int .i64 p2, .int .i64 p3, .int .i64 c0, .int .i64 c1, .int .i64 c2, .int .i64 c3], .int .i64 5] w fun e w' => e = .returned (.int .i64 (8 * q3 + q1)) ∧ Ext w w' := by
  have HW := Lib.hid hW
  clear hW
  have x1 : Ext w (w.alloc (.cells #[.int .i64 p0, .int .i64 p1, .int .i64 p2, .int .i64 p3, .int .i64 c0, .int .i64 c1, .int .i64 c2, .int .i64 c3] 32)) := (Ext.refl w).alloc _ _
  go_enter Try.func47, Try.ntmps47
  go_wp2_with fail
  refine (HW.out _).mono ?_
  rintro e w2 ⟨rfl, x2⟩
  have x12 := x1.trans x2
  have B5 := (Blk.new w2 #[.int .i64 0, .int .i64 0, .int .i64 0, .int .i64 0] 30).setRow #[.int .i64 q0, .int .i64 q1, .int .i64 q2, .int .i64 q3]
  have x5 : Ext w ((w2.alloc (.cells #[.int .i64 0, .int .i64 0, .int .i64 0, .int .i64 0] 30)).setRow w2.heap.size #[.int .i64 q0, .int .i64 q1, .int .i64 q2, .int .i64 q3]) := (x12.alloc _ _).setRow (by have := x12.size; omega) _
  go_upto_region 2 with (first
    | ((with_reducible refine wpList_store_blk (op := ⟨none, .store 30 (.tmp 5) (.tmp 12), _, _, _, _⟩) ?_ 30 (.tmp 5) (.tmp 12) ?_ (w2.heap.size) ?_ (cs := #[.int .i64 q0, .int .i64 q1, .int .i64 q2, .int .i64 q3]) ?_ (z := #[.int .i64 0, .int .i64 0, .int .i64 0, .int .i64 0]) (T := 30) ?_ ?_ ?_ ?_ ?_); rfl; rfl; rfl; rfl; exact Blk.new w2 _ _; kernel_rfl; kernel_rfl; kernel_rfl)
    | fail)
  generalize (w2.alloc (.cells #[.int .i64 0, .int .i64 0, .int .i64 0, .int .i64 0] 30)).setRow w2.heap.size #[.int .i64 q0, .int .i64 q1, .int .i64 q2, .int .i64 q3] = w3 at *
  generalize w2.heap.size = b5 at *
  clear x1 x2 x12 HW
  have cB5 := B5.cell
  simp only [Act.put]
  apply wp_region_reads2 _ (by kernel_rfl) (by kernel_rfl)
  case H =>
    intro y0 hy0
    have hne : Nonempty (Wx y0) := ⟨⟨y0, Ext.refl y0⟩⟩
    have qB := fun (t : Wx y0) => (B5.ext (hy0.trans t.ext)).cell
    repeat (go_big_quiet_step (fail))
    exact wpQuiet_nil rfl
  intro w4 x4
  have x45 := x5.trans x4
  clear x4 x5 B5 cB5
  go_wp2
  go_ret
  exact ⟨by first | rfl | (simp; omega), x45⟩
set_option maxRecDepth 100000 in
set_option maxHeartbeats 4000000 in
theorem inside_6 (p0 p1 p2 p3 c0 c1 c2 c3 q0 q1 q2 q3 : Int) (h0 : -4194304 ≤ q0 ∧ q0 ≤ 4194304) (h1 : -4194304 ≤ q1 ∧ q1 ≤ 4194304) (h2 : -4194304 ≤ q2 ∧ q2 ≤ 4194304) (h3 : -4194304 ≤ q3 ∧ q3 ≤ 4194304) (hW : ∀ u : World, Calls Try.prog 33 #[.agg #[.int .i64 p0, .int .i64 p1, .int .i64 p2, .int .i64 p3], .int .i64 4194304] u fun e w' => e = .returned (.agg #[.int .i64 q0, .int .i64 q1, .int .i64 q2, .int .i64 q3]) ∧ Ext u w') (w : World) : Calls Try.prog 47 #[.agg #[.int .i64 p0, .int .i64 p1, .int .i64 p2, .int .i64 p3, .int .i64 c0, .int .i64 c1, .int .i64 c2, .int .i64 c3], .int .i64 6] w fun e w' => e = .returned (.int .i64 (8 * q3 - q1)) ∧ Ext w w' := by
  have HW := Lib.hid hW
  clear hW
  have x1 : Ext w (w.alloc (.cells #[.int .i64 p0, .int .i64 p1, .int .i64 p2, .int .i64 p3, .int .i64 c0, .int .i64 c1, .int .i64 c2, .int .i64 c3] 32)) := (Ext.refl w).alloc _ _
  go_enter Try.func47, Try.ntmps47
  go_wp2_with fail
  refine (HW.out _).mono ?_
  rintro e w2 ⟨rfl, x2⟩
  have x12 := x1.trans x2
  have B5 := (Blk.new w2 #[.int .i64 0, .int .i64 0, .int .i64 0, .int .i64 0] 30).setRow #[.int .i64 q0, .int .i64 q1, .int .i64 q2, .int .i64 q3]
  have x5 : Ext w ((w2.alloc (.cells #[.int .i64 0, .int .i64 0, .int .i64 0, .int .i64 0] 30)).setRow w2.heap.size #[.int .i64 q0, .int .i64 q1, .int .i64 q2, .int .i64 q3]) := (x12.alloc _ _).setRow (by have := x12.size; omega) _
  go_upto_region 2 with (first
    | ((with_reducible refine wpList_store_blk (op := ⟨none, .store 30 (.tmp 5) (.tmp 12), _, _, _, _⟩) ?_ 30 (.tmp 5) (.tmp 12) ?_ (w2.heap.size) ?_ (cs := #[.int .i64 q0, .int .i64 q1, .int .i64 q2, .int .i64 q3]) ?_ (z := #[.int .i64 0, .int .i64 0, .int .i64 0, .int .i64 0]) (T := 30) ?_ ?_ ?_ ?_ ?_); rfl; rfl; rfl; rfl; exact Blk.new w2 _ _; kernel_rfl; kernel_rfl; kernel_rfl)
    | fail)
  generalize (w2.alloc (.cells #[.int .i64 0, .int .i64 0, .int .i64 0, .int .i64 0] 30)).setRow w2.heap.size #[.int .i64 q0, .int .i64 q1, .int .i64 q2, .int .i64 q3] = w3 at *
  generalize w2.heap.size = b5 at *
  clear x1 x2 x12 HW
  have cB5 := B5.cell
  simp only [Act.put]
  apply wp_region_reads2 _ (by kernel_rfl) (by kernel_rfl)
  case H =>
    intro y0 hy0
    have hne : Nonempty (Wx y0) := ⟨⟨y0, Ext.refl y0⟩⟩
    have qB := fun (t : Wx y0) => (B5.ext (hy0.trans t.ext)).cell
    repeat (go_big_quiet_step (fail))
    exact wpQuiet_nil rfl
  intro w4 x4
  have x45 := x5.trans x4
  clear x4 x5 B5 cB5
  go_wp2
  go_ret
  exact ⟨by first | rfl | (simp; omega), x45⟩
set_option maxRecDepth 100000 in
set_option maxHeartbeats 4000000 in
theorem inside_7 (p0 p1 p2 p3 c0 c1 c2 c3 q0 q1 q2 q3 : Int) (h0 : -4194304 ≤ q0 ∧ q0 ≤ 4194304) (h1 : -4194304 ≤ q1 ∧ q1 ≤ 4194304) (h2 : -4194304 ≤ q2 ∧ q2 ≤ 4194304) (h3 : -4194304 ≤ q3 ∧ q3 ≤ 4194304) (hW : ∀ u : World, Calls Try.prog 33 #[.agg #[.int .i64 p0, .int .i64 p1, .int .i64 p2, .int .i64 p3], .int .i64 4194304] u fun e w' => e = .returned (.agg #[.int .i64 q0, .int .i64 q1, .int .i64 q2, .int .i64 q3]) ∧ Ext u w') (k : Int) (n0 : k ≠ 0) (n1 : k ≠ 1) (n2 : k ≠ 2) (n3 : k ≠ 3) (n4 : k ≠ 4) (n5 : k ≠ 5) (n6 : k ≠ 6) (w : World) : Calls Try.prog 47 #[.agg #[.int .i64 p0, .int .i64 p1, .int .i64 p2, .int .i64 p3, .int .i64 c0, .int .i64 c1, .int .i64 c2, .int .i64 c3], .int .i64 k] w fun e w' => e = .returned (.int .i64 (0)) ∧ Ext w w' := by
  have HW := Lib.hid hW
  clear hW
  have x1 : Ext w (w.alloc (.cells #[.int .i64 p0, .int .i64 p1, .int .i64 p2, .int .i64 p3, .int .i64 c0, .int .i64 c1, .int .i64 c2, .int .i64 c3] 32)) := (Ext.refl w).alloc _ _
  go_enter Try.func47, Try.ntmps47
  go_wp2_with fail
  refine (HW.out _).mono ?_
  rintro e w2 ⟨rfl, x2⟩
  have x12 := x1.trans x2
  have B5 := (Blk.new w2 #[.int .i64 0, .int .i64 0, .int .i64 0, .int .i64 0] 30).setRow #[.int .i64 q0, .int .i64 q1, .int .i64 q2, .int .i64 q3]
  have x5 : Ext w ((w2.alloc (.cells #[.int .i64 0, .int .i64 0, .int .i64 0, .int .i64 0] 30)).setRow w2.heap.size #[.int .i64 q0, .int .i64 q1, .int .i64 q2, .int .i64 q3]) := (x12.alloc _ _).setRow (by have := x12.size; omega) _
  go_upto_region 2 with (first
    | ((with_reducible refine wpList_store_blk (op := ⟨none, .store 30 (.tmp 5) (.tmp 12), _, _, _, _⟩) ?_ 30 (.tmp 5) (.tmp 12) ?_ (w2.heap.size) ?_ (cs := #[.int .i64 q0, .int .i64 q1, .int .i64 q2, .int .i64 q3]) ?_ (z := #[.int .i64 0, .int .i64 0, .int .i64 0, .int .i64 0]) (T := 30) ?_ ?_ ?_ ?_ ?_); rfl; rfl; rfl; rfl; exact Blk.new w2 _ _; kernel_rfl; kernel_rfl; kernel_rfl)
    | fail)
  generalize (w2.alloc (.cells #[.int .i64 0, .int .i64 0, .int .i64 0, .int .i64 0] 30)).setRow w2.heap.size #[.int .i64 q0, .int .i64 q1, .int .i64 q2, .int .i64 q3] = w3 at *
  generalize w2.heap.size = b5 at *
  clear x1 x2 x12 HW
  have cB5 := B5.cell
  simp only [Act.put]
  apply wp_region_reads2 _ (by kernel_rfl) (by kernel_rfl)
  case H =>
    intro y0 hy0
    have hne : Nonempty (Wx y0) := ⟨⟨y0, Ext.refl y0⟩⟩
    have qB := fun (t : Wx y0) => (B5.ext (hy0.trans t.ext)).cell
    repeat (go_big_quiet_step (fail))
    exact wpQuiet_nil rfl
  intro w4 x4
  have x45 := x5.trans x4
  clear x4 x5 B5 cB5
  go_wp2
  go_ret
  exact ⟨by first | rfl | (simp; omega), x45⟩
theorem vwithin_lim (p0 p1 p2 p3 : Int) (b0 : -9223372036854775808 ≤ p0 ∧ p0 ≤ 9223372036854775807) (b1 : -9223372036854775808 ≤ p1 ∧ p1 ≤ 9223372036854775807) (b2 : -9223372036854775808 ≤ p2 ∧ p2 ≤ 9223372036854775807) (b3 : -9223372036854775808 ≤ p3 ∧ p3 ≤ 9223372036854775807) (u : World) : Calls Try.prog 33 #[.agg #[.int .i64 p0, .int .i64 p1, .int .i64 p2, .int .i64 p3], .int .i64 4194304] u fun e w' => e = .returned (.agg #[.int .i64 (lim4 p0), .int .i64 (lim4 p1), .int .i64 (lim4 p2), .int .i64 (lim4 p3)]) ∧ Ext u w' := by
  have := vec_within p0 p1 p2 p3 4194304 b0 b1 b2 b3 (by omega) u
  simp only [withinW_lim] at this
  exact this
theorem inside_any (v : V8) (h : v.in64) (k : Int) (w : World) : Calls Try.prog 47 #[.agg v.l.toArray, .int .i64 k] w fun e w' => e = .returned (.int .i64 (insZ v k)) ∧ Ext w w' := by
  obtain ⟨b0, b1, b2, b3, -, -, -, -⟩ := h
  have hW := fun u => vwithin_lim v.p0 v.p1 v.p2 v.p3 b0 b1 b2 b3 u
  have g0 := lim4_bd v.p0
  have g1 := lim4_bd v.p1
  have g2 := lim4_bd v.p2
  have g3 := lim4_bd v.p3
  by_cases n0 : k = 0
  · subst n0
    exact inside_0 v.p0 v.p1 v.p2 v.p3 v.c0 v.c1 v.c2 v.c3 _ _ _ _ g0 g1 g2 g3 hW w
  by_cases n1 : k = 1
  · subst n1
    exact inside_1 v.p0 v.p1 v.p2 v.p3 v.c0 v.c1 v.c2 v.c3 _ _ _ _ g0 g1 g2 g3 hW w
  by_cases n2 : k = 2
  · subst n2
    exact inside_2 v.p0 v.p1 v.p2 v.p3 v.c0 v.c1 v.c2 v.c3 _ _ _ _ g0 g1 g2 g3 hW w
  by_cases n3 : k = 3
  · subst n3
    exact inside_3 v.p0 v.p1 v.p2 v.p3 v.c0 v.c1 v.c2 v.c3 _ _ _ _ g0 g1 g2 g3 hW w
  by_cases n4 : k = 4
  · subst n4
    exact inside_4 v.p0 v.p1 v.p2 v.p3 v.c0 v.c1 v.c2 v.c3 _ _ _ _ g0 g1 g2 g3 hW w
  by_cases n5 : k = 5
  · subst n5
    exact inside_5 v.p0 v.p1 v.p2 v.p3 v.c0 v.c1 v.c2 v.c3 _ _ _ _ g0 g1 g2 g3 hW w
  by_cases n6 : k = 6
  · subst n6
    exact inside_6 v.p0 v.p1 v.p2 v.p3 v.c0 v.c1 v.c2 v.c3 _ _ _ _ g0 g1 g2 g3 hW w
  have e : insZ v k = 0 := by
    unfold insZ
    split
    · obtain ⟨j, hj⟩ : ∃ j : Nat, k = j + 7 := ⟨(k - 7).toNat, by omega⟩
      have : k.toNat = j + 7 := by omega
      rw [this]
      rfl
    · rfl
  rw [e]
  exact inside_7 v.p0 v.p1 v.p2 v.p3 v.c0 v.c1 v.c2 v.c3 _ _ _ _ g0 g1 g2 g3 hW k n0 n1 n2 n3 n4 n5 n6 w
theorem insideN_any (v : V8) (h : v.in64) (k : Nat) (w : World) : Calls Try.prog 47 #[.agg v.l.toArray, .int .i64 (k : Int)] w fun e w' => e = .returned (.int .i64 (insF v.lim k)) ∧ Ext w w' := by
  have e : insZ v (k : Int) = insF v.lim k := by
    unfold insZ
    rw [if_pos (by omega), Int.toNat_natCast]
  rw [← e]
  exact inside_any v h k w
end Go.Proofs.Ytglehnmkdapnpaa

namespace Go.Proofs.Ytglehnmkdapnpaa
open Go.RowKit
set_option linter.unusedVariables false
theorem floorE (n d : Int) (hn : -4611686018427387904 ≤ n ∧ n ≤ 4611686018427387904) (hd : 0 < d ∧ d ≤ 4611686018427387904) (w : World) : Calls Try.prog 35 #[.int .i64 n, .int .i64 d] w fun e w' => e = .returned (.int .i64 (n / d)) ∧ Ext w w' := by
  refine (floor_any n d w hn.1 hn.2 (by omega) hd.2).mono ?_
  rintro e w' ⟨rfl, q⟩
  exact ⟨by rw [flr_pos n hd.1], (Ext.refl w).qt q⟩
set_option maxRecDepth 100000 in
set_option maxHeartbeats 4000000 in
theorem between_r5 (f0 f1 f6 f7 f8 f10 f11 f12 f13 f14 f15 f16 f17 f18 f19 f20 f21 f22 f23 f24 f25 f26 f27 f28 f29 f30 f31 f32 f33 f34 : Value) (b4 b5 j : Nat) (x y a d : Int) (z4 z5 : Array Value) (w : World) (B4 : Blk w b4 z4 30) (B5 : Blk w b5 z5 30) (hj : j < 4) (e4 : z4[j]? = some (.int .i64 x)) (e5 : z5[j]? = some (.int .i64 y)) (hx : -4194304 ≤ x ∧ x ≤ 4194304) (hy : -4194304 ≤ y ∧ y ≤ 4194304) (ha : 0 ≤ a ∧ a ≤ 37748736) (had : a ≤ d) (hd : 0 < d ∧ d ≤ 75497472) {Q : Exit → Act → World → Prop}
    (hQ : ∀ (c17 c18 c19 c20 c21 c22 c23 c24 c25 c26 c27 c28 c29 c30 c31 c32 : Value) (wx : World), Calm [b4] w wx → Blk wx b4 (z4.setIfInBounds j (.int .i64 (mixF x y a d))) 30 → Q .normal ⟨(f0 :: f1 :: Value.int .i64 a :: Value.int .i64 d :: Value.pointer (some ⟨b4, 0, none⟩) :: Value.pointer (some ⟨b5, 0, none⟩) :: f6 :: f7 :: f8 :: Value.int .i64 (j : Int) :: f10 :: f11 :: f12 :: f13 :: f14 :: f15 :: f16 :: c17 :: c18 :: c19 :: c20 :: c21 :: c22 :: c23 :: c24 :: c25 :: c26 :: c27 :: c28 :: c29 :: c30 :: c31 :: c32 :: f33 :: f34 :: List.nil).toArray, []⟩ wx) :
    Code.wp Try.prog (regionOf Try.f57 5) Q ⟨(f0 :: f1 :: Value.int .i64 a :: Value.int .i64 d :: Value.pointer (some ⟨b4, 0, none⟩) :: Value.pointer (some ⟨b5, 0, none⟩) :: f6 :: f7 :: f8 :: Value.int .i64 (j : Int) :: f10 :: f11 :: f12 :: f13 :: f14 :: f15 :: f16 :: f17 :: f18 :: f19 :: f20 :: f21 :: f22 :: f23 :: f24 :: f25 :: f26 :: f27 :: f28 :: f29 :: f30 :: f31 :: f32 :: f33 :: f34 :: List.nil).toArray, []⟩ w := by
  have hjI : (j : Int) < 4 := by omega
  have hpb := prod_bd hx hy (a := a) (A := 37748736) ha (by omega)
  have hm := mixF_in (x := x) (y := y) (a := a) (d := d) ha.1 (by omega) (by omega) hx hy
  have w1 : IntKind.i64.wrap ((y - x) * a) = (y - x) * a := by rw [IntKind.wrap_i64]; omega
  have w2 : IntKind.i64.wrap (x + (y - x) * a / d) = x + (y - x) * a / d := by rw [IntKind.wrap_i64]; unfold mixF at hm; omega
  have hF := fun u => floorE ((y - x) * a) d (by omega) (by omega) u
  have HQ := Lib.hid hQ
  have HM := Lib.hid hm
  clear hQ hm
  change Code.wp Try.prog (Code.region _ _ true) _ _ _
  apply wp_region_last 30 [false, false, false, false, false, false, false, false, false, false, false, false, false, false, false, false, true] [] [] [b4] _ (by kernel_rfl) (by kernel_rfl) (by kernel_rfl) (by kernel_rfl)
  case H =>
    intro y0 hy0
    have hne : Nonempty (Wx y0) := ⟨⟨y0, Ext.refl y0⟩⟩
    have q3 := fun (t : Wx y0) => by
      have := ((B4.calm hy0 (by simp)).ext t.ext).cell j
      rw [e4] at this
      exact this
    have q4 := fun (t : Wx y0) => by
      have := ((B5.calm hy0 (by simp)).ext t.ext).cell j
      rw [e5] at this
      exact this
    simp only [eraseM]
    repeat (go_big_quiet_step ((go_at_call 35; exact calm_of (hF _))))
    exact wpQuiet_nil rfl
  case hF => rfl
  case T =>
    change tailL _ _ _ _ _ [_] _ _
    intro u1 x1 hc
    have B4n := B4.calm hc (by simp)
    have c9 := B4n.cell j
    rw [e4] at c9
    have f9 := B4n.frozen
    refine gives_skip (u' := u1.setCell ⟨b4, j, none⟩ (.int .i64 (mixF x y a d))) (by unfold mixF; simp [go_sem, c9, f9]) ⟨(hc.wide (by simp)).trans (calm_put u1 b4 j _), fun h => absurd rfl h, ?_⟩
    intro u2 x2 hc2
    exact HQ.out _ _ _ _ _ _ _ _ _ _ _ _ _ _ _ _ _ hc2 ((B4n.set j _).ext x2)
set_option maxRecDepth 100000 in
set_option maxHeartbeats 4000000 in
theorem between_main (m0 m1 m2 m3 n0 n1 n2 n3 p0 p1 p2 p3 q0 q1 q2 q3 a d : Int) (hp0 : -4194304 ≤ p0 ∧ p0 ≤ 4194304) (hp1 : -4194304 ≤ p1 ∧ p1 ≤ 4194304) (hp2 : -4194304 ≤ p2 ∧ p2 ≤ 4194304) (hp3 : -4194304 ≤ p3 ∧ p3 ≤ 4194304) (hq0 : -4194304 ≤ q0 ∧ q0 ≤ 4194304) (hq1 : -4194304 ≤ q1 ∧ q1 ≤ 4194304) (hq2 : -4194304 ≤ q2 ∧ q2 ≤ 4194304) (hq3 : -4194304 ≤ q3 ∧ q3 ≤ 4194304) (ha : 0 ≤ a ∧ a ≤ 37748736) (had : a ≤ d) (hd : 0 < d ∧ d ≤ 75497472) (hP : ∀ u : World, Calls Try.prog 33 #[.agg #[.int .i64 m0, .int .i64 m1, .int .i64 m2, .int .i64 m3], .int .i64 4194304] u fun e w' => e = .returned (.agg #[.int .i64 p0, .int .i64 p1, .int .i64 p2, .int .i64 p3]) ∧ Ext u w') (hQ : ∀ u : World, Calls Try.prog 33 #[.agg #[.int .i64 n0, .int .i64 n1, .int .i64 n2, .int .i64 n3], .int .i64 4194304] u fun e w' => e = .returned (.agg #[.int .i64 q0, .int .i64 q1, .int .i64 q2, .int .i64 q3]) ∧ Ext u w') (w : World) :
    Calls Try.prog 57 #[.agg #[.int .i64 m0, .int .i64 m1, .int .i64 m2, .int .i64 m3], .agg #[.int .i64 n0, .int .i64 n1, .int .i64 n2, .int .i64 n3], .int .i64 a, .int .i64 d] w fun e w' => e = .returned (.agg #[.int .i64 (mixF p0 q0 a d), .int .i64 (mixF p1 q1 a d), .int .i64 (mixF p2 q2 a d), .int .i64 (mixF p3 q3 a d)]) ∧ Ext w w' := by
  have HP := Lib.hid hP
  have HQ := Lib.hid hQ
  clear hP hQ
  have x1 : Ext w (((w.alloc (.cells #[.int .i64 m0, .int .i64 m1, .int .i64 m2, .int .i64 m3] 30)).alloc (.cells #[.int .i64 n0, .int .i64 n1, .int .i64 n2, .int .i64 n3] 30)).alloc (.cells #[.int .i64 0, .int .i64 0, .int .i64 0, .int .i64 0] 30)) := (((Ext.refl w).alloc _ _).alloc _ _).alloc _ _
  have B4 := ((Blk.new w #[.int .i64 m0, .int .i64 m1, .int .i64 m2, .int .i64 m3] 30).alloc (.cells #[.int .i64 n0, .int .i64 n1, .int .i64 n2, .int .i64 n3] 30)).alloc (.cells #[.int .i64 0, .int .i64 0, .int .i64 0, .int .i64 0] 30)
  have B5 := (Blk.new (w.alloc (.cells #[.int .i64 m0, .int .i64 m1, .int .i64 m2, .int .i64 m3] 30)) #[.int .i64 n0, .int .i64 n1, .int .i64 n2, .int .i64 n3] 30).alloc (.cells #[.int .i64 0, .int .i64 0, .int .i64 0, .int .i64 0] 30)
  have B8 := Blk.new ((w.alloc (.cells #[.int .i64 m0, .int .i64 m1, .int .i64 m2, .int .i64 m3] 30)).alloc (.cells #[.int .i64 n0, .int .i64 n1, .int .i64 n2, .int .i64 n3] 30)) #[.int .i64 0, .int .i64 0, .int .i64 0, .int .i64 0] 30
  go_enter Try.func57, Try.ntmps57
  go_upto_region 1 with fail
  simp only [World.size_alloc] at B5 B8
  generalize (((w.alloc (.cells #[.int .i64 m0, .int .i64 m1, .int .i64 m2, .int .i64 m3] 30)).alloc (.cells #[.int .i64 n0, .int .i64 n1, .int .i64 n2, .int .i64 n3] 30)).alloc (.cells #[.int .i64 0, .int .i64 0, .int .i64 0, .int .i64 0] 30)) = w1 at *
  apply wp_region_vars_early 6 [false, false, false, false, true, true] [w.heap.size, w.heap.size + 1] [⟨none, 0, w.heap.size, some 4, 30, #[.int .i64 m0, .int .i64 m1, .int .i64 m2, .int .i64 m3], #[.int .i64 p0, .int .i64 p1, .int .i64 p2, .int .i64 p3]⟩, ⟨none, 0, w.heap.size + 1, some 5, 30, #[.int .i64 n0, .int .i64 n1, .int .i64 n2, .int .i64 n3], #[.int .i64 q0, .int .i64 q1, .int .i64 q2, .int .i64 q3]⟩] _ (by kernel_rfl) (by kernel_rfl) (by kernel_rfl) (by kernel_rfl) (by kernel_rfl)
  case H =>
    intro x hx
    have hne : Nonempty (Wx x) := ⟨⟨x, Ext.refl x⟩⟩
    have qa := fun (y : Wx x) => (B4.ext (hx.trans y.ext)).cell
    have qb := fun (y : Wx x) => (B5.ext (hx.trans y.ext)).cell
    simp only [eraseM]
    repeat (go_big_quiet_step (first | (go_at_call 33; with_reducible exact calm_of (HP.out _)) | (go_at_call 33; with_reducible exact calm_of (HQ.out _))))
    exact wpQuiet_nil rfl
  case hok =>
    simp only [List.forall_mem_cons, List.not_mem_nil, false_implies, implies_true, and_true]
    exact ⟨tgt_mine (by simp) B4 rfl rfl rfl rfl rfl rfl (by kernel_rfl) (by kernel_rfl) (of_decide_eq_true (by kernel_rfl)) rfl, tgt_mine (by simp) B5 rfl rfl rfl rfl rfl rfl (by kernel_rfl) (by kernel_rfl) (of_decide_eq_true (by kernel_rfl)) rfl⟩
  case hdis =>
    intro k k' t t' hk hk' hne _ _
    rcases k with _ | _ | k <;> rcases k' with _ | _ | k' <;> simp at hk hk' hne <;> (subst hk; subst hk'; dsimp only; omega)
  rintro w2 f hw ⟨k0, l0, d0, -, k1, l1, d1, -, -⟩
  have k0' : f 0 = w.heap.size := k0
  have k1' : f 1 = w.heap.size + 1 := k1
  have B4 : Blk w2 w.heap.size #[.int .i64 p0, .int .i64 p1, .int .i64 p2, .int .i64 p3] 30 := k0' ▸ d0
  have B5 : Blk w2 (w.heap.size + 1) #[.int .i64 q0, .int .i64 q1, .int .i64 q2, .int .i64 q3] 30 := k1' ▸ d1
  have B8 := B8.calm hw (by simp; omega)
  have x1 := Ext.calm_trans x1 hw (by simp)
  clear k0 k0' l0 d0 k1 k1' l1 d1 hw HP HQ
  simp only [pairs, putAll, Option.isSome_none, Bool.false_eq_true, if_false]
  go_wp2_with fail
  refine wp_loop_rounds 5 ?_
  rw [rounds_succ]
  go_upto_region 5 with fail
  refine between_r5 _ _ _ _ _ _ _ _ _ _ _ _ _ _ _ _ _ _ _ _ _ _ _ _ _ _ _ _ _ _ w.heap.size (w.heap.size + 1) 0 p0 q0 a d #[.int .i64 p0, .int .i64 p1, .int .i64 p2, .int .i64 p3] #[.int .i64 q0, .int .i64 q1, .int .i64 q2, .int .i64 q3] _ B4 B5 (by omega) rfl rfl hp0 hq0 ha had hd ?_
  intro d17 d18 d19 d20 d21 d22 d23 d24 d25 d26 d27 d28 d29 d30 d31 d32 w5_0 cx B4'
  have B4 : Blk w5_0 w.heap.size #[.int .i64 (mixF p0 q0 a d), .int .i64 p1, .int .i64 p2, .int .i64 p3] 30 := by simpa using B4'
  have B5 := B5.calm cx (by simp)
  have B8 := B8.calm cx (by simp; omega)
  have x1 := Ext.calm_trans x1 cx (by simp)
  clear B4' cx
  go_wp2_with fail
  rw [rounds_succ]
  go_upto_region 5 with fail
  refine between_r5 _ _ _ _ _ _ _ _ _ _ _ _ _ _ _ _ _ _ _ _ _ _ _ _ _ _ _ _ _ _ w.heap.size (w.heap.size + 1) 1 p1 q1 a d #[.int .i64 (mixF p0 q0 a d), .int .i64 p1, .int .i64 p2, .int .i64 p3] #[.int .i64 q0, .int .i64 q1, .int .i64 q2, .int .i64 q3] _ B4 B5 (by omega) rfl rfl hp1 hq1 ha had hd ?_
  intro d17 d18 d19 d20 d21 d22 d23 d24 d25 d26 d27 d28 d29 d30 d31 d32 w5_1 cx B4'
  have B4 : Blk w5_1 w.heap.size #[.int .i64 (mixF p0 q0 a d), .int .i64 (mixF p1 q1 a d), .int .i64 p2, .int .i64 p3] 30 := by simpa using B4'
  have B5 := B5.calm cx (by simp)
  have B8 := B8.calm cx (by simp; omega)
  have x1 := Ext.calm_trans x1 cx (by simp)
  clear B4' cx
  go_wp2_with fail
  rw [rounds_succ]
  go_upto_region 5 with fail
  refine between_r5 _ _ _ _ _ _ _ _ _ _ _ _ _ _ _ _ _ _ _ _ _ _ _ _ _ _ _ _ _ _ w.heap.size (w.heap.size + 1) 2 p2 q2 a d #[.int .i64 (mixF p0 q0 a d), .int .i64 (mixF p1 q1 a d), .int .i64 p2, .int .i64 p3] #[.int .i64 q0, .int .i64 q1, .int .i64 q2, .int .i64 q3] _ B4 B5 (by omega) rfl rfl hp2 hq2 ha had hd ?_
  intro d17 d18 d19 d20 d21 d22 d23 d24 d25 d26 d27 d28 d29 d30 d31 d32 w5_2 cx B4'
  have B4 : Blk w5_2 w.heap.size #[.int .i64 (mixF p0 q0 a d), .int .i64 (mixF p1 q1 a d), .int .i64 (mixF p2 q2 a d), .int .i64 p3] 30 := by simpa using B4'
  have B5 := B5.calm cx (by simp)
  have B8 := B8.calm cx (by simp; omega)
  have x1 := Ext.calm_trans x1 cx (by simp)
  clear B4' cx
  go_wp2_with fail
  rw [rounds_succ]
  go_upto_region 5 with fail
  refine between_r5 _ _ _ _ _ _ _ _ _ _ _ _ _ _ _ _ _ _ _ _ _ _ _ _ _ _ _ _ _ _ w.heap.size (w.heap.size + 1) 3 p3 q3 a d #[.int .i64 (mixF p0 q0 a d), .int .i64 (mixF p1 q1 a d), .int .i64 (mixF p2 q2 a d), .int .i64 p3] #[.int .i64 q0, .int .i64 q1, .int .i64 q2, .int .i64 q3] _ B4 B5 (by omega) rfl rfl hp3 hq3 ha had hd ?_
  intro d17 d18 d19 d20 d21 d22 d23 d24 d25 d26 d27 d28 d29 d30 d31 d32 w5_3 cx B4'
  have B4 : Blk w5_3 w.heap.size #[.int .i64 (mixF p0 q0 a d), .int .i64 (mixF p1 q1 a d), .int .i64 (mixF p2 q2 a d), .int .i64 (mixF p3 q3 a d)] 30 := by simpa using B4'
  have B5 := B5.calm cx (by simp)
  have B8 := B8.calm cx (by simp; omega)
  have x1 := Ext.calm_trans x1 cx (by simp)
  clear B4' cx
  go_wp2_with fail
  rw [rounds_succ]
  go_upto_region 7 with fail
  have Bf := B8.setRow #[.int .i64 (mixF p0 q0 a d), .int .i64 (mixF p1 q1 a d), .int .i64 (mixF p2 q2 a d), .int .i64 (mixF p3 q3 a d)]
  have Ef := x1.setRow (g := w.heap.size + 1 + 1) (by omega) #[.int .i64 (mixF p0 q0 a d), .int .i64 (mixF p1 q1 a d), .int .i64 (mixF p2 q2 a d), .int .i64 (mixF p3 q3 a d)]
  go_wp2_with (first
    | ((with_reducible refine wpList_load_blk (op := ⟨some 34, _, _, _, _, _⟩) ?_ 30 (.tmp 4) ?_ (w.heap.size) ?_ (z := _) (T := 30) B4 Try.underlying30 ?_ ?_ ?_); rfl; rfl; rfl; rfl; kernel_rfl)
    | ((with_reducible refine wpList_store_blk (op := ⟨none, .store 30 (.tmp 8) (.tmp 34), _, _, _, _⟩) ?_ 30 (.tmp 8) (.tmp 34) ?_ (w.heap.size + 1 + 1) ?_ (cs := #[.int .i64 (mixF p0 q0 a d), .int .i64 (mixF p1 q1 a d), .int .i64 (mixF p2 q2 a d), .int .i64 (mixF p3 q3 a d)]) ?_ (z := #[.int .i64 0, .int .i64 0, .int .i64 0, .int .i64 0]) (T := 30) ?_ ?_ ?_ ?_ ?_); rfl; rfl; rfl; rfl; exact B8; kernel_rfl; kernel_rfl; kernel_rfl)
    | fail)
  exact bodyPost_ret (v := .agg #[.int .i64 (mixF p0 q0 a d), .int .i64 (mixF p1 q1 a d), .int .i64 (mixF p2 q2 a d), .int .i64 (mixF p3 q3 a d)]) (results_blk (b := w.heap.size + 1 + 1) (t := 8) (ty := 30) rfl rfl Bf Try.underlying30 rfl (by kernel_rfl)) rfl ⟨rfl, Ef⟩
theorem between_any (m0 m1 m2 m3 n0 n1 n2 n3 a d : Int) (hx0 : -9223372036854775808 ≤ m0 ∧ m0 ≤ 9223372036854775807) (hx1 : -9223372036854775808 ≤ m1 ∧ m1 ≤ 9223372036854775807) (hx2 : -9223372036854775808 ≤ m2 ∧ m2 ≤ 9223372036854775807) (hx3 : -9223372036854775808 ≤ m3 ∧ m3 ≤ 9223372036854775807) (hy0 : -9223372036854775808 ≤ n0 ∧ n0 ≤ 9223372036854775807) (hy1 : -9223372036854775808 ≤ n1 ∧ n1 ≤ 9223372036854775807) (hy2 : -9223372036854775808 ≤ n2 ∧ n2 ≤ 9223372036854775807) (hy3 : -9223372036854775808 ≤ n3 ∧ n3 ≤ 9223372036854775807) (ha : 0 ≤ a ∧ a ≤ 37748736) (had : a ≤ d) (hd : 0 < d ∧ d ≤ 75497472) (w : World) :
    Calls Try.prog 57 #[.agg #[.int .i64 m0, .int .i64 m1, .int .i64 m2, .int .i64 m3], .agg #[.int .i64 n0, .int .i64 n1, .int .i64 n2, .int .i64 n3], .int .i64 a, .int .i64 d] w fun e w' => e = .returned (.agg #[.int .i64 (mixF (lim4 m0) (lim4 n0) a d), .int .i64 (mixF (lim4 m1) (lim4 n1) a d), .int .i64 (mixF (lim4 m2) (lim4 n2) a d), .int .i64 (mixF (lim4 m3) (lim4 n3) a d)]) ∧ Ext w w' :=
  between_main m0 m1 m2 m3 n0 n1 n2 n3 _ _ _ _ _ _ _ _ a d (lim4_bd m0) (lim4_bd m1) (lim4_bd m2) (lim4_bd m3) (lim4_bd n0) (lim4_bd n1) (lim4_bd n2) (lim4_bd n3) ha had hd (fun u => vwithin_lim m0 m1 m2 m3 hx0 hx1 hx2 hx3 u) (fun u => vwithin_lim n0 n1 n2 n3 hy0 hy1 hy2 hy3 u) w
set_option maxRecDepth 100000 in
set_option maxHeartbeats 4000000 in
theorem cross_keep1 (v0 v1 v2 v3 v4 v5 v6 v7 u0 u1 u2 u3 u4 u5 u6 u7 a b : Int) (k : Int) (w : World) (hA : ∀ u, Calls Try.prog 47 #[.agg #[.int .i64 v0, .int .i64 v1, .int .i64 v2, .int .i64 v3, .int .i64 v4, .int .i64 v5, .int .i64 v6, .int .i64 v7], .int .i64 k] u fun e w' => e = .returned (.int .i64 a) ∧ Ext u w') (hB : ∀ u, Calls Try.prog 47 #[.agg #[.int .i64 u0, .int .i64 u1, .int .i64 u2, .int .i64 u3, .int .i64 u4, .int .i64 u5, .int .i64 u6, .int .i64 u7], .int .i64 k] u fun e w' => e = .returned (.int .i64 b) ∧ Ext u w') (h : a < 0) : Calls Try.prog 48 #[.agg #[.int .i64 v0, .int .i64 v1, .int .i64 v2, .int .i64 v3, .int .i64 v4, .int .i64 v5, .int .i64 v6, .int .i64 v7], .agg #[.int .i64 u0, .int .i64 u1, .int .i64 u2, .int .i64 u3, .int .i64 u4, .int .i64 u5, .int .i64 u6, .int .i64 u7], .int .i64 k] w fun e w' => e = .returned (.agg #[.int .i64 v0, .int .i64 v1, .int .i64 v2, .int .i64 v3, .int .i64 v4, .int .i64 v5, .int .i64 v6, .int .i64 v7]) ∧ Ext w w' := by
  have HA := Lib.hid hA
  have HB := Lib.hid hB
  clear hA hB
  have x1 : Ext w (((w.alloc (.cells #[.int .i64 v0, .int .i64 v1, .int .i64 v2, .int .i64 v3, .int .i64 v4, .int .i64 v5, .int .i64 v6, .int .i64 v7] 32)).alloc (.cells #[.int .i64 u0, .int .i64 u1, .int .i64 u2, .int .i64 u3, .int .i64 u4, .int .i64 u5, .int .i64 u6, .int .i64 u7] 32)).alloc (.cells #[.int .i64 0, .int .i64 0, .int .i64 0, .int .i64 0, .int .i64 0, .int .i64 0, .int .i64 0, .int .i64 0] 32)) := (((Ext.refl w).alloc _ _).alloc _ _).alloc _ _
  have B3 := ((Blk.new w #[.int .i64 v0, .int .i64 v1, .int .i64 v2, .int .i64 v3, .int .i64 v4, .int .i64 v5, .int .i64 v6, .int .i64 v7] 32).alloc (.cells #[.int .i64 u0, .int .i64 u1, .int .i64 u2, .int .i64 u3, .int .i64 u4, .int .i64 u5, .int .i64 u6, .int .i64 u7] 32)).alloc (.cells #[.int .i64 0, .int .i64 0, .int .i64 0, .int .i64 0, .int .i64 0, .int .i64 0, .int .i64 0, .int .i64 0] 32)
  have B4 := (Blk.new (w.alloc (.cells #[.int .i64 v0, .int .i64 v1, .int .i64 v2, .int .i64 v3, .int .i64 v4, .int .i64 v5, .int .i64 v6, .int .i64 v7] 32)) #[.int .i64 u0, .int .i64 u1, .int .i64 u2, .int .i64 u3, .int .i64 u4, .int .i64 u5, .int .i64 u6, .int .i64 u7] 32).alloc (.cells #[.int .i64 0, .int .i64 0, .int .i64 0, .int .i64 0, .int .i64 0, .int .i64 0, .int .i64 0, .int .i64 0] 32)
  have B6 := Blk.new ((w.alloc (.cells #[.int .i64 v0, .int .i64 v1, .int .i64 v2, .int .i64 v3, .int .i64 v4, .int .i64 v5, .int .i64 v6, .int .i64 v7] 32)).alloc (.cells #[.int .i64 u0, .int .i64 u1, .int .i64 u2, .int .i64 u3, .int .i64 u4, .int .i64 u5, .int .i64 u6, .int .i64 u7] 32)) #[.int .i64 0, .int .i64 0, .int .i64 0, .int .i64 0, .int .i64 0, .int .i64 0, .int .i64 0, .int .i64 0] 32
  go_enter Try.func48, Try.ntmps48
  go_upto_region 1 with fail
  simp only [World.size_alloc] at B4 B6
  generalize (((w.alloc (.cells #[.int .i64 v0, .int .i64 v1, .int .i64 v2, .int .i64 v3, .int .i64 v4, .int .i64 v5, .int .i64 v6, .int .i64 v7] 32)).alloc (.cells #[.int .i64 u0, .int .i64 u1, .int .i64 u2, .int .i64 u3, .int .i64 u4, .int .i64 u5, .int .i64 u6, .int .i64 u7] 32)).alloc (.cells #[.int .i64 0, .int .i64 0, .int .i64 0, .int .i64 0, .int .i64 0, .int .i64 0, .int .i64 0, .int .i64 0] 32)) = w1 at *
  have cB3 := B3.cell
  have cB4 := B4.cell
  apply wp_region_reads2 _ (by kernel_rfl) (by kernel_rfl)
  case H =>
    intro y0 hy0
    have hne : Nonempty (Wx y0) := ⟨⟨y0, Ext.refl y0⟩⟩
    have q3 := fun (t : Wx y0) => (B3.ext (hy0.trans t.ext)).cell
    have q4 := fun (t : Wx y0) => (B4.ext (hy0.trans t.ext)).cell
    repeat (go_big_quiet_step (first | (go_at_call 47; with_reducible exact calm_of (HA.out _)) | (go_at_call 47; with_reducible exact calm_of (HB.out _))))
    exact wpQuiet_nil rfl
  intro w2 x2
  have B3 := B3.ext x2
  have B4 := B4.ext x2
  have B6 := B6.ext x2
  have x12 := x1.trans x2
  clear x1 x2 HA HB cB3 cB4
  have Bf := B6.setRow #[.int .i64 v0, .int .i64 v1, .int .i64 v2, .int .i64 v3, .int .i64 v4, .int .i64 v5, .int .i64 v6, .int .i64 v7]
  have Ef := x12.setRow (g := w.heap.size + 1 + 1) (by omega) #[.int .i64 v0, .int .i64 v1, .int .i64 v2, .int .i64 v3, .int .i64 v4, .int .i64 v5, .int .i64 v6, .int .i64 v7]

  go_wp2_with (first
    | ((with_reducible refine wpList_load_blk (op := ⟨some 21, _, _, _, _, _⟩) ?_ 32 (.tmp 3) ?_ (w.heap.size) ?_ (z := _) (T := 32) B3 Try.underlying32 ?_ ?_ ?_); rfl; rfl; rfl; rfl; kernel_rfl)
    | ((with_reducible refine wpList_store_blk (op := ⟨none, .store 32 (.tmp 6) (.tmp 21), _, _, _, _⟩) ?_ 32 (.tmp 6) (.tmp 21) ?_ (w.heap.size + 1 + 1) ?_ (cs := #[.int .i64 v0, .int .i64 v1, .int .i64 v2, .int .i64 v3, .int .i64 v4, .int .i64 v5, .int .i64 v6, .int .i64 v7]) ?_ (z := #[.int .i64 0, .int .i64 0, .int .i64 0, .int .i64 0, .int .i64 0, .int .i64 0, .int .i64 0, .int .i64 0]) (T := 32) ?_ ?_ ?_ ?_ ?_); rfl; rfl; rfl; rfl; exact B6; kernel_rfl; kernel_rfl; kernel_rfl)
    | fail)
  exact bodyPost_ret (v := .agg #[.int .i64 v0, .int .i64 v1, .int .i64 v2, .int .i64 v3, .int .i64 v4, .int .i64 v5, .int .i64 v6, .int .i64 v7]) (results_blk (b := w.heap.size + 1 + 1) (t := 6) (ty := 32) rfl rfl Bf Try.underlying32 rfl (by kernel_rfl)) rfl ⟨rfl, Ef⟩
set_option maxRecDepth 100000 in
set_option maxHeartbeats 4000000 in
theorem cross_keep2 (v0 v1 v2 v3 v4 v5 v6 v7 u0 u1 u2 u3 u4 u5 u6 u7 a b : Int) (k : Int) (w : World) (hA : ∀ u, Calls Try.prog 47 #[.agg #[.int .i64 v0, .int .i64 v1, .int .i64 v2, .int .i64 v3, .int .i64 v4, .int .i64 v5, .int .i64 v6, .int .i64 v7], .int .i64 k] u fun e w' => e = .returned (.int .i64 a) ∧ Ext u w') (hB : ∀ u, Calls Try.prog 47 #[.agg #[.int .i64 u0, .int .i64 u1, .int .i64 u2, .int .i64 u3, .int .i64 u4, .int .i64 u5, .int .i64 u6, .int .i64 u7], .int .i64 k] u fun e w' => e = .returned (.int .i64 b) ∧ Ext u w') (h1 : 0 ≤ a) (h : 0 ≤ b) : Calls Try.prog 48 #[.agg #[.int .i64 v0, .int .i64 v1, .int .i64 v2, .int .i64 v3, .int .i64 v4, .int .i64 v5, .int .i64 v6, .int .i64 v7], .agg #[.int .i64 u0, .int .i64 u1, .int .i64 u2, .int .i64 u3, .int .i64 u4, .int .i64 u5, .int .i64 u6, .int .i64 u7], .int .i64 k] w fun e w' => e = .returned (.agg #[.int .i64 v0, .int .i64 v1, .int .i64 v2, .int .i64 v3, .int .i64 v4, .int .i64 v5, .int .i64 v6, .int .i64 v7]) ∧ Ext w w' := by
  have HA := Lib.hid hA
  have HB := Lib.hid hB
  clear hA hB
  have x1 : Ext w (((w.alloc (.cells #[.int .i64 v0, .int .i64 v1, .int .i64 v2, .int .i64 v3, .int .i64 v4, .int .i64 v5, .int .i64 v6, .int .i64 v7] 32)).alloc (.cells #[.int .i64 u0, .int .i64 u1, .int .i64 u2, .int .i64 u3, .int .i64 u4, .int .i64 u5, .int .i64 u6, .int .i64 u7] 32)).alloc (.cells #[.int .i64 0, .int .i64 0, .int .i64 0, .int .i64 0, .int .i64 0, .int .i64 0, .int .i64 0, .int .i64 0] 32)) := (((Ext.refl w).alloc _ _).alloc _ _).alloc _ _
  have B3 := ((Blk.new w #[.int .i64 v0, .int .i64 v1, .int .i64 v2, .int .i64 v3, .int .i64 v4, .int .i64 v5, .int .i64 v6, .int .i64 v7] 32).alloc (.cells #[.int .i64 u0, .int .i64 u1, .int .i64 u2, .int .i64 u3, .int .i64 u4, .int .i64 u5, .int .i64 u6, .int .i64 u7] 32)).alloc (.cells #[.int .i64 0, .int .i64 0, .int .i64 0, .int .i64 0, .int .i64 0, .int .i64 0, .int .i64 0, .int .i64 0] 32)
  have B4 := (Blk.new (w.alloc (.cells #[.int .i64 v0, .int .i64 v1, .int .i64 v2, .int .i64 v3, .int .i64 v4, .int .i64 v5, .int .i64 v6, .int .i64 v7] 32)) #[.int .i64 u0, .int .i64 u1, .int .i64 u2, .int .i64 u3, .int .i64 u4, .int .i64 u5, .int .i64 u6, .int .i64 u7] 32).alloc (.cells #[.int .i64 0, .int .i64 0, .int .i64 0, .int .i64 0, .int .i64 0, .int .i64 0, .int .i64 0, .int .i64 0] 32)
  have B6 := Blk.new ((w.alloc (.cells #[.int .i64 v0, .int .i64 v1, .int .i64 v2, .int .i64 v3, .int .i64 v4, .int .i64 v5, .int .i64 v6, .int .i64 v7] 32)).alloc (.cells #[.int .i64 u0, .int .i64 u1, .int .i64 u2, .int .i64 u3, .int .i64 u4, .int .i64 u5, .int .i64 u6, .int .i64 u7] 32)) #[.int .i64 0, .int .i64 0, .int .i64 0, .int .i64 0, .int .i64 0, .int .i64 0, .int .i64 0, .int .i64 0] 32
  go_enter Try.func48, Try.ntmps48
  go_upto_region 1 with fail
  simp only [World.size_alloc] at B4 B6
  generalize (((w.alloc (.cells #[.int .i64 v0, .int .i64 v1, .int .i64 v2, .int .i64 v3, .int .i64 v4, .int .i64 v5, .int .i64 v6, .int .i64 v7] 32)).alloc (.cells #[.int .i64 u0, .int .i64 u1, .int .i64 u2, .int .i64 u3, .int .i64 u4, .int .i64 u5, .int .i64 u6, .int .i64 u7] 32)).alloc (.cells #[.int .i64 0, .int .i64 0, .int .i64 0, .int .i64 0, .int .i64 0, .int .i64 0, .int .i64 0, .int .i64 0] 32)) = w1 at *
  have cB3 := B3.cell
  have cB4 := B4.cell
  apply wp_region_reads2 _ (by kernel_rfl) (by kernel_rfl)
  case H =>
    intro y0 hy0
    have hne : Nonempty (Wx y0) := ⟨⟨y0, Ext.refl y0⟩⟩
    have q3 := fun (t : Wx y0) => (B3.ext (hy0.trans t.ext)).cell
    have q4 := fun (t : Wx y0) => (B4.ext (hy0.trans t.ext)).cell
    repeat (go_big_quiet_step (first | (go_at_call 47; with_reducible exact calm_of (HA.out _)) | (go_at_call 47; with_reducible exact calm_of (HB.out _))))
    exact wpQuiet_nil rfl
  intro w2 x2
  have B3 := B3.ext x2
  have B4 := B4.ext x2
  have B6 := B6.ext x2
  have x12 := x1.trans x2
  clear x1 x2 HA HB cB3 cB4
  have Bf := B6.setRow #[.int .i64 v0, .int .i64 v1, .int .i64 v2, .int .i64 v3, .int .i64 v4, .int .i64 v5, .int .i64 v6, .int .i64 v7]
  have Ef := x12.setRow (g := w.heap.size + 1 + 1) (by omega) #[.int .i64 v0, .int .i64 v1, .int .i64 v2, .int .i64 v3, .int .i64 v4, .int .i64 v5, .int .i64 v6, .int .i64 v7]
  have h1n : ¬ a < 0 := by omega
  go_wp2_with (first
    | ((with_reducible refine wpList_load_blk (op := ⟨some 21, _, _, _, _, _⟩) ?_ 32 (.tmp 3) ?_ (w.heap.size) ?_ (z := _) (T := 32) B3 Try.underlying32 ?_ ?_ ?_); rfl; rfl; rfl; rfl; kernel_rfl)
    | ((with_reducible refine wpList_store_blk (op := ⟨none, .store 32 (.tmp 6) (.tmp 21), _, _, _, _⟩) ?_ 32 (.tmp 6) (.tmp 21) ?_ (w.heap.size + 1 + 1) ?_ (cs := #[.int .i64 v0, .int .i64 v1, .int .i64 v2, .int .i64 v3, .int .i64 v4, .int .i64 v5, .int .i64 v6, .int .i64 v7]) ?_ (z := #[.int .i64 0, .int .i64 0, .int .i64 0, .int .i64 0, .int .i64 0, .int .i64 0, .int .i64 0, .int .i64 0]) (T := 32) ?_ ?_ ?_ ?_ ?_); rfl; rfl; rfl; rfl; exact B6; kernel_rfl; kernel_rfl; kernel_rfl)
    | fail)
  exact bodyPost_ret (v := .agg #[.int .i64 v0, .int .i64 v1, .int .i64 v2, .int .i64 v3, .int .i64 v4, .int .i64 v5, .int .i64 v6, .int .i64 v7]) (results_blk (b := w.heap.size + 1 + 1) (t := 6) (ty := 32) rfl rfl Bf Try.underlying32 rfl (by kernel_rfl)) rfl ⟨rfl, Ef⟩
set_option maxRecDepth 100000 in
set_option maxHeartbeats 4000000 in
theorem cross_cut (v0 v1 v2 v3 v4 v5 v6 v7 u0 u1 u2 u3 u4 u5 u6 u7 a b : Int) (k : Int) (w : World) (hA : ∀ u, Calls Try.prog 47 #[.agg #[.int .i64 v0, .int .i64 v1, .int .i64 v2, .int .i64 v3, .int .i64 v4, .int .i64 v5, .int .i64 v6, .int .i64 v7], .int .i64 k] u fun e w' => e = .returned (.int .i64 a) ∧ Ext u w') (hB : ∀ u, Calls Try.prog 47 #[.agg #[.int .i64 u0, .int .i64 u1, .int .i64 u2, .int .i64 u3, .int .i64 u4, .int .i64 u5, .int .i64 u6, .int .i64 u7], .int .i64 k] u fun e w' => e = .returned (.int .i64 b) ∧ Ext u w') (r0 r1 r2 r3 r4 r5 r6 r7 : Int) (ha : 0 ≤ a ∧ a ≤ 37748736) (hb : -37748736 ≤ b ∧ b < 0) (hP : ∀ u : World, Calls Try.prog 57 #[.agg #[.int .i64 v0, .int .i64 v1, .int .i64 v2, .int .i64 v3], .agg #[.int .i64 u0, .int .i64 u1, .int .i64 u2, .int .i64 u3], .int .i64 a, .int .i64 (a - b)] u fun e w' => e = .returned (.agg #[.int .i64 r0, .int .i64 r1, .int .i64 r2, .int .i64 r3]) ∧ Ext u w') (hQ : ∀ u : World, Calls Try.prog 57 #[.agg #[.int .i64 v4, .int .i64 v5, .int .i64 v6, .int .i64 v7], .agg #[.int .i64 u4, .int .i64 u5, .int .i64 u6, .int .i64 u7], .int .i64 a, .int .i64 (a - b)] u fun e w' => e = .returned (.agg #[.int .i64 r4, .int .i64 r5, .int .i64 r6, .int .i64 r7]) ∧ Ext u w') : Calls Try.prog 48 #[.agg #[.int .i64 v0, .int .i64 v1, .int .i64 v2, .int .i64 v3, .int .i64 v4, .int .i64 v5, .int .i64 v6, .int .i64 v7], .agg #[.int .i64 u0, .int .i64 u1, .int .i64 u2, .int .i64 u3, .int .i64 u4, .int .i64 u5, .int .i64 u6, .int .i64 u7], .int .i64 k] w fun e w' => e = .returned (.agg #[.int .i64 r0, .int .i64 r1, .int .i64 r2, .int .i64 r3, .int .i64 r4, .int .i64 r5, .int .i64 r6, .int .i64 r7]) ∧ Ext w w' := by
  have HP := Lib.hid hP
  have HQ := Lib.hid hQ
  clear hP hQ
  have HA := Lib.hid hA
  have HB := Lib.hid hB
  clear hA hB
  have x1 : Ext w (((w.alloc (.cells #[.int .i64 v0, .int .i64 v1, .int .i64 v2, .int .i64 v3, .int .i64 v4, .int .i64 v5, .int .i64 v6, .int .i64 v7] 32)).alloc (.cells #[.int .i64 u0, .int .i64 u1, .int .i64 u2, .int .i64 u3, .int .i64 u4, .int .i64 u5, .int .i64 u6, .int .i64 u7] 32)).alloc (.cells #[.int .i64 0, .int .i64 0, .int .i64 0, .int .i64 0, .int .i64 0, .int .i64 0, .int .i64 0, .int .i64 0] 32)) := (((Ext.refl w).alloc _ _).alloc _ _).alloc _ _
  have B3 := ((Blk.new w #[.int .i64 v0, .int .i64 v1, .int .i64 v2, .int .i64 v3, .int .i64 v4, .int .i64 v5, .int .i64 v6, .int .i64 v7] 32).alloc (.cells #[.int .i64 u0, .int .i64 u1, .int .i64 u2, .int .i64 u3, .int .i64 u4, .int .i64 u5, .int .i64 u6, .int .i64 u7] 32)).alloc (.cells #[.int .i64 0, .int .i64 0, .int .i64 0, .int .i64 0, .int .i64 0, .int .i64 0, .int .i64 0, .int .i64 0] 32)
  have B4 := (Blk.new (w.alloc (.cells #[.int .i64 v0, .int .i64 v1, .int .i64 v2, .int .i64 v3, .int .i64 v4, .int .i64 v5, .int .i64 v6, .int .i64 v7] 32)) #[.int .i64 u0, .int .i64 u1, .int .i64 u2, .int .i64 u3, .int .i64 u4, .int .i64 u5, .int .i64 u6, .int .i64 u7] 32).alloc (.cells #[.int .i64 0, .int .i64 0, .int .i64 0, .int .i64 0, .int .i64 0, .int .i64 0, .int .i64 0, .int .i64 0] 32)
  have B6 := Blk.new ((w.alloc (.cells #[.int .i64 v0, .int .i64 v1, .int .i64 v2, .int .i64 v3, .int .i64 v4, .int .i64 v5, .int .i64 v6, .int .i64 v7] 32)).alloc (.cells #[.int .i64 u0, .int .i64 u1, .int .i64 u2, .int .i64 u3, .int .i64 u4, .int .i64 u5, .int .i64 u6, .int .i64 u7] 32)) #[.int .i64 0, .int .i64 0, .int .i64 0, .int .i64 0, .int .i64 0, .int .i64 0, .int .i64 0, .int .i64 0] 32
  go_enter Try.func48, Try.ntmps48
  go_upto_region 1 with fail
  simp only [World.size_alloc] at B4 B6
  generalize (((w.alloc (.cells #[.int .i64 v0, .int .i64 v1, .int .i64 v2, .int .i64 v3, .int .i64 v4, .int .i64 v5, .int .i64 v6, .int .i64 v7] 32)).alloc (.cells #[.int .i64 u0, .int .i64 u1, .int .i64 u2, .int .i64 u3, .int .i64 u4, .int .i64 u5, .int .i64 u6, .int .i64 u7] 32)).alloc (.cells #[.int .i64 0, .int .i64 0, .int .i64 0, .int .i64 0, .int .i64 0, .int .i64 0, .int .i64 0, .int .i64 0] 32)) = w1 at *
  have cB3 := B3.cell
  have cB4 := B4.cell
  apply wp_region_reads2 _ (by kernel_rfl) (by kernel_rfl)
  case H =>
    intro y0 hy0
    have hne : Nonempty (Wx y0) := ⟨⟨y0, Ext.refl y0⟩⟩
    have q3 := fun (t : Wx y0) => (B3.ext (hy0.trans t.ext)).cell
    have q4 := fun (t : Wx y0) => (B4.ext (hy0.trans t.ext)).cell
    repeat (go_big_quiet_step (first | (go_at_call 47; with_reducible exact calm_of (HA.out _)) | (go_at_call 47; with_reducible exact calm_of (HB.out _))))
    exact wpQuiet_nil rfl
  intro w2 x2
  have B3 := B3.ext x2
  have B4 := B4.ext x2
  have B6 := B6.ext x2
  have x12 := x1.trans x2
  clear x1 x2 HA HB cB3 cB4
  have h1 : ¬ a < 0 := by omega
  have h2 : ¬ 0 ≤ b := by omega
  go_upto_region 4 with fail
  apply wp_region_vars [false, false, false, false, false, false, false, false, false, false, false, false, false, false, false, false, false, false, false, true] [w.heap.size + 1 + 1] [⟨none, 0, w.heap.size + 1 + 1, some 19, 32, #[.int .i64 0, .int .i64 0, .int .i64 0, .int .i64 0, .int .i64 0, .int .i64 0, .int .i64 0, .int .i64 0], #[.int .i64 r0, .int .i64 r1, .int .i64 r2, .int .i64 r3, .int .i64 r4, .int .i64 r5, .int .i64 r6, .int .i64 r7]⟩] _ (by kernel_rfl) (by kernel_rfl) (by kernel_rfl)
  case H =>
    intro x hx
    have hne : Nonempty (Wx x) := ⟨⟨x, Ext.refl x⟩⟩
    have q3 := fun (y : Wx x) => ((B3.calm hx (by simp; omega)).ext y.ext).cell
    have q4 := fun (y : Wx x) => ((B4.calm hx (by simp)).ext y.ext).cell
    simp only [eraseM]
    repeat (go_big_quiet_step (first | (go_at_call 57; with_reducible exact calm_of (HP.out _)) | (go_at_call 57; with_reducible exact calm_of (HQ.out _))))
    exact wpQuiet_nil rfl
  case hok =>
    simp only [List.forall_mem_cons, List.not_mem_nil, false_implies, implies_true, and_true]
    exact tgt_mine (v := .agg #[.int .i64 r0, .int .i64 r1, .int .i64 r2, .int .i64 r3, .int .i64 r4, .int .i64 r5, .int .i64 r6, .int .i64 r7]) (off := 0) (by simp) B6 rfl rfl rfl rfl rfl rfl (by kernel_rfl) (by kernel_rfl) (of_decide_eq_true (by kernel_rfl)) rfl
  case hdis =>
    intro k k' t t' hk hk' hkk ha ha'
    exfalso
    have h1 : k < 1 := (List.getElem?_eq_some_iff.1 hk).1
    have h2 : k' < 1 := (List.getElem?_eq_some_iff.1 hk').1
    omega
  rintro w4 f hw ⟨k0, l0, d0, u0, -⟩
  have e0 : f 0 = w.heap.size + 1 + 1 := k0
  rw [e0] at d0
  have Ef := Ext.calm_trans x12 hw (by simp; omega)
  clear k0 l0 u0 e0 hw HP HQ B3 B4 B6 x12
  simp only [pairs, putAll, Option.isSome_none, Bool.false_eq_true, if_false]
  go_wp2_with fail
  exact bodyPost_ret (v := .agg #[.int .i64 r0, .int .i64 r1, .int .i64 r2, .int .i64 r3, .int .i64 r4, .int .i64 r5, .int .i64 r6, .int .i64 r7]) (results_blk (b := w.heap.size + 1 + 1) (t := 6) (ty := 32) rfl rfl d0 Try.underlying32 rfl (by kernel_rfl)) rfl ⟨rfl, Ef⟩
theorem cross_any (v u : V8) (hv : v.in64) (hu : u.in64) (k : Nat) (w : World) : Calls Try.prog 48 #[.agg v.l.toArray, .agg u.l.toArray, .int .i64 (k : Int)] w fun e w' => e = .returned (.agg (crossZ v u k).l.toArray) ∧ Ext w w' := by
  have hA := insideN_any v hv k
  have hB := insideN_any u hu k
  have ba := insF_bd v.lim_fine.1 k
  have bb := insF_bd u.lim_fine.1 k
  unfold crossZ
  by_cases h1 : insF v.lim k < 0
  · rw [if_pos (.inl h1)]
    exact cross_keep1 v.p0 v.p1 v.p2 v.p3 v.c0 v.c1 v.c2 v.c3 u.p0 u.p1 u.p2 u.p3 u.c0 u.c1 u.c2 u.c3 _ _ k w hA hB h1
  · by_cases h2 : 0 ≤ insF u.lim k
    · rw [if_pos (.inr h2)]
      exact cross_keep2 v.p0 v.p1 v.p2 v.p3 v.c0 v.c1 v.c2 v.c3 u.p0 u.p1 u.p2 u.p3 u.c0 u.c1 u.c2 u.c3 _ _ k w hA hB (by omega) h2
    · rw [if_neg (by omega)]
      obtain ⟨a0, a1, a2, a3, a4, a5, a6, a7⟩ := hv
      obtain ⟨g0, g1, g2, g3, g4, g5, g6, g7⟩ := hu
      exact cross_cut v.p0 v.p1 v.p2 v.p3 v.c0 v.c1 v.c2 v.c3 u.p0 u.p1 u.p2 u.p3 u.c0 u.c1 u.c2 u.c3 _ _ k w hA hB _ _ _ _ _ _ _ _ (by omega) (by omega) (fun z => between_any _ _ _ _ _ _ _ _ _ _ a0 a1 a2 a3 g0 g1 g2 g3 (by omega) (by omega) (by omega) z) (fun z => between_any _ _ _ _ _ _ _ _ _ _ a4 a5 a6 a7 g4 g5 g6 g7 (by omega) (by omega) (by omega) z)
end Go.Proofs.Ytglehnmkdapnpaa

namespace Go.Proofs.Ytglehnmkdapnpaa
open Go.RowKit
set_option linter.unusedVariables false
theorem limC_eq (n : Int) : minZ (maxZ n 0) 65536 = limC n := by
  unfold minZ maxZ limC clampZ
  omega
theorem maxZ_bd (n : Int) : -9223372036854775808 ≤ maxZ n 0 ∧ maxZ n 0 ≤ 9223372036854775807 := by unfold maxZ clampZ; omega
set_option maxRecDepth 100000 in
set_option maxHeartbeats 4000000 in
theorem vmall12 (n : Int) (w : World) : Calls Try.prog 59 #[.int .i64 n] w fun e w' => e = .returned (.agg #[.int .i64 n, .int .i64 n, .int .i64 n, .int .i64 n]) ∧ Ext w w' := by
  go_enter Try.func59, Try.ntmps59
  go_wp2
  refine bodyPost_ret (v := .agg #[.int .i64 n, .int .i64 n, .int .i64 n, .int .i64 n]) (by simp [results, Try.results59, go_sem]) rfl ⟨rfl, ?_⟩
  repeat (first | exact Ext.refl _ | apply Ext.drew | apply Ext.drewN | apply Ext.alloc)
set_option maxRecDepth 100000 in
set_option maxHeartbeats 4000000 in
theorem colour_main (c0 c1 c2 c3 g0 g1 g2 g3 r0 r1 r2 r3 : Int) (hM : ∀ u : World, Calls Try.prog 58 #[.agg #[.int .i64 c0, .int .i64 c1, .int .i64 c2, .int .i64 c3], .agg #[.int .i64 0, .int .i64 0, .int .i64 0, .int .i64 0]] u fun e w' => e = .returned (.agg #[.int .i64 g0, .int .i64 g1, .int .i64 g2, .int .i64 g3]) ∧ Ext u w') (hN : ∀ u : World, Calls Try.prog 60 #[.agg #[.int .i64 g0, .int .i64 g1, .int .i64 g2, .int .i64 g3], .agg #[.int .i64 65536, .int .i64 65536, .int .i64 65536, .int .i64 65536]] u fun e w' => e = .returned (.agg #[.int .i64 r0, .int .i64 r1, .int .i64 r2, .int .i64 r3]) ∧ Ext u w') (w : World) : Calls Try.prog 54 #[.agg #[.int .i64 c0, .int .i64 c1, .int .i64 c2, .int .i64 c3]] w fun e w' => e = .returned (.agg #[.int .i64 r0, .int .i64 r1, .int .i64 r2, .int .i64 r3]) ∧ Ext w w' := by
  have HM := Lib.hid hM
  have HN := Lib.hid hN
  clear hM hN
  have x1 : Ext w ((w.alloc (.cells #[.int .i64 c0, .int .i64 c1, .int .i64 c2, .int .i64 c3] 30)).alloc (.cells #[.int .i64 0, .int .i64 0, .int .i64 0, .int .i64 0] 30)) := ((Ext.refl w).alloc _ _).alloc _ _
  have B1 := (Blk.new w #[.int .i64 c0, .int .i64 c1, .int .i64 c2, .int .i64 c3] 30).alloc (.cells #[.int .i64 0, .int .i64 0, .int .i64 0, .int .i64 0] 30)
  have B2 := Blk.new (w.alloc (.cells #[.int .i64 c0, .int .i64 c1, .int .i64 c2, .int .i64 c3] 30)) #[.int .i64 0, .int .i64 0, .int .i64 0, .int .i64 0] 30
  go_enter Try.func54, Try.ntmps54
  go_upto_region 1 with fail
  simp only [World.size_alloc] at B2
  generalize ((w.alloc (.cells #[.int .i64 c0, .int .i64 c1, .int .i64 c2, .int .i64 c3] 30)).alloc (.cells #[.int .i64 0, .int .i64 0, .int .i64 0, .int .i64 0] 30)) = w1 at *
  apply wp_region_vars [false, false, false, false, false, true] [w.heap.size + 1] [⟨none, 0, w.heap.size + 1, some 5, 30, #[.int .i64 0, .int .i64 0, .int .i64 0, .int .i64 0], #[.int .i64 r0, .int .i64 r1, .int .i64 r2, .int .i64 r3]⟩] _ (by kernel_rfl) (by kernel_rfl) (by kernel_rfl)
  case H =>
    intro x hx
    have hne : Nonempty (Wx x) := ⟨⟨x, Ext.refl x⟩⟩
    have q3 := fun (y : Wx x) => ((B1.calm hx (by simp)).ext y.ext).cell
    simp only [eraseM]
    repeat (go_big_quiet_step (first | (go_at_call 59; with_reducible exact calm_of (vmall12 _ _)) | (go_at_call 58; with_reducible exact calm_of (HM.out _)) | (go_at_call 60; with_reducible exact calm_of (HN.out _))))
    exact wpQuiet_nil rfl
  case hok =>
    simp only [List.forall_mem_cons, List.not_mem_nil, false_implies, implies_true, and_true]
    exact tgt_mine (v := .agg #[.int .i64 r0, .int .i64 r1, .int .i64 r2, .int .i64 r3]) (off := 0) (by simp) B2 rfl rfl rfl rfl rfl rfl (by kernel_rfl) (by kernel_rfl) (of_decide_eq_true (by kernel_rfl)) rfl
  case hdis =>
    intro k k' t t' hk hk' hkk ha ha'
    exfalso
    have h1 : k < 1 := (List.getElem?_eq_some_iff.1 hk).1
    have h2 : k' < 1 := (List.getElem?_eq_some_iff.1 hk').1
    omega
  rintro w4 f hw ⟨k0, l0, d0, u0, -⟩
  have e0 : f 0 = w.heap.size + 1 := k0
  rw [e0] at d0
  have Ef := Ext.calm_trans x1 hw (by simp)
  clear k0 l0 u0 e0 hw HM HN B1 B2 x1
  simp only [pairs, putAll, Option.isSome_none, Bool.false_eq_true, if_false]
  go_wp2_with fail
  exact bodyPost_ret (v := .agg #[.int .i64 r0, .int .i64 r1, .int .i64 r2, .int .i64 r3]) (results_blk (b := w.heap.size + 1) (t := 2) (ty := 30) rfl rfl d0 Try.underlying30 rfl (by kernel_rfl)) rfl ⟨rfl, Ef⟩
theorem colour_lim (c0 c1 c2 c3 : Int) (b0 : -9223372036854775808 ≤ c0 ∧ c0 ≤ 9223372036854775807) (b1 : -9223372036854775808 ≤ c1 ∧ c1 ≤ 9223372036854775807) (b2 : -9223372036854775808 ≤ c2 ∧ c2 ≤ 9223372036854775807) (b3 : -9223372036854775808 ≤ c3 ∧ c3 ≤ 9223372036854775807) (w : World) : Calls Try.prog 54 #[.agg #[.int .i64 c0, .int .i64 c1, .int .i64 c2, .int .i64 c3]] w fun e w' => e = .returned (.agg #[.int .i64 (limC c0), .int .i64 (limC c1), .int .i64 (limC c2), .int .i64 (limC c3)]) ∧ Ext w w' := by
  refine colour_main c0 c1 c2 c3 _ _ _ _ _ _ _ _ (fun u => vec_maxZ _ _ _ _ _ _ _ _ b0 (by omega) b1 (by omega) b2 (by omega) b3 (by omega) u) (fun u => ?_) w
  have := vec_minZ _ _ _ _ _ _ _ _ (maxZ_bd c0) (show -9223372036854775808 ≤ (65536 : Int) ∧ (65536 : Int) ≤ 9223372036854775807 by omega) (maxZ_bd c1) (show -9223372036854775808 ≤ (65536 : Int) ∧ (65536 : Int) ≤ 9223372036854775807 by omega) (maxZ_bd c2) (show -9223372036854775808 ≤ (65536 : Int) ∧ (65536 : Int) ≤ 9223372036854775807 by omega) (maxZ_bd c3) (show -9223372036854775808 ≤ (65536 : Int) ∧ (65536 : Int) ≤ 9223372036854775807 by omega) u
  simp only [limC_eq] at this
  exact this
set_option maxRecDepth 100000 in
set_option maxHeartbeats 4000000 in
theorem limited_main (p0 p1 p2 p3 c0 c1 c2 c3 q0 q1 q2 q3 r0 r1 r2 r3 s : Int) (hs : max q3 256 = s) (hW : ∀ u : World, Calls Try.prog 33 #[.agg #[.int .i64 p0, .int .i64 p1, .int .i64 p2, .int .i64 p3], .int .i64 4194304] u fun e w' => e = .returned (.agg #[.int .i64 q0, .int .i64 q1, .int .i64 q2, .int .i64 q3]) ∧ Ext u w') (hC : ∀ u : World, Calls Try.prog 54 #[.agg #[.int .i64 c0, .int .i64 c1, .int .i64 c2, .int .i64 c3]] u fun e w' => e = .returned (.agg #[.int .i64 r0, .int .i64 r1, .int .i64 r2, .int .i64 r3]) ∧ Ext u w') (w : World) : Calls Try.prog 49 #[.agg #[.int .i64 p0, .int .i64 p1, .int .i64 p2, .int .i64 p3, .int .i64 c0, .int .i64 c1, .int .i64 c2, .int .i64 c3]] w fun e w' => e = .returned (.agg #[.int .i64 q0, .int .i64 q1, .int .i64 q2, .int .i64 s, .int .i64 r0, .int .i64 r1, .int .i64 r2, .int .i64 r3]) ∧ Ext w w' := by
  have HW := Lib.hid hW
  have HC := Lib.hid hC
  clear hW hC
  have x1 : Ext w ((w.alloc (.cells #[.int .i64 p0, .int .i64 p1, .int .i64 p2, .int .i64 p3, .int .i64 c0, .int .i64 c1, .int .i64 c2, .int .i64 c3] 32)).alloc (.cells #[.int .i64 0, .int .i64 0, .int .i64 0, .int .i64 0, .int .i64 0, .int .i64 0, .int .i64 0, .int .i64 0] 32)) := ((Ext.refl w).alloc _ _).alloc _ _
  have B1 := (Blk.new w #[.int .i64 p0, .int .i64 p1, .int .i64 p2, .int .i64 p3, .int .i64 c0, .int .i64 c1, .int .i64 c2, .int .i64 c3] 32).alloc (.cells #[.int .i64 0, .int .i64 0, .int .i64 0, .int .i64 0, .int .i64 0, .int .i64 0, .int .i64 0, .int .i64 0] 32)
  have B2 := Blk.new (w.alloc (.cells #[.int .i64 p0, .int .i64 p1, .int .i64 p2, .int .i64 p3, .int .i64 c0, .int .i64 c1, .int .i64 c2, .int .i64 c3] 32)) #[.int .i64 0, .int .i64 0, .int .i64 0, .int .i64 0, .int .i64 0, .int .i64 0, .int .i64 0, .int .i64 0] 32
  go_enter Try.func49, Try.ntmps49
  go_upto_region 1 with fail
  simp only [World.size_alloc] at B2
  generalize ((w.alloc (.cells #[.int .i64 p0, .int .i64 p1, .int .i64 p2, .int .i64 p3, .int .i64 c0, .int .i64 c1, .int .i64 c2, .int .i64 c3] 32)).alloc (.cells #[.int .i64 0, .int .i64 0, .int .i64 0, .int .i64 0, .int .i64 0, .int .i64 0, .int .i64 0, .int .i64 0] 32)) = w1 at *
  have cB1 := B1.cell
  go_wp2_with fail
  refine (HW.out _).mono ?_
  rintro e w2 ⟨rfl, x2⟩
  have x12 := x1.trans x2
  have B1 := B1.ext x2
  have B2 := B2.ext x2
  have hb3 : w.heap.size + 1 < w2.heap.size := B2.lt
  have y3 : Ext w2 ((w2.alloc (.cells #[.int .i64 0, .int .i64 0, .int .i64 0, .int .i64 0] 30)).setRow w2.heap.size #[.int .i64 q0, .int .i64 q1, .int .i64 q2, .int .i64 q3]) := ((Ext.refl _).alloc _ _).setRow (Nat.le_refl _) _
  have B3 := (Blk.new w2 #[.int .i64 0, .int .i64 0, .int .i64 0, .int .i64 0] 30).setRow #[.int .i64 q0, .int .i64 q1, .int .i64 q2, .int .i64 q3]
  go_upto_region 2 with (first
    | ((with_reducible refine wpList_store_blk (op := ⟨none, .store 30 (.tmp 3) (.tmp 6), _, _, _, _⟩) ?_ 30 (.tmp 3) (.tmp 6) ?_ (w2.heap.size) ?_ (cs := #[.int .i64 q0, .int .i64 q1, .int .i64 q2, .int .i64 q3]) ?_ (z := #[.int .i64 0, .int .i64 0, .int .i64 0, .int .i64 0]) (T := 30) ?_ ?_ ?_ ?_ ?_); rfl; rfl; rfl; rfl; exact Blk.new w2 _ _; kernel_rfl; kernel_rfl; kernel_rfl)
    | fail)
  have x13 := x12.trans y3
  have B1 := B1.ext y3
  have B2 := B2.ext y3
  generalize (w2.alloc (.cells #[.int .i64 0, .int .i64 0, .int .i64 0, .int .i64 0] 30)).setRow w2.heap.size #[.int .i64 q0, .int .i64 q1, .int .i64 q2, .int .i64 q3] = w3 at *
  generalize w2.heap.size = b3 at *
  clear x1 x2 x12 y3 HW cB1
  simp only [Act.put]
  have hmx := maxI_fold
  have cB3 := B3.cell
  have fB3 := B3.frozen
  go_upto_region 3 with fail
  rw [maxI_eq, hs]
  have B3n : Blk (w3.setCell ⟨b3, 3, none⟩ (.int .i64 s)) b3 #[.int .i64 q0, .int .i64 q1, .int .i64 q2, .int .i64 s] 30 := by simpa using B3.set 3 (.int .i64 s)
  have B1 := B1.far (p := ⟨b3, 3, none⟩) (by simp only; omega) (.int .i64 s)
  have B2 := B2.far (p := ⟨b3, 3, none⟩) (by simp only; omega) (.int .i64 s)
  have x14 := x13.setCell (p := ⟨b3, 3, none⟩) (by simp only; omega) (.int .i64 s)
  clear x13 B3 cB3 fB3 hmx
  generalize w3.setCell ⟨b3, 3, none⟩ (.int .i64 s) = w4 at *
  apply wp_region_vars [false, false, false, false, false, true] [w.heap.size + 1] [⟨none, 0, w.heap.size + 1, some 5, 32, #[.int .i64 0, .int .i64 0, .int .i64 0, .int .i64 0, .int .i64 0, .int .i64 0, .int .i64 0, .int .i64 0], #[.int .i64 q0, .int .i64 q1, .int .i64 q2, .int .i64 s, .int .i64 r0, .int .i64 r1, .int .i64 r2, .int .i64 r3]⟩] _ (by kernel_rfl) (by kernel_rfl) (by kernel_rfl)
  case H =>
    intro x hx
    have hne : Nonempty (Wx x) := ⟨⟨x, Ext.refl x⟩⟩
    have q3 := fun (y : Wx x) => ((B1.calm hx (by simp)).ext y.ext).cell
    have q4 := fun (y : Wx x) => ((B3n.calm hx (by simp; omega)).ext y.ext).cell
    simp only [eraseM]
    repeat (go_big_quiet_step (first | (go_at_call 54; with_reducible exact calm_of (HC.out _))))
    exact wpQuiet_nil rfl
  case hok =>
    simp only [List.forall_mem_cons, List.not_mem_nil, false_implies, implies_true, and_true]
    exact tgt_mine (v := .agg #[.int .i64 q0, .int .i64 q1, .int .i64 q2, .int .i64 s, .int .i64 r0, .int .i64 r1, .int .i64 r2, .int .i64 r3]) (off := 0) (by simp) B2 rfl rfl rfl rfl rfl rfl (by kernel_rfl) (by kernel_rfl) (of_decide_eq_true (by kernel_rfl)) rfl
  case hdis =>
    intro k k' t t' hk hk' hkk ha ha'
    exfalso
    have h1 : k < 1 := (List.getElem?_eq_some_iff.1 hk).1
    have h2 : k' < 1 := (List.getElem?_eq_some_iff.1 hk').1
    omega
  rintro w5 f hw ⟨k0, l0, d0, u0, -⟩
  have e0 : f 0 = w.heap.size + 1 := k0
  rw [e0] at d0
  have Ef := Ext.calm_trans x14 hw (by simp)
  clear k0 l0 u0 e0 hw HC B1 B2 B3n x14
  simp only [pairs, putAll, Option.isSome_none, Bool.false_eq_true, if_false]
  go_wp2_with fail
  exact bodyPost_ret (v := .agg #[.int .i64 q0, .int .i64 q1, .int .i64 q2, .int .i64 s, .int .i64 r0, .int .i64 r1, .int .i64 r2, .int .i64 r3]) (results_blk (b := w.heap.size + 1) (t := 2) (ty := 32) rfl rfl d0 Try.underlying32 rfl (by kernel_rfl)) rfl ⟨rfl, Ef⟩
theorem vlimited_any (v : V8) (hv : v.in64) (w : World) : Calls Try.prog 49 #[.agg v.l.toArray] w fun e w' => e = .returned (.agg v.fin.l.toArray) ∧ Ext w w' := by
  obtain ⟨a0, a1, a2, a3, a4, a5, a6, a7⟩ := hv
  exact limited_main _ _ _ _ _ _ _ _ _ _ _ _ _ _ _ _ _ rfl (fun u => vwithin_lim v.p0 v.p1 v.p2 v.p3 a0 a1 a2 a3 u) (fun u => colour_lim v.c0 v.c1 v.c2 v.c3 a4 a5 a6 a7 u) w
end Go.Proofs.Ytglehnmkdapnpaa

namespace Go.Proofs.Ytglehnmkdapnpaa
open Go.RowKit
set_option linter.unusedVariables false
theorem info_c8 : (Try.prog.info? 32).map (fun i => (i.zero, i.size, i.bytes)) = some (some (.agg (V8.l ⟨0, 0, 0, 0, 0, 0, 0, 0⟩).toArray), 8, 64) := by kernel_rfl
def LC : Lay V8 where
  st := 35
  et := 32
  n := 8
  bytes := 64
  zero := .agg (V8.l ⟨0, 0, 0, 0, 0, 0, 0, 0⟩).toArray
  cells := V8.l
  len := fun _ => rfl
  one := fun x u hu => by
    simp at hu
    rcases hu with rfl | rfl | rfl | rfl | rfl | rfl | rfl | rfl <;> rfl
  pos := by decide
  small := by decide
  und := Try.underlying35
  info := info_c8
  zcells := rfl
set_option maxRecDepth 100000 in
set_option maxHeartbeats 4000000 in
theorem cut_any (w : World) (v : Value) (L : List V8) (hP : PArrG LC w v L) (hL : L.length ≤ 1000) (hf : ∀ x ∈ L, V8.in64 x) (k : Nat) : Calls Try.prog 25 #[v, .int .i64 (k : Int)] w fun e w' => ∃ r, e = .returned r ∧ OwnG LC w' w.heap.size r (gstep k L) ∧ Ext w w' := by
  obtain ⟨ao, cp, rfl, -, -⟩ := hP.slice
  have P := hP
  clear hP
  go_enter Try.func25, Try.ntmps25
  go_wp2_with fail
  go_loopg [5, 13] L.length (fun n0 v5 iv wx => ∃ (i : Nat) (a4 : Option Addr) (m4 c4 : Nat), i + n0 = L.length ∧ iv = .int .i64 i ∧ v5 = .slice a4 m4 c4 ∧ OwnG LC wx w.heap.size (.slice a4 m4 c4) (gpart k L i) ∧ Ext w wx)
  case atStart => exact ⟨0, none, 0, 0, by omega, by simp, rfl, by rw [gpart_zero]; exact OwnG.nil _ _ _, Ext.refl _⟩
  case round =>
        generalize wr = wy at *
        obtain ⟨i, a4, m4, c4, hik, rfl, rfl, o4, xo⟩ := hrel
        by_cases hi : i < L.length
        · have hiI : (i : Int) < (L.length : Int) := by omega
          obtain ⟨i2, hi2⟩ : ∃ i2, (i + 1) % L.length = i2 := ⟨_, rfl⟩
          have hi2n : i2 < L.length := by rw [← hi2]; exact Nat.mod_lt _ (by omega)
          have hmod : ((i : Int) + 1) % (L.length : Int) = (i2 : Int) := by rw [← hi2]; simp
          have hnI : (L.length : Int) ≠ 0 := by omega
          have hi2I : (i2 : Int) < (L.length : Int) := by omega
          obtain ⟨lb, off, x, rfl, -, hx, cx⟩ := P.nth i hi
          obtain ⟨lb2, off2, y, e2, -, hy, cy⟩ := P.nth i2 hi2n
          cases e2
          have hxf := hf x (List.mem_of_getElem? hx)
          have hyf := hf y (List.mem_of_getElem? hy)
          have hstep := gpart_succ k L i
          rw [List.getD_eq_getElem?_getD, List.getD_eq_getElem?_getD, hx, hi2, hy] at hstep
          simp only [Option.getD_some] at hstep
          have hpl := gpart_len k L i
          obtain ⟨pre, hpre⟩ : ∃ pre, gpart k L i = pre := ⟨_, rfl⟩
          rw [hpre] at o4 hstep hpl
          obtain ⟨_, _, e, -, -⟩ := id o4.slice
          cases e
          have hlt4 := o4.lt
          have hIn := fun u => insideN_any x hxf k u
          have hIm := fun u => insideN_any y hyf k u
          have hC1 := fun (h0 : 0 ≤ insF x.lim k) (h1 : insF y.lim k < 0) u => by
            have := cross_any x y hxf hyf k u
            unfold crossZ at this
            rw [if_neg (by omega)] at this
            exact this
          have hC2 := fun (h0 : 0 ≤ insF y.lim k) (h1 : insF x.lim k < 0) u => by
            have := cross_any y x hyf hxf k u
            unfold crossZ at this
            rw [if_neg (by omega)] at this
            exact this
          unfold gemit at hstep
          obtain ⟨qa, hq1⟩ : ∃ q, gcut x y k = q := ⟨_, rfl⟩
          obtain ⟨qb, hq2⟩ : ∃ q, gcut y x k = q := ⟨_, rfl⟩
          obtain ⟨a, ha⟩ : ∃ a, insF x.lim k = a := ⟨_, rfl⟩
          obtain ⟨b, hb⟩ : ∃ b, insF y.lim k = b := ⟨_, rfl⟩
          rw [ha] at hIn hC1 hC2
          rw [hb] at hIm hC1 hC2
          rw [hq1] at hC1
          rw [hq2] at hC2
          rw [ha, hb, hq1, hq2] at hstep
          clear ha hb hq1 hq2 hpre hi2 hxf hyf hx hy
          have HI1 := Lib.hid hIn
          have HI2 := Lib.hid hIm
          have HC1 := Lib.hid hC1
          have HC2 := Lib.hid hC2
          have HST := Lib.hid hstep
          have HP := Lib.hid P
          have HLf := Lib.hid hf
          clear hIn hIm hC1 hC2 hstep P hf
          obtain ⟨v0, v1, v2, v3, v4, v5, v6, v7⟩ := x
          obtain ⟨u0, u1, u2, u3, u4, u5, u6, u7⟩ := y
          obtain ⟨q0, q1, q2, q3, q4, q5, q6, q7⟩ := qa
          obtain ⟨r0, r1, r2, r3, r4, r5, r6, r7⟩ := qb
          have a0 := xo.old (cx 0 _ rfl)
          have e0 := xo.old (cy 0 _ rfl)
          have a1 := xo.old (cx 1 _ rfl)
          have e1 := xo.old (cy 1 _ rfl)
          have a2 := xo.old (cx 2 _ rfl)
          have e2 := xo.old (cy 2 _ rfl)
          have a3 := xo.old (cx 3 _ rfl)
          have e3 := xo.old (cy 3 _ rfl)
          have a4 := xo.old (cx 4 _ rfl)
          have e4 := xo.old (cy 4 _ rfl)
          have a5 := xo.old (cx 5 _ rfl)
          have e5 := xo.old (cy 5 _ rfl)
          have a6 := xo.old (cx 6 _ rfl)
          have e6 := xo.old (cy 6 _ rfl)
          have a7 := xo.old (cx 7 _ rfl)
          have e7 := xo.old (cy 7 _ rfl)
          simp only [LC, Nat.add_zero] at a0 e0 a1 e1 a2 e2 a3 e3 a4 e4 a5 e5 a6 e6 a7 e7
          clear cx cy
          have B7 := (Blk.new wy #[.int .i64 0, .int .i64 0, .int .i64 0, .int .i64 0, .int .i64 0, .int .i64 0, .int .i64 0, .int .i64 0] 32).setRow #[.int .i64 v0, .int .i64 v1, .int .i64 v2, .int .i64 v3, .int .i64 v4, .int .i64 v5, .int .i64 v6, .int .i64 v7]
          have y7 : Ext wy ((wy.alloc (.cells #[.int .i64 0, .int .i64 0, .int .i64 0, .int .i64 0, .int .i64 0, .int .i64 0, .int .i64 0, .int .i64 0] 32)).setRow wy.heap.size #[.int .i64 v0, .int .i64 v1, .int .i64 v2, .int .i64 v3, .int .i64 v4, .int .i64 v5, .int .i64 v6, .int .i64 v7]) := ((Ext.refl _).alloc _ _).setRow (Nat.le_refl _) _
          go_upto_region 5 with (first
            | ((with_reducible refine wpList_store_blk (op := ⟨none, .store 32 (.tmp 7) (.tmp 17), _, _, _, _⟩) ?_ 32 (.tmp 7) (.tmp 17) ?_ (wy.heap.size) ?_ (cs := #[.int .i64 v0, .int .i64 v1, .int .i64 v2, .int .i64 v3, .int .i64 v4, .int .i64 v5, .int .i64 v6, .int .i64 v7]) ?_ (z := #[.int .i64 0, .int .i64 0, .int .i64 0, .int .i64 0, .int .i64 0, .int .i64 0, .int .i64 0, .int .i64 0]) (T := 32) ?_ ?_ ?_ ?_ ?_); rfl; rfl; rfl; rfl; exact Blk.new wy _ _; kernel_rfl; kernel_rfl; kernel_rfl)
            | fail)
          simp only [Act.put]
          have hb7 : wy.heap.size ≤ wy.heap.size := Nat.le_refl _
          generalize (wy.alloc (.cells #[.int .i64 0, .int .i64 0, .int .i64 0, .int .i64 0, .int .i64 0, .int .i64 0, .int .i64 0, .int .i64 0] 32)).setRow wy.heap.size #[.int .i64 v0, .int .i64 v1, .int .i64 v2, .int .i64 v3, .int .i64 v4, .int .i64 v5, .int .i64 v6, .int .i64 v7] = w7 at *
          generalize hbe7 : wy.heap.size = b7 at *
          have e0 := y7.old e0
          have e1 := y7.old e1
          have e2 := y7.old e2
          have e3 := y7.old e3
          have e4 := y7.old e4
          have e5 := y7.old e5
          have e6 := y7.old e6
          have e7 := y7.old e7
          have B8 := (Blk.new w7 #[.int .i64 0, .int .i64 0, .int .i64 0, .int .i64 0, .int .i64 0, .int .i64 0, .int .i64 0, .int .i64 0] 32).setRow #[.int .i64 u0, .int .i64 u1, .int .i64 u2, .int .i64 u3, .int .i64 u4, .int .i64 u5, .int .i64 u6, .int .i64 u7]
          have y8 : Ext w7 ((w7.alloc (.cells #[.int .i64 0, .int .i64 0, .int .i64 0, .int .i64 0, .int .i64 0, .int .i64 0, .int .i64 0, .int .i64 0] 32)).setRow w7.heap.size #[.int .i64 u0, .int .i64 u1, .int .i64 u2, .int .i64 u3, .int .i64 u4, .int .i64 u5, .int .i64 u6, .int .i64 u7]) := ((Ext.refl _).alloc _ _).setRow (Nat.le_refl _) _
          go_upto_region 6 with (first
            | ((with_reducible refine wpList_store_blk (op := ⟨none, .store 32 (.tmp 8) (.tmp 25), _, _, _, _⟩) ?_ 32 (.tmp 8) (.tmp 25) ?_ (w7.heap.size) ?_ (cs := #[.int .i64 u0, .int .i64 u1, .int .i64 u2, .int .i64 u3, .int .i64 u4, .int .i64 u5, .int .i64 u6, .int .i64 u7]) ?_ (z := #[.int .i64 0, .int .i64 0, .int .i64 0, .int .i64 0, .int .i64 0, .int .i64 0, .int .i64 0, .int .i64 0]) (T := 32) ?_ ?_ ?_ ?_ ?_); rfl; rfl; rfl; rfl; exact Blk.new w7 _ _; kernel_rfl; kernel_rfl; kernel_rfl)
            | fail)
          simp only [Act.put]
          have hb8 : wy.heap.size ≤ w7.heap.size := y7.size
          generalize (w7.alloc (.cells #[.int .i64 0, .int .i64 0, .int .i64 0, .int .i64 0, .int .i64 0, .int .i64 0, .int .i64 0, .int .i64 0] 32)).setRow w7.heap.size #[.int .i64 u0, .int .i64 u1, .int .i64 u2, .int .i64 u3, .int .i64 u4, .int .i64 u5, .int .i64 u6, .int .i64 u7] = w8 at *
          generalize hbe8 : w7.heap.size = b8 at *
          have B7 := B7.ext y8
          clear a0 e0 a1 e1 a2 e2 a3 e3 a4 e4 a5 e5 a6 e6 a7 e7 hmod hi2I hnI hi2n
          have x8 := y7.trans y8
          clear y7 y8
          apply wp_region_reads2 _ (by kernel_rfl) (by kernel_rfl)
          case H =>
            intro y0 hy0
            have hne : Nonempty (Wx y0) := ⟨⟨y0, Ext.refl y0⟩⟩
            have q3 := fun (t : Wx y0) => (B7.ext (hy0.trans t.ext)).cell
            have q4 := fun (t : Wx y0) => (B8.ext (hy0.trans t.ext)).cell
            repeat (go_big_quiet_step (first | (go_at_call 47; with_reducible exact calm_of (HI1.out _)) | (go_at_call 47; with_reducible exact calm_of (HI2.out _))))
            exact wpQuiet_nil rfl
          intro w9 x9
          have B7 := B7.ext x9
          have B8 := B8.ext x9
          have x89 := x8.trans x9
          have o9 := o4.ext x89
          have E9 := xo.trans x89
          have hz9 := x89.size
          have hz0 := E9.size
          clear x8 x9 o4 HI1 HI2
          by_cases s1 : 0 ≤ a
          · by_cases s2 : 0 ≤ b
            · have hst := HST.out
              rw [if_pos s1, if_neg (by omega), if_neg (by omega)] at hst
              have E10_0 := E9
              have y10 : Ext w9 (w9.alloc (.cells #[.int .i64 v0, .int .i64 v1, .int .i64 v2, .int .i64 v3, .int .i64 v4, .int .i64 v5, .int .i64 v6, .int .i64 v7] 32)) := (Ext.refl _).alloc _ _
              have q10 := o9.ext y10
              have hcn10 : ∀ i u, (LC.cells ⟨v0, v1, v2, v3, v4, v5, v6, v7⟩)[i]? = some u → (w9.alloc (.cells #[.int .i64 v0, .int .i64 v1, .int .i64 v2, .int .i64 v3, .int .i64 v4, .int .i64 v5, .int .i64 v6, .int .i64 v7] 32)).cell? ⟨w9.heap.size, i, none⟩ = some u := fun i u hu => by
                rw [(Blk.new w9 _ _).cell]
                have hu' : (#[.int .i64 v0, .int .i64 v1, .int .i64 v2, .int .i64 v3, .int .i64 v4, .int .i64 v5, .int .i64 v6, .int .i64 v7] : Array Value).toList[i]? = some u := hu
                simpa using hu'
              have hz10 := (y10).size
              have hb10 := (E10_0).size
              go_wp2_with (first
                | ((with_reducible refine wpList_load_blk (op := ⟨some 36, _, _, _, _, _⟩) ?_ 32 (.tmp 7) ?_ (b7) ?_ (z := _) (T := 32) B7 Try.underlying32 ?_ ?_ ?_); rfl; rfl; rfl; rfl; kernel_rfl)
                | (at_builtin; refine wpList_append_g1 LC rfl _ _ rfl w.heap.size _ pre rfl q10 w9.heap.size 1 ⟨v0, v1, v2, v3, v4, v5, v6, v7⟩ rfl hcn10 (by first | omega | (simp; omega)) (by omega) ?_)
                | fail)
              intro v10 w10 o10 A10 hk10
              obtain ⟨ao10, c10, rfl, -, -⟩ := o10.slice
              have E10 := Ext.calm_trans (E10_0.trans y10) A10 (fun b hb => (o9.lt b (Option.mem_toList.1 hb)).1)
              simp only [List.length_append, List.length_cons, List.length_nil, Nat.zero_add] at o10 hk10 ⊢
              go_wp2
              go_roundg (gk - 1)
              case measure => omega
              case rel => exact ⟨i + 1, ao10, (pre.length + 1), c10, by omega, by simp, rfl, by rw [hst]; simpa using o10, E10⟩
            · have hst := HST.out
              rw [if_pos s1, if_pos (by omega), if_neg (by omega)] at hst
              have E10_0 := E9
              have y10 : Ext w9 (w9.alloc (.cells #[.int .i64 v0, .int .i64 v1, .int .i64 v2, .int .i64 v3, .int .i64 v4, .int .i64 v5, .int .i64 v6, .int .i64 v7] 32)) := (Ext.refl _).alloc _ _
              have q10 := o9.ext y10
              have hcn10 : ∀ i u, (LC.cells ⟨v0, v1, v2, v3, v4, v5, v6, v7⟩)[i]? = some u → (w9.alloc (.cells #[.int .i64 v0, .int .i64 v1, .int .i64 v2, .int .i64 v3, .int .i64 v4, .int .i64 v5, .int .i64 v6, .int .i64 v7] 32)).cell? ⟨w9.heap.size, i, none⟩ = some u := fun i u hu => by
                rw [(Blk.new w9 _ _).cell]
                have hu' : (#[.int .i64 v0, .int .i64 v1, .int .i64 v2, .int .i64 v3, .int .i64 v4, .int .i64 v5, .int .i64 v6, .int .i64 v7] : Array Value).toList[i]? = some u := hu
                simpa using hu'
              have hz10 := (y10).size
              have hb10 := (E10_0).size
              go_wp2_with (first
                | ((with_reducible refine wpList_load_blk (op := ⟨some 36, _, _, _, _, _⟩) ?_ 32 (.tmp 7) ?_ (b7) ?_ (z := _) (T := 32) B7 Try.underlying32 ?_ ?_ ?_); rfl; rfl; rfl; rfl; kernel_rfl)
                | (at_builtin; refine wpList_append_g1 LC rfl _ _ rfl w.heap.size _ pre rfl q10 w9.heap.size 1 ⟨v0, v1, v2, v3, v4, v5, v6, v7⟩ rfl hcn10 (by first | omega | (simp; omega)) (by omega) ?_)
                | fail)
              intro v10 w10 o10 A10 hk10
              obtain ⟨ao10, c10, rfl, -, -⟩ := o10.slice
              have E10 := Ext.calm_trans (E10_0.trans y10) A10 (fun b hb => (o9.lt b (Option.mem_toList.1 hb)).1)
              simp only [List.length_append, List.length_cons, List.length_nil, Nat.zero_add] at o10 hk10 ⊢
              have nb7 : b7 ∉ (Value.slice a4 pre.length c4).ownBlock.toList := fun hin => by have := (hlt4 _ (Option.mem_toList.1 hin)).2; omega
              have nb8 : b8 ∉ (Value.slice a4 pre.length c4).ownBlock.toList := fun hin => by have := (hlt4 _ (Option.mem_toList.1 hin)).2; omega
              have B7 := (B7.ext y10).calm A10 nb7
              have B8 := (B8.ext y10).calm A10 nb8
              go_wp2_with (first
                | ((with_reducible refine wpList_load_blk (op := ⟨some 46, _, _, _, _, _⟩) ?_ 32 (.tmp 7) ?_ (b7) ?_ (z := _) (T := 32) B7 Try.underlying32 ?_ ?_ ?_); rfl; rfl; rfl; rfl; kernel_rfl)
                | ((with_reducible refine wpList_load_blk (op := ⟨some 47, _, _, _, _, _⟩) ?_ 32 (.tmp 8) ?_ (b8) ?_ (z := _) (T := 32) B8 Try.underlying32 ?_ ?_ ?_); rfl; rfl; rfl; rfl; kernel_rfl)
                | fail)
              refine (HC1.out s1 (by omega) _).mono ?_
              rintro e w11 ⟨rfl, x11⟩
              have o11 := o10.ext x11
              have E12_0 := E10.trans x11
              have y12 : Ext w11 (w11.alloc (.cells #[.int .i64 q0, .int .i64 q1, .int .i64 q2, .int .i64 q3, .int .i64 q4, .int .i64 q5, .int .i64 q6, .int .i64 q7] 32)) := (Ext.refl _).alloc _ _
              have q12 := o11.ext y12
              have hcn12 : ∀ i u, (LC.cells ⟨q0, q1, q2, q3, q4, q5, q6, q7⟩)[i]? = some u → (w11.alloc (.cells #[.int .i64 q0, .int .i64 q1, .int .i64 q2, .int .i64 q3, .int .i64 q4, .int .i64 q5, .int .i64 q6, .int .i64 q7] 32)).cell? ⟨w11.heap.size, i, none⟩ = some u := fun i u hu => by
                rw [(Blk.new w11 _ _).cell]
                have hu' : (#[.int .i64 q0, .int .i64 q1, .int .i64 q2, .int .i64 q3, .int .i64 q4, .int .i64 q5, .int .i64 q6, .int .i64 q7] : Array Value).toList[i]? = some u := hu
                simpa using hu'
              have hz12 := (y12).size
              have hb12 := (E12_0).size
              go_wp2_with (first
                | fail
                | (at_builtin; refine wpList_append_g1 LC rfl _ _ rfl w.heap.size _ (pre ++ [(⟨v0, v1, v2, v3, v4, v5, v6, v7⟩ : V8)]) rfl q12 w11.heap.size 1 ⟨q0, q1, q2, q3, q4, q5, q6, q7⟩ rfl hcn12 (by first | omega | (simp; omega)) (by omega) ?_)
                | fail)
              intro v12 w12 o12 A12 hk12
              obtain ⟨ao12, c12, rfl, -, -⟩ := o12.slice
              have E12 := Ext.calm_trans (E12_0.trans y12) A12 (fun b hb => (o11.lt b (Option.mem_toList.1 hb)).1)
              simp only [List.length_append, List.length_cons, List.length_nil, Nat.zero_add] at o12 hk12 ⊢
              go_wp2
              go_roundg (gk - 1)
              case measure => omega
              case rel => exact ⟨i + 1, ao12, (pre.length + 1 + 1), c12, by omega, by simp, rfl, by rw [hst]; simpa using o12, E12⟩
          · by_cases s2 : 0 ≤ b
            · have hst := HST.out
              rw [if_neg s1, if_neg (by omega), if_pos (by omega)] at hst
              go_wp2_with (first
                | ((with_reducible refine wpList_load_blk (op := ⟨some 59, _, _, _, _, _⟩) ?_ 32 (.tmp 8) ?_ (b8) ?_ (z := _) (T := 32) B8 Try.underlying32 ?_ ?_ ?_); rfl; rfl; rfl; rfl; kernel_rfl)
                | ((with_reducible refine wpList_load_blk (op := ⟨some 60, _, _, _, _, _⟩) ?_ 32 (.tmp 7) ?_ (b7) ?_ (z := _) (T := 32) B7 Try.underlying32 ?_ ?_ ?_); rfl; rfl; rfl; rfl; kernel_rfl)
                | fail)
              refine (HC2.out s2 (by omega) _).mono ?_
              rintro e w11 ⟨rfl, x11⟩
              have o11 := o9.ext x11
              have E12_0 := E9.trans x11
              have y12 : Ext w11 (w11.alloc (.cells #[.int .i64 r0, .int .i64 r1, .int .i64 r2, .int .i64 r3, .int .i64 r4, .int .i64 r5, .int .i64 r6, .int .i64 r7] 32)) := (Ext.refl _).alloc _ _
              have q12 := o11.ext y12
              have hcn12 : ∀ i u, (LC.cells ⟨r0, r1, r2, r3, r4, r5, r6, r7⟩)[i]? = some u → (w11.alloc (.cells #[.int .i64 r0, .int .i64 r1, .int .i64 r2, .int .i64 r3, .int .i64 r4, .int .i64 r5, .int .i64 r6, .int .i64 r7] 32)).cell? ⟨w11.heap.size, i, none⟩ = some u := fun i u hu => by
                rw [(Blk.new w11 _ _).cell]
                have hu' : (#[.int .i64 r0, .int .i64 r1, .int .i64 r2, .int .i64 r3, .int .i64 r4, .int .i64 r5, .int .i64 r6, .int .i64 r7] : Array Value).toList[i]? = some u := hu
                simpa using hu'
              have hz12 := (y12).size
              have hb12 := (E12_0).size
              go_wp2_with (first
                | fail
                | (at_builtin; refine wpList_append_g1 LC rfl _ _ rfl w.heap.size _ pre rfl q12 w11.heap.size 1 ⟨r0, r1, r2, r3, r4, r5, r6, r7⟩ rfl hcn12 (by first | omega | (simp; omega)) (by omega) ?_)
                | fail)
              intro v12 w12 o12 A12 hk12
              obtain ⟨ao12, c12, rfl, -, -⟩ := o12.slice
              have E12 := Ext.calm_trans (E12_0.trans y12) A12 (fun b hb => (o11.lt b (Option.mem_toList.1 hb)).1)
              simp only [List.length_append, List.length_cons, List.length_nil, Nat.zero_add] at o12 hk12 ⊢
              go_wp2
              go_roundg (gk - 1)
              case measure => omega
              case rel => exact ⟨i + 1, ao12, (pre.length + 1), c12, by omega, by simp, rfl, by rw [hst]; simpa using o12, E12⟩
            · have hst := HST.out
              rw [if_neg s1, if_neg (by omega), if_neg (by omega)] at hst
              go_wp2
              go_roundg (gk - 1)
              case measure => omega
              case rel => exact ⟨i + 1, a4, pre.length, c4, by omega, by simp, rfl, by rw [hst]; simpa using o9, E9⟩
        · obtain rfl : i = L.length := by omega
          have HO4 := Lib.hid o4
          have HP := Lib.hid P
          clear o4 P hf
          go_wp2
          go_ret
          exact ⟨_, rfl, HO4.out, xo⟩
end Go.Proofs.Ytglehnmkdapnpaa

namespace Go.Proofs.Ytglehnmkdapnpaa
open Go.RowKit
set_option linter.unusedVariables false
theorem takeMap_succ (L : List V8) (j : Nat) (x : V8) (h : L[j]? = some x) : (L.take (j + 1)).map V8.fin = (L.take j).map V8.fin ++ [x.fin] := by
  rw [List.take_add_one, h]
  simp
set_option maxRecDepth 100000 in
set_option maxHeartbeats 4000000 in
theorem polygon_any (w : World) (v : Value) (L : List V8) (hP : PArrG LC w v L) (hL : L.length ≤ 1000) (hf : ∀ x ∈ L, V8.in64 x) : Calls Try.prog 26 #[v] w fun e w' => ∃ r, e = .returned r ∧ OwnG LC w' w.heap.size r (gend L) ∧ Ext w w' := by
  obtain ⟨ao, cp, rfl, -, -⟩ := hP.slice
  have P := hP
  clear hP
  go_enter Try.func26, Try.ntmps26
  by_cases h3 : L.length < 3
  · have hI : (L.length : Int) < 3 := by omega
    go_wp2
    go_ret
    exact ⟨_, rfl, by unfold gend; rw [if_pos (.inl h3)]; exact OwnG.nil _ _ _, Ext.refl _⟩
  have hI : ¬ (L.length : Int) < 3 := by omega
  by_cases h16 : 16 < L.length
  · have hI2 : (16 : Int) < (L.length : Int) := by omega
    go_wp2
    go_ret
    exact ⟨_, rfl, by unfold gend; rw [if_pos (.inr h16)]; exact OwnG.nil _ _ _, Ext.refl _⟩
  have hI2 : ¬ (16 : Int) < (L.length : Int) := by omega
  go_wp2_with fail
  go_loopg [3, 16] L.length (fun n0 v3 iv wx => ∃ (i : Nat) (a4 : Option Addr) (m4 c4 : Nat), i + n0 = L.length ∧ iv = .int .i64 i ∧ v3 = .slice a4 m4 c4 ∧ OwnG LC wx w.heap.size (.slice a4 m4 c4) ((L.take i).map V8.fin) ∧ Ext w wx)
  case atStart => exact ⟨0, none, 0, 0, by omega, by simp, rfl, OwnG.nil _ _ _, Ext.refl _⟩
  case round =>
        generalize wr = wy at *
        obtain ⟨i, a4, m4, c4, hik, rfl, rfl, o4, xo⟩ := hrel
        by_cases hi : i < L.length
        · have hiI : (i : Int) < (L.length : Int) := by omega
          obtain ⟨lb, off, x, rfl, -, hx, cx⟩ := P.nth i hi
          have hst := takeMap_succ L i x hx
          have hpl : ((L.take i).map V8.fin).length ≤ 1000 := by simp; omega
          have hF := fun u => vlimited_any x (hf x (List.mem_of_getElem? hx)) u
          obtain ⟨pre, hpre⟩ : ∃ pre, (L.take i).map V8.fin = pre := ⟨_, rfl⟩
          obtain ⟨q, hq⟩ : ∃ q, x.fin = q := ⟨_, rfl⟩
          rw [hpre] at o4 hst hpl
          rw [hq] at hst hF
          obtain ⟨_, _, e, -, -⟩ := id o4.slice
          cases e
          clear hx hpre hq
          have HST := Lib.hid hst
          have HF := Lib.hid hF
          have HP := Lib.hid P
          have HLf := Lib.hid hf
          clear hst hF P hf
          obtain ⟨v0, v1, v2, v3, v4, v5, v6, v7⟩ := x
          obtain ⟨q0, q1, q2, q3, q4, q5, q6, q7⟩ := q
          have a0 := xo.old (cx 0 _ rfl)
          have a1 := xo.old (cx 1 _ rfl)
          have a2 := xo.old (cx 2 _ rfl)
          have a3 := xo.old (cx 3 _ rfl)
          have a4 := xo.old (cx 4 _ rfl)
          have a5 := xo.old (cx 5 _ rfl)
          have a6 := xo.old (cx 6 _ rfl)
          have a7 := xo.old (cx 7 _ rfl)
          simp only [LC, Nat.add_zero] at a0 a1 a2 a3 a4 a5 a6 a7
          clear cx
          have B7 := (Blk.new wy #[.int .i64 0, .int .i64 0, .int .i64 0, .int .i64 0, .int .i64 0, .int .i64 0, .int .i64 0, .int .i64 0] 32).setRow #[.int .i64 v0, .int .i64 v1, .int .i64 v2, .int .i64 v3, .int .i64 v4, .int .i64 v5, .int .i64 v6, .int .i64 v7]
          have y7 : Ext wy ((wy.alloc (.cells #[.int .i64 0, .int .i64 0, .int .i64 0, .int .i64 0, .int .i64 0, .int .i64 0, .int .i64 0, .int .i64 0] 32)).setRow wy.heap.size #[.int .i64 v0, .int .i64 v1, .int .i64 v2, .int .i64 v3, .int .i64 v4, .int .i64 v5, .int .i64 v6, .int .i64 v7]) := ((Ext.refl _).alloc _ _).setRow (Nat.le_refl _) _
          go_upto_region 7 with (first
            | ((with_reducible refine wpList_store_blk (op := ⟨none, .store 32 (.tmp 5) (.tmp 19), _, _, _, _⟩) ?_ 32 (.tmp 5) (.tmp 19) ?_ (wy.heap.size) ?_ (cs := #[.int .i64 v0, .int .i64 v1, .int .i64 v2, .int .i64 v3, .int .i64 v4, .int .i64 v5, .int .i64 v6, .int .i64 v7]) ?_ (z := #[.int .i64 0, .int .i64 0, .int .i64 0, .int .i64 0, .int .i64 0, .int .i64 0, .int .i64 0, .int .i64 0]) (T := 32) ?_ ?_ ?_ ?_ ?_); rfl; rfl; rfl; rfl; exact Blk.new wy _ _; kernel_rfl; kernel_rfl; kernel_rfl)
            | fail)
          simp only [Act.put]
          clear a0 a1 a2 a3 a4 a5 a6 a7
          generalize (wy.alloc (.cells #[.int .i64 0, .int .i64 0, .int .i64 0, .int .i64 0, .int .i64 0, .int .i64 0, .int .i64 0, .int .i64 0] 32)).setRow wy.heap.size #[.int .i64 v0, .int .i64 v1, .int .i64 v2, .int .i64 v3, .int .i64 v4, .int .i64 v5, .int .i64 v6, .int .i64 v7] = w7 at *
          generalize hbe : wy.heap.size = b7 at *
          go_wp2_with (first
            | ((with_reducible refine wpList_load_blk (op := ⟨some 21, _, _, _, _, _⟩) ?_ 32 (.tmp 5) ?_ (b7) ?_ (z := _) (T := 32) B7 Try.underlying32 ?_ ?_ ?_); rfl; rfl; rfl; rfl; kernel_rfl)
            | fail)
          refine (HF.out _).mono ?_
          rintro e w9 ⟨rfl, x9⟩
          have o9 := o4.ext (y7.trans x9)
          have E9 := xo.trans (y7.trans x9)
          have E10_0 := E9
          have hst := HST.out
          have y10 : Ext w9 (w9.alloc (.cells #[.int .i64 q0, .int .i64 q1, .int .i64 q2, .int .i64 q3, .int .i64 q4, .int .i64 q5, .int .i64 q6, .int .i64 q7] 32)) := (Ext.refl _).alloc _ _
          have q10 := o9.ext y10
          have hcn10 : ∀ i u, (LC.cells ⟨q0, q1, q2, q3, q4, q5, q6, q7⟩)[i]? = some u → (w9.alloc (.cells #[.int .i64 q0, .int .i64 q1, .int .i64 q2, .int .i64 q3, .int .i64 q4, .int .i64 q5, .int .i64 q6, .int .i64 q7] 32)).cell? ⟨w9.heap.size, i, none⟩ = some u := fun i u hu => by
            rw [(Blk.new w9 _ _).cell]
            have hu' : (#[.int .i64 q0, .int .i64 q1, .int .i64 q2, .int .i64 q3, .int .i64 q4, .int .i64 q5, .int .i64 q6, .int .i64 q7] : Array Value).toList[i]? = some u := hu
            simpa using hu'
          have hz10 := (y10).size
          have hb10 := (E10_0).size
          go_wp2_with (first
            | fail
            | (at_builtin; refine wpList_append_g1 LC rfl _ _ rfl w.heap.size _ pre rfl q10 w9.heap.size 1 ⟨q0, q1, q2, q3, q4, q5, q6, q7⟩ rfl hcn10 (by first | omega | (simp; omega)) (by omega) ?_)
            | fail)
          intro v10 w10 o10 A10 hk10
          obtain ⟨ao10, c10, rfl, -, -⟩ := o10.slice
          have E10 := Ext.calm_trans (E10_0.trans y10) A10 (fun b hb => (o9.lt b (Option.mem_toList.1 hb)).1)
          simp only [List.length_append, List.length_cons, List.length_nil, Nat.zero_add] at o10 hk10 ⊢
          go_wp2
          go_roundg (gk - 1)
          case measure => omega
          case rel => exact ⟨i + 1, ao10, (pre.length + 1), c10, by omega, by simp, rfl, by rw [hst]; simpa using o10, E10⟩
        · obtain rfl : i = L.length := by omega
          have HO4 := Lib.hid o4
          have HP := Lib.hid P
          clear o4 P hf
          go_wp2
          go_ret
          refine ⟨_, rfl, ?_, xo⟩
          have := HO4.out
          rw [List.take_length] at this
          unfold gend
          rw [if_neg (by omega)]
          exact this
set_option maxRecDepth 100000 in
set_option maxHeartbeats 4000000 in
theorem clip_main (v0 v1 v2 v3 v4 v5 v6 v7 n0 n1 n2 n3 n4 n5 n6 n7 t0 t1 t2 t3 t4 t5 t6 t7 : Int) (l : List V8) (hl : l = [⟨v0, v1, v2, v3, v4, v5, v6, v7⟩, ⟨n0, n1, n2, n3, n4, n5, n6, n7⟩, ⟨t0, t1, t2, t3, t4, t5, t6, t7⟩]) (hf : ∀ x ∈ l, V8.in64 x) (w : World) : Calls Try.prog 11 #[.agg #[.int .i64 v0, .int .i64 v1, .int .i64 v2, .int .i64 v3, .int .i64 v4, .int .i64 v5, .int .i64 v6, .int .i64 v7], .agg #[.int .i64 n0, .int .i64 n1, .int .i64 n2, .int .i64 n3, .int .i64 n4, .int .i64 n5, .int .i64 n6, .int .i64 n7], .agg #[.int .i64 t0, .int .i64 t1, .int .i64 t2, .int .i64 t3, .int .i64 t4, .int .i64 t5, .int .i64 t6, .int .i64 t7]] w fun e w' => ∃ r, e = .returned r ∧ OwnG LC w' w.heap.size r (gend (gplanes l 7)) ∧ Ext w w' := by
  have hlen : l.length = 3 := by rw [hl]; rfl
  have x1 : Ext w (((w.alloc (.cells #[.int .i64 v0, .int .i64 v1, .int .i64 v2, .int .i64 v3, .int .i64 v4, .int .i64 v5, .int .i64 v6, .int .i64 v7] 32)).alloc (.cells #[.int .i64 n0, .int .i64 n1, .int .i64 n2, .int .i64 n3, .int .i64 n4, .int .i64 n5, .int .i64 n6, .int .i64 n7] 32)).alloc (.cells #[.int .i64 t0, .int .i64 t1, .int .i64 t2, .int .i64 t3, .int .i64 t4, .int .i64 t5, .int .i64 t6, .int .i64 t7] 32)) := (((Ext.refl w).alloc _ _).alloc _ _).alloc _ _
  have B3 := ((Blk.new w #[.int .i64 v0, .int .i64 v1, .int .i64 v2, .int .i64 v3, .int .i64 v4, .int .i64 v5, .int .i64 v6, .int .i64 v7] 32).alloc (.cells #[.int .i64 n0, .int .i64 n1, .int .i64 n2, .int .i64 n3, .int .i64 n4, .int .i64 n5, .int .i64 n6, .int .i64 n7] 32)).alloc (.cells #[.int .i64 t0, .int .i64 t1, .int .i64 t2, .int .i64 t3, .int .i64 t4, .int .i64 t5, .int .i64 t6, .int .i64 t7] 32)
  have B4 := (Blk.new (w.alloc (.cells #[.int .i64 v0, .int .i64 v1, .int .i64 v2, .int .i64 v3, .int .i64 v4, .int .i64 v5, .int .i64 v6, .int .i64 v7] 32)) #[.int .i64 n0, .int .i64 n1, .int .i64 n2, .int .i64 n3, .int .i64 n4, .int .i64 n5, .int .i64 n6, .int .i64 n7] 32).alloc (.cells #[.int .i64 t0, .int .i64 t1, .int .i64 t2, .int .i64 t3, .int .i64 t4, .int .i64 t5, .int .i64 t6, .int .i64 t7] 32)
  have B5 := Blk.new ((w.alloc (.cells #[.int .i64 v0, .int .i64 v1, .int .i64 v2, .int .i64 v3, .int .i64 v4, .int .i64 v5, .int .i64 v6, .int .i64 v7] 32)).alloc (.cells #[.int .i64 n0, .int .i64 n1, .int .i64 n2, .int .i64 n3, .int .i64 n4, .int .i64 n5, .int .i64 n6, .int .i64 n7] 32)) #[.int .i64 t0, .int .i64 t1, .int .i64 t2, .int .i64 t3, .int .i64 t4, .int .i64 t5, .int .i64 t6, .int .i64 t7] 32
  have HL := Lib.hid hl
  have HN := Lib.hid hlen
  have HF := Lib.hid hf
  clear hl hlen hf
  go_enter Try.func11, Try.ntmps11
  go_upto_region 1 with fail
  simp only [World.size_alloc] at B4 B5
  generalize (((w.alloc (.cells #[.int .i64 v0, .int .i64 v1, .int .i64 v2, .int .i64 v3, .int .i64 v4, .int .i64 v5, .int .i64 v6, .int .i64 v7] 32)).alloc (.cells #[.int .i64 n0, .int .i64 n1, .int .i64 n2, .int .i64 n3, .int .i64 n4, .int .i64 n5, .int .i64 n6, .int .i64 n7] 32)).alloc (.cells #[.int .i64 t0, .int .i64 t1, .int .i64 t2, .int .i64 t3, .int .i64 t4, .int .i64 t5, .int .i64 t6, .int .i64 t7] 32)) = w1 at *
  have O := OwnG.lit LC w1 l (by rw [HN.out]; omega)
  rw [HN.out] at O
  have eF : (LC.flat l).toArray = #[.int .i64 v0, .int .i64 v1, .int .i64 v2, .int .i64 v3, .int .i64 v4, .int .i64 v5, .int .i64 v6, .int .i64 v7, .int .i64 n0, .int .i64 n1, .int .i64 n2, .int .i64 n3, .int .i64 n4, .int .i64 n5, .int .i64 n6, .int .i64 n7, .int .i64 t0, .int .i64 t1, .int .i64 t2, .int .i64 t3, .int .i64 t4, .int .i64 t5, .int .i64 t6, .int .i64 t7] := by rw [HL.out]; rfl
  rw [eF] at O
  have x2 := x1.alloc #[.int .i64 v0, .int .i64 v1, .int .i64 v2, .int .i64 v3, .int .i64 v4, .int .i64 v5, .int .i64 v6, .int .i64 v7, .int .i64 n0, .int .i64 n1, .int .i64 n2, .int .i64 n3, .int .i64 n4, .int .i64 n5, .int .i64 n6, .int .i64 n7, .int .i64 t0, .int .i64 t1, .int .i64 t2, .int .i64 t3, .int .i64 t4, .int .i64 t5, .int .i64 t6, .int .i64 t7] 32
  have O' : OwnG LC (w1.alloc (.cells #[.int .i64 v0, .int .i64 v1, .int .i64 v2, .int .i64 v3, .int .i64 v4, .int .i64 v5, .int .i64 v6, .int .i64 v7, .int .i64 n0, .int .i64 n1, .int .i64 n2, .int .i64 n3, .int .i64 n4, .int .i64 n5, .int .i64 n6, .int .i64 n7, .int .i64 t0, .int .i64 t1, .int .i64 t2, .int .i64 t3, .int .i64 t4, .int .i64 t5, .int .i64 t6, .int .i64 t7] 32)) w1.heap.size (.slice (some ⟨w1.heap.size, 0, none⟩) 3 3) l := O
  have HO := Lib.hid O'
  have HX := Lib.hid x2
  clear O O' eF x2 x1
  go_wp2_with (first
    | ((with_reducible refine wpList_load_blk (op := ⟨some 9, _, _, _, _, _⟩) ?_ 32 (.tmp 3) ?_ (w.heap.size) ?_ (z := _) (T := 32) B3 Try.underlying32 ?_ ?_ ?_); rfl; rfl; rfl; rfl; kernel_rfl)
    | ((with_reducible refine wpList_load_blk (op := ⟨some 10, _, _, _, _, _⟩) ?_ 32 (.tmp 4) ?_ (w.heap.size + 1) ?_ (z := _) (T := 32) B4 Try.underlying32 ?_ ?_ ?_); rfl; rfl; rfl; rfl; kernel_rfl)
    | ((with_reducible refine wpList_load_blk (op := ⟨some 11, _, _, _, _, _⟩) ?_ 32 (.tmp 5) ?_ (w.heap.size + 1 + 1) ?_ (z := _) (T := 32) B5 Try.underlying32 ?_ ?_ ?_); rfl; rfl; rfl; rfl; kernel_rfl)
    | fail)
  have O := HO.out
  have x2 := HX.out
  clear HO HX B3 B4 B5
  generalize w1.alloc (.cells #[.int .i64 v0, .int .i64 v1, .int .i64 v2, .int .i64 v3, .int .i64 v4, .int .i64 v5, .int .i64 v6, .int .i64 v7, .int .i64 n0, .int .i64 n1, .int .i64 n2, .int .i64 n3, .int .i64 n4, .int .i64 n5, .int .i64 n6, .int .i64 n7, .int .i64 t0, .int .i64 t1, .int .i64 t2, .int .i64 t3, .int .i64 t4, .int .i64 t5, .int .i64 t6, .int .i64 t7] 32) = w2 at *
  generalize w1.heap.size = b1 at *
  go_loopg [7, 13] 7 (fun n0 v7 kv wx => ∃ (k : Nat), k + n0 = 7 ∧ kv = .int .i64 k ∧ PArrG LC wx v7 (gplanes l k) ∧ Ext w wx)
  case atStart => exact ⟨0, by omega, by simp, O.parr, x2⟩
  case round =>
    generalize wr = wo at *
    obtain ⟨k, hk, rfl, P, E⟩ := hrel
    have hL := gplanes_len7 (l := l) (by rw [HN.out]; omega) (n := k) (by omega)
    have hF := gplanes_in64 HF.out k
    by_cases hk7 : k < 7
    · have hkI : (k : Int) < 7 := by omega
      have hC := fun u (P' : PArrG LC u u7 (gplanes l k)) => cut_any u u7 _ P' (by omega) hF k
      have HC := Lib.hid hC
      have HP := Lib.hid P
      clear hC P hF
      go_wp2_with fail
      refine (HC.out _ HP.out).mono ?_
      rintro e w3 ⟨r, rfl, o3, x3⟩
      have HO3 := Lib.hid o3
      clear o3 HP HC
      go_wp2
      go_roundg (7 - (k + 1))
      case measure => omega
      case rel => exact ⟨k + 1, by omega, by simp, HO3.out.parr, E.trans x3⟩
    · obtain rfl : k = 7 := by omega
      have hC := fun u (P' : PArrG LC u u7 (gplanes l 7)) => polygon_any u u7 _ P' (by omega) hF
      have HC := Lib.hid hC
      have HP := Lib.hid P
      clear hC P hF
      go_wp2_with fail
      refine (HC.out _ HP.out).mono ?_
      rintro e w3 ⟨r, rfl, o3, x3⟩
      have HO3 := Lib.hid o3
      clear o3 HP HC
      go_wp2
      go_ret
      exact ⟨_, rfl, HO3.out.mono E.size, E.trans x3⟩
theorem clip_any (x y z : V8) (hx : x.in64) (hy : y.in64) (hz : z.in64) (w : World) : Calls Try.prog 11 #[.agg x.l.toArray, .agg y.l.toArray, .agg z.l.toArray] w fun e w' => ∃ r, e = .returned r ∧ OwnG LC w' w.heap.size r (gend (gplanes [x, y, z] 7)) ∧ Ext w w' :=
  clip_main x.p0 x.p1 x.p2 x.p3 x.c0 x.c1 x.c2 x.c3 y.p0 y.p1 y.p2 y.p3 y.c0 y.c1 y.c2 y.c3 z.p0 z.p1 z.p2 z.p3 z.c0 z.c1 z.c2 z.c3 [x, y, z] rfl (by
    intro q hq
    simp only [List.mem_cons, List.not_mem_nil, or_false] at hq
    rcases hq with rfl | rfl | rfl <;> assumption) w
end Go.Proofs.Ytglehnmkdapnpaa

