/-
  DERIVED. The document's own answers for layer 3 (azulejoref01.near, Side, Covers).
-/
import Derived.Test.YtbhgebflknafbaaEdgeDefs
import Derived.Test.YtbhgebflknafbaaBlkLaws
import Derived.Test.YtbhgebflknafbaaMinMax
namespace Go.Proofs.Ytbhgebflknafbaa
open Go.RowKit
set_option linter.unusedVariables false

set_option maxHeartbeats 400000 in
theorem rnear_any (a : Int) (w : World) (h1 : -9223372036854775808 ≤ a) (h2 : a ≤ 9223372036854775807) :
    Calls Try.prog 25 #[.int .i64 a] w fun e w' => e = .returned (.int .i64 (nr a)) ∧ w = w' := by
  go_enter Try.func25, Try.ntmps25
  go_wp2
  all_goals (go_ret; exact ⟨ret_int (by unfold nr; omega), rfl⟩)

set_option maxHeartbeats 800000 in
theorem rside_any (ax ay bx by' cx cy : Int) (hax : -9223372036854775808 ≤ ax ∧ ax ≤ 9223372036854775807) (hay : -9223372036854775808 ≤ ay ∧ ay ≤ 9223372036854775807) (hbx : -9223372036854775808 ≤ bx ∧ bx ≤ 9223372036854775807) (hby' : -9223372036854775808 ≤ by' ∧ by' ≤ 9223372036854775807) (hcx : -9223372036854775808 ≤ cx ∧ cx ≤ 9223372036854775807) (hcy : -9223372036854775808 ≤ cy ∧ cy ≤ 9223372036854775807) (w : World) :
    Calls Try.prog 14 #[.agg #[.int .i64 ax, .int .i64 ay], .agg #[.int .i64 bx, .int .i64 by'], .agg #[.int .i64 cx, .int .i64 cy]] w fun e w' => e = .returned (.int .i64 (sd ax ay bx by' cx cy)) ∧ Ext w w' := by
  have nax := nr_bd ax
  have nay := nr_bd ay
  have nbx := nr_bd bx
  have nby' := nr_bd by'
  have ncx := nr_bd cx
  have ncy := nr_bd cy
  have m1 := diff_mul nax nbx nay ncy
  have m2 := diff_mul nay nby' nax ncx
  go_enter Try.func14, Try.ntmps14
  go_wp2
  have A1 := ((Blk.new w #[.int .i64 ax, .int .i64 ay] 34).alloc (.cells #[.int .i64 bx, .int .i64 by'] 34)).alloc (.cells #[.int .i64 cx, .int .i64 cy] 34)
  have B1 : Blk (((w.alloc (.cells #[.int .i64 ax, .int .i64 ay] 34)).alloc (.cells #[.int .i64 bx, .int .i64 by'] 34)).alloc (.cells #[.int .i64 cx, .int .i64 cy] 34)) (w.heap.size + 1) #[.int .i64 bx, .int .i64 by'] 34 := (Blk.new' (by simp) _ _).alloc _
  have C1 : Blk (((w.alloc (.cells #[.int .i64 ax, .int .i64 ay] 34)).alloc (.cells #[.int .i64 bx, .int .i64 by'] 34)).alloc (.cells #[.int .i64 cx, .int .i64 cy] 34)) (w.heap.size + 1 + 1) #[.int .i64 cx, .int .i64 cy] 34 := Blk.new' (by simp) _ _
  have e1 : Ext w (((w.alloc (.cells #[.int .i64 ax, .int .i64 ay] 34)).alloc (.cells #[.int .i64 bx, .int .i64 by'] 34)).alloc (.cells #[.int .i64 cx, .int .i64 cy] 34)) := (((Ext.refl w).alloc _ _).alloc _ _).alloc _ _
  generalize ((w.alloc (.cells #[.int .i64 ax, .int .i64 ay] 34)).alloc (.cells #[.int .i64 bx, .int .i64 by'] 34)).alloc (.cells #[.int .i64 cx, .int .i64 cy] 34) = w1 at *
  have cA1 := A1.cell
  have cB1 := B1.cell
  have cC1 := C1.cell
  apply wp_region_reads2 _ (by kernel_rfl) (by kernel_rfl)
  case H =>
    intro x hx
    have hne : Nonempty (Wx x) := ⟨⟨x, Ext.refl x⟩⟩
    have qA := fun (y : Wx x) => (A1.ext (hx.trans y.ext)).cell
    have qB := fun (y : Wx x) => (B1.ext (hx.trans y.ext)).cell
    have qC := fun (y : Wx x) => (C1.ext (hx.trans y.ext)).cell
    try simp only [List.append_eq, List.cons_append, List.nil_append]
    repeat (go_big_quiet_step ((go_at_call 25; exact calm_eq (rnear_any _ _ (by omega) (by omega)))))
    exact wpQuiet_nil rfl
  intro w2 hx2
  have A2 := A1.ext hx2
  have cA2 := A2.cell
  have B2 := B1.ext hx2
  have cB2 := B2.cell
  have C2 := C1.ext hx2
  have cC2 := C2.cell
  clear A1 cA1 B1 cB1 C1 cC1
  have e2 := e1.trans hx2
  clear e1 hx2
  go_wp2
  apply wp_region_reads2 _ (by kernel_rfl) (by kernel_rfl)
  case H =>
    intro x hx
    have hne : Nonempty (Wx x) := ⟨⟨x, Ext.refl x⟩⟩
    have qA := fun (y : Wx x) => (A2.ext (hx.trans y.ext)).cell
    have qB := fun (y : Wx x) => (B2.ext (hx.trans y.ext)).cell
    have qC := fun (y : Wx x) => (C2.ext (hx.trans y.ext)).cell
    try simp only [List.append_eq, List.cons_append, List.nil_append]
    repeat (go_big_quiet_step ((go_at_call 25; exact calm_eq (rnear_any _ _ (by omega) (by omega)))))
    exact wpQuiet_nil rfl
  intro w3 hx3
  go_wp2
  go_ret
  exact ⟨rfl, e2.trans hx3⟩

end Go.Proofs.Ytbhgebflknafbaa
