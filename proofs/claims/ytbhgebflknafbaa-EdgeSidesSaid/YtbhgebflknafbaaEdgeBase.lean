/-
  DERIVED. THE WALKS of layer 3 (edge).
-/
import Derived.Deep.RegionHeld3
import Derived.Test.YtbhgebflknafbaaEdgeRefs
import Derived.Test.YtbhgebflknafbaaCalmMine
namespace Go.Proofs.Ytbhgebflknafbaa
open Go.RowKit
set_option linter.unusedVariables false

def lo3 (a b c : Int) : Int := min (nr a) (min (nr b) (nr c))
def hi3 (a b c : Int) : Int := max (nr a) (max (nr b) (nr c))
theorem within_nr (a : Int) (w : World) (h : -9223372036854775808 ≤ a ∧ a ≤ 9223372036854775807) :
    Calls Try.prog 26 #[.int .i64 a, .int .i64 16384] w fun e w' => e = .returned (.int .i64 (nr a)) ∧ w = w' := by
  have k : withinZ a 16384 = nr a := by unfold withinZ nr; omega
  rw [← k]
  exact within_any a 16384 w h.1 h.2 (by omega) (by omega)
set_option maxHeartbeats 400000 in
theorem limited_any (ax ay : Int) (hax : -9223372036854775808 ≤ ax ∧ ax ≤ 9223372036854775807) (hay : -9223372036854775808 ≤ ay ∧ ay ≤ 9223372036854775807) (w : World) :
    Calls Try.prog 24 #[.agg #[.int .i64 ax, .int .i64 ay]] w fun e w' => e = .returned (.agg #[.int .i64 (nr ax), .int .i64 (nr ay)]) ∧ Ext w w' := by
  go_enter Try.func24, Try.ntmps24
  go_wp2
  have A1 : Blk ((w.alloc (.cells #[.int .i64 ax, .int .i64 ay] 23)).alloc (.cells #[.int .i64 0, .int .i64 0] 23)) w.heap.size #[.int .i64 ax, .int .i64 ay] 23 := (Blk.new w _ _).alloc _
  have R1 : Blk ((w.alloc (.cells #[.int .i64 ax, .int .i64 ay] 23)).alloc (.cells #[.int .i64 0, .int .i64 0] 23)) (w.heap.size + 1) #[.int .i64 0, .int .i64 0] 23 := Blk.new' (by simp) _ _
  have e1 : Ext w ((w.alloc (.cells #[.int .i64 ax, .int .i64 ay] 23)).alloc (.cells #[.int .i64 0, .int .i64 0] 23)) := ((Ext.refl w).alloc _ _).alloc _ _
  generalize ((w.alloc (.cells #[.int .i64 ax, .int .i64 ay] 23)).alloc (.cells #[.int .i64 0, .int .i64 0] 23)) = w1 at *
  have cA1 := A1.cell
  have cR1 := R1.cell
  apply wp_region_vars [false, false, false, false, false, false, false, true] [w.heap.size + 1] [⟨none, 0, w.heap.size + 1, some 7, 23, #[.int .i64 0, .int .i64 0], #[.int .i64 (nr ax), .int .i64 (nr ay)]⟩] _ (by kernel_rfl) (by kernel_rfl) (by kernel_rfl)
  case H =>
    intro x hx
    have hne : Nonempty (Wx x) := ⟨⟨x, Ext.refl x⟩⟩
    have qA1 := fun (y : Wx x) => ((A1.calm hx (by simp <;> omega)).ext y.ext).cell
    simp only [eraseM]
    repeat (go_big_quiet_step ((go_at_call 26; exact calm_eq (within_nr _ _ (by omega)))))
    exact wpQuiet_nil rfl
  case hok =>
    simp only [List.forall_mem_cons, List.not_mem_nil, false_implies, implies_true, and_true]
    exact tgt_mine (by simp) R1 rfl rfl rfl rfl rfl rfl (by kernel_rfl) (by kernel_rfl) (of_decide_eq_true (by kernel_rfl)) rfl
  case hdis =>
    intro k k' t t' hk hk' hne _ _
    rcases k with _ | k <;> rcases k' with _ | k' <;> simp at hk hk' hne <;> (subst hk; subst hk'; dsimp only; omega)
  rintro w2 f hw ⟨k0, l0, d0, -, -⟩
  have k0' : f 0 = w.heap.size + 1 := k0
  have d0' : Blk w2 (w.heap.size + 1) #[.int .i64 (nr ax), .int .i64 (nr ay)] 23 := k0' ▸ d0
  clear k0 k0' l0 d0
  simp only [pairs, putAll, Option.isSome_none, Bool.false_eq_true, if_false]
  have cR2 := d0'.cell
  go_wp2
  exact bodyPost_ret (v := .agg #[.int .i64 (nr ax), .int .i64 (nr ay)]) (by simp [results, Try.results24, go_sem, cR2]) rfl ⟨rfl, Ext.calm_trans e1 hw (by simp)⟩
set_option maxRecDepth 100000 in
set_option maxHeartbeats 4000000 in
theorem side_any (ax ay bx by' cx cy : Int) (hax : -9223372036854775808 ≤ ax ∧ ax ≤ 9223372036854775807) (hay : -9223372036854775808 ≤ ay ∧ ay ≤ 9223372036854775807) (hbx : -9223372036854775808 ≤ bx ∧ bx ≤ 9223372036854775807) (hby' : -9223372036854775808 ≤ by' ∧ by' ≤ 9223372036854775807) (hcx : -9223372036854775808 ≤ cx ∧ cx ≤ 9223372036854775807) (hcy : -9223372036854775808 ≤ cy ∧ cy ≤ 9223372036854775807) (w : World) :
    Calls Try.prog 13 #[.agg #[.int .i64 ax, .int .i64 ay], .agg #[.int .i64 bx, .int .i64 by'], .agg #[.int .i64 cx, .int .i64 cy]] w fun e w' => e = .returned (.int .i64 (sd ax ay bx by' cx cy)) ∧ Ext w w' := by
  have nax := nr_bd ax
  have nay := nr_bd ay
  have nbx := nr_bd bx
  have nby' := nr_bd by'
  have ncx := nr_bd cx
  have ncy := nr_bd cy
  have m1 := diff_mul nax nbx nay ncy
  have m2 := diff_mul nay nby' nax ncx
  go_enter Try.func13, Try.ntmps13
  go_wp2
  have A1 : Blk (((w.alloc (.cells #[.int .i64 ax, .int .i64 ay] 23)).alloc (.cells #[.int .i64 bx, .int .i64 by'] 23)).alloc (.cells #[.int .i64 cx, .int .i64 cy] 23)) (w.heap.size) #[.int .i64 ax, .int .i64 ay] 23 := ((Blk.new' (by simp) _ _).alloc _).alloc _
  have B1 : Blk (((w.alloc (.cells #[.int .i64 ax, .int .i64 ay] 23)).alloc (.cells #[.int .i64 bx, .int .i64 by'] 23)).alloc (.cells #[.int .i64 cx, .int .i64 cy] 23)) (w.heap.size + 1) #[.int .i64 bx, .int .i64 by'] 23 := (Blk.new' (by simp) _ _).alloc _
  have C1 : Blk (((w.alloc (.cells #[.int .i64 ax, .int .i64 ay] 23)).alloc (.cells #[.int .i64 bx, .int .i64 by'] 23)).alloc (.cells #[.int .i64 cx, .int .i64 cy] 23)) (w.heap.size + 1 + 1) #[.int .i64 cx, .int .i64 cy] 23 := Blk.new' (by simp) _ _
  have e1 : Ext w (((w.alloc (.cells #[.int .i64 ax, .int .i64 ay] 23)).alloc (.cells #[.int .i64 bx, .int .i64 by'] 23)).alloc (.cells #[.int .i64 cx, .int .i64 cy] 23)) := (((Ext.refl w).alloc _ _).alloc _ _).alloc _ _
  generalize (((w.alloc (.cells #[.int .i64 ax, .int .i64 ay] 23)).alloc (.cells #[.int .i64 bx, .int .i64 by'] 23)).alloc (.cells #[.int .i64 cx, .int .i64 cy] 23)) = w1 at *
  have cA1 := A1.cell
  have cB1 := B1.cell
  have cC1 := C1.cell
  apply wp_region_vars_early 6 [false, false, false, false, false, false, true, true, true] [w.heap.size, w.heap.size + 1, w.heap.size + 1 + 1] [⟨none, 0, w.heap.size, some 6, 23, #[.int .i64 ax, .int .i64 ay], #[.int .i64 (nr ax), .int .i64 (nr ay)]⟩, ⟨none, 0, w.heap.size + 1, some 7, 23, #[.int .i64 bx, .int .i64 by'], #[.int .i64 (nr bx), .int .i64 (nr by')]⟩, ⟨none, 0, w.heap.size + 1 + 1, some 8, 23, #[.int .i64 cx, .int .i64 cy], #[.int .i64 (nr cx), .int .i64 (nr cy)]⟩] _ (by kernel_rfl) (by kernel_rfl) (by kernel_rfl) (by kernel_rfl) (by kernel_rfl)
  case H =>
    intro x hx
    have hne : Nonempty (Wx x) := ⟨⟨x, Ext.refl x⟩⟩
    have qA1 := fun (y : Wx x) => (A1.ext (hx.trans y.ext)).cell
    have qB1 := fun (y : Wx x) => (B1.ext (hx.trans y.ext)).cell
    have qC1 := fun (y : Wx x) => (C1.ext (hx.trans y.ext)).cell
    simp only [eraseM]
    repeat (go_big_quiet_step ((go_at_call 24; exact calm_of (limited_any _ _ (by omega) (by omega) _))))
    exact wpQuiet_nil rfl
  case hok =>
    simp only [List.forall_mem_cons, List.not_mem_nil, false_implies, implies_true, and_true]
    exact ⟨tgt_mine (by simp) A1 rfl rfl rfl rfl rfl rfl (by kernel_rfl) (by kernel_rfl) (of_decide_eq_true (by kernel_rfl)) rfl, tgt_mine (by simp) B1 rfl rfl rfl rfl rfl rfl (by kernel_rfl) (by kernel_rfl) (of_decide_eq_true (by kernel_rfl)) rfl, tgt_mine (by simp) C1 rfl rfl rfl rfl rfl rfl (by kernel_rfl) (by kernel_rfl) (of_decide_eq_true (by kernel_rfl)) rfl⟩
  case hdis =>
    intro k k' t t' hk hk' hne _ _
    rcases k with _ | _ | _ | k <;> rcases k' with _ | _ | _ | k' <;> simp at hk hk' hne <;> (subst hk; subst hk'; dsimp only; omega)
  rintro w2 f hw ⟨k0, l0, d0, -, k1, l1, d1, -, k2, l2, d2, -, -⟩
  have k0' : f 0 = w.heap.size := k0
  have d0' : Blk w2 (w.heap.size) #[.int .i64 (nr ax), .int .i64 (nr ay)] 23 := k0' ▸ d0
  have k1' : f 1 = w.heap.size + 1 := k1
  have d1' : Blk w2 (w.heap.size + 1) #[.int .i64 (nr bx), .int .i64 (nr by')] 23 := k1' ▸ d1
  have k2' : f 2 = w.heap.size + 1 + 1 := k2
  have d2' : Blk w2 (w.heap.size + 1 + 1) #[.int .i64 (nr cx), .int .i64 (nr cy)] 23 := k2' ▸ d2
  clear k0 k0' l0 d0 k1 k1' l1 d1 k2 k2' l2 d2
  simp only [pairs, putAll, Option.isSome_none, Bool.false_eq_true, if_false]
  have e2 := Ext.calm_trans e1 hw (by simp <;> omega)
  clear e1 hw A1 cA1 B1 cB1 C1 cC1
  have c0 := d0'.cell
  have c1 := d1'.cell
  have c2 := d2'.cell
  go_wp2
  go_ret
  exact ⟨rfl, e2⟩
set_option maxRecDepth 100000 in
set_option maxHeartbeats 4000000 in
theorem owns_any (ax ay bx by' : Int) (hax : -9223372036854775808 ≤ ax ∧ ax ≤ 9223372036854775807) (hay : -9223372036854775808 ≤ ay ∧ ay ≤ 9223372036854775807) (hbx : -9223372036854775808 ≤ bx ∧ bx ≤ 9223372036854775807) (hby' : -9223372036854775808 ≤ by' ∧ by' ≤ 9223372036854775807) (w : World) :
    Calls Try.prog 21 #[.agg #[.int .i64 ax, .int .i64 ay], .agg #[.int .i64 bx, .int .i64 by']] w fun e w' => e = .returned (.bool (ownB ax ay bx by')) ∧ Ext w w' := by
  have nax := nr_bd ax
  have nay := nr_bd ay
  have nbx := nr_bd bx
  have nby' := nr_bd by'
  go_enter Try.func21, Try.ntmps21
  go_wp2
  have A1 : Blk ((w.alloc (.cells #[.int .i64 ax, .int .i64 ay] 23)).alloc (.cells #[.int .i64 bx, .int .i64 by'] 23)) (w.heap.size) #[.int .i64 ax, .int .i64 ay] 23 := (Blk.new' (by simp) _ _).alloc _
  have B1 : Blk ((w.alloc (.cells #[.int .i64 ax, .int .i64 ay] 23)).alloc (.cells #[.int .i64 bx, .int .i64 by'] 23)) (w.heap.size + 1) #[.int .i64 bx, .int .i64 by'] 23 := Blk.new' (by simp) _ _
  have e1 : Ext w ((w.alloc (.cells #[.int .i64 ax, .int .i64 ay] 23)).alloc (.cells #[.int .i64 bx, .int .i64 by'] 23)) := ((Ext.refl w).alloc _ _).alloc _ _
  generalize ((w.alloc (.cells #[.int .i64 ax, .int .i64 ay] 23)).alloc (.cells #[.int .i64 bx, .int .i64 by'] 23)) = w1 at *
  have cA1 := A1.cell
  have cB1 := B1.cell
  apply wp_region_vars_early 6 [false, false, false, false, true, true] [w.heap.size, w.heap.size + 1] [⟨none, 0, w.heap.size, some 4, 23, #[.int .i64 ax, .int .i64 ay], #[.int .i64 (nr ax), .int .i64 (nr ay)]⟩, ⟨none, 0, w.heap.size + 1, some 5, 23, #[.int .i64 bx, .int .i64 by'], #[.int .i64 (nr bx), .int .i64 (nr by')]⟩] _ (by kernel_rfl) (by kernel_rfl) (by kernel_rfl) (by kernel_rfl) (by kernel_rfl)
  case H =>
    intro x hx
    have hne : Nonempty (Wx x) := ⟨⟨x, Ext.refl x⟩⟩
    have qA1 := fun (y : Wx x) => (A1.ext (hx.trans y.ext)).cell
    have qB1 := fun (y : Wx x) => (B1.ext (hx.trans y.ext)).cell
    simp only [eraseM]
    repeat (go_big_quiet_step ((go_at_call 24; exact calm_of (limited_any _ _ (by omega) (by omega) _))))
    exact wpQuiet_nil rfl
  case hok =>
    simp only [List.forall_mem_cons, List.not_mem_nil, false_implies, implies_true, and_true]
    exact ⟨tgt_mine (by simp) A1 rfl rfl rfl rfl rfl rfl (by kernel_rfl) (by kernel_rfl) (of_decide_eq_true (by kernel_rfl)) rfl, tgt_mine (by simp) B1 rfl rfl rfl rfl rfl rfl (by kernel_rfl) (by kernel_rfl) (of_decide_eq_true (by kernel_rfl)) rfl⟩
  case hdis =>
    intro k k' t t' hk hk' hne _ _
    rcases k with _ | _ | k <;> rcases k' with _ | _ | k' <;> simp at hk hk' hne <;> (subst hk; subst hk'; dsimp only; omega)
  rintro w2 f hw ⟨k0, l0, d0, -, k1, l1, d1, -, -⟩
  have k0' : f 0 = w.heap.size := k0
  have d0' : Blk w2 (w.heap.size) #[.int .i64 (nr ax), .int .i64 (nr ay)] 23 := k0' ▸ d0
  have k1' : f 1 = w.heap.size + 1 := k1
  have d1' : Blk w2 (w.heap.size + 1) #[.int .i64 (nr bx), .int .i64 (nr by')] 23 := k1' ▸ d1
  clear k0 k0' l0 d0 k1 k1' l1 d1
  simp only [pairs, putAll, Option.isSome_none, Bool.false_eq_true, if_false]
  have e2 := Ext.calm_trans e1 hw (by simp <;> omega)
  clear e1 hw A1 cA1 B1 cB1
  have c0 := d0'.cell
  have c1 := d1'.cell
  go_wp2
  all_goals (go_ret; exact ⟨congrArg (fun b => Ending.returned (.bool b)) (by unfold ownB; rw [Bool.eq_iff_iff]; simp; omega), e2⟩)
set_option maxRecDepth 100000 in
set_option maxHeartbeats 1000000 in
theorem opposite0_any (ax ay bx by' cx cy : Int) (w : World) :
    Calls Try.prog 23 #[.agg #[.int .i64 ax, .int .i64 ay, .int .i64 bx, .int .i64 by', .int .i64 cx, .int .i64 cy], .int .i64 0] w fun e w' => e = .returned (.tuple #[.agg #[.int .i64 bx, .int .i64 by'], .agg #[.int .i64 cx, .int .i64 cy]]) ∧ Ext w w' := by
  go_enter Try.func23, Try.ntmps23
  go_wp2
  have T1 : Blk (((w.alloc (.cells #[.int .i64 ax, .int .i64 ay, .int .i64 bx, .int .i64 by', .int .i64 cx, .int .i64 cy] 25)).alloc (.cells #[.int .i64 0, .int .i64 0] 23)).alloc (.cells #[.int .i64 0, .int .i64 0] 23)) w.heap.size #[.int .i64 ax, .int .i64 ay, .int .i64 bx, .int .i64 by', .int .i64 cx, .int .i64 cy] 25 := ((Blk.new w _ _).alloc _).alloc _
  have R1 : Blk (((w.alloc (.cells #[.int .i64 ax, .int .i64 ay, .int .i64 bx, .int .i64 by', .int .i64 cx, .int .i64 cy] 25)).alloc (.cells #[.int .i64 0, .int .i64 0] 23)).alloc (.cells #[.int .i64 0, .int .i64 0] 23)) (w.heap.size + 1) #[.int .i64 0, .int .i64 0] 23 := (Blk.new' (by simp) _ _).alloc _
  have S1 : Blk (((w.alloc (.cells #[.int .i64 ax, .int .i64 ay, .int .i64 bx, .int .i64 by', .int .i64 cx, .int .i64 cy] 25)).alloc (.cells #[.int .i64 0, .int .i64 0] 23)).alloc (.cells #[.int .i64 0, .int .i64 0] 23)) (w.heap.size + 1 + 1) #[.int .i64 0, .int .i64 0] 23 := Blk.new' (by simp) _ _
  have e1 : Ext w (((w.alloc (.cells #[.int .i64 ax, .int .i64 ay, .int .i64 bx, .int .i64 by', .int .i64 cx, .int .i64 cy] 25)).alloc (.cells #[.int .i64 0, .int .i64 0] 23)).alloc (.cells #[.int .i64 0, .int .i64 0] 23)) := (((Ext.refl w).alloc _ _).alloc _ _).alloc _ _
  generalize (((w.alloc (.cells #[.int .i64 ax, .int .i64 ay, .int .i64 bx, .int .i64 by', .int .i64 cx, .int .i64 cy] 25)).alloc (.cells #[.int .i64 0, .int .i64 0] 23)).alloc (.cells #[.int .i64 0, .int .i64 0] 23)) = w1 at *
  apply wp_region_vars [false, false, false, false, false, false, false, false, false, false, true, true] [w.heap.size + 1, w.heap.size + 1 + 1] [⟨none, 0, w.heap.size + 1, some 10, 23, #[.int .i64 0, .int .i64 0], #[.int .i64 bx, .int .i64 by']⟩, ⟨none, 0, w.heap.size + 1 + 1, some 11, 23, #[.int .i64 0, .int .i64 0], #[.int .i64 cx, .int .i64 cy]⟩] _ (by kernel_rfl) (by kernel_rfl) (by kernel_rfl)
  case H =>
    intro x hx
    have hne : Nonempty (Wx x) := ⟨⟨x, Ext.refl x⟩⟩
    have qT1 := fun (y : Wx x) => ((T1.calm hx (by simp <;> omega)).ext y.ext).cell
    simp only [eraseM]
    repeat (go_big_quiet_step (fail))
    exact wpQuiet_nil rfl
  case hok =>
    simp only [List.forall_mem_cons, List.not_mem_nil, false_implies, implies_true, and_true]
    exact ⟨tgt_mine (by simp) R1 rfl rfl rfl rfl rfl rfl (by kernel_rfl) (by kernel_rfl) (of_decide_eq_true (by kernel_rfl)) rfl, tgt_mine (by simp) S1 rfl rfl rfl rfl rfl rfl (by kernel_rfl) (by kernel_rfl) (of_decide_eq_true (by kernel_rfl)) rfl⟩
  case hdis =>
    intro k k' t t' hk hk' hne _ _
    rcases k with _ | _ | k <;> rcases k' with _ | _ | k' <;> simp at hk hk' hne <;> (subst hk; subst hk'; dsimp only; omega)
  rintro w2 f hw ⟨k0, l0, d0, -, k1, l1, d1, -, -⟩
  have k0' : f 0 = w.heap.size + 1 := k0
  have d0' : Blk w2 (w.heap.size + 1) #[.int .i64 bx, .int .i64 by'] 23 := k0' ▸ d0
  have k1' : f 1 = w.heap.size + 1 + 1 := k1
  have d1' : Blk w2 (w.heap.size + 1 + 1) #[.int .i64 cx, .int .i64 cy] 23 := k1' ▸ d1
  clear k0 k0' l0 d0 k1 k1' l1 d1
  simp only [pairs, putAll, Option.isSome_none, Bool.false_eq_true, if_false]
  have c0 := d0'.cell
  have c1 := d1'.cell
  go_wp2
  exact bodyPost_ret (v := .tuple #[.agg #[.int .i64 bx, .int .i64 by'], .agg #[.int .i64 cx, .int .i64 cy]]) (by simp [results, Try.results23, go_sem, c0, c1]) rfl ⟨rfl, Ext.calm_trans e1 hw (by simp <;> omega)⟩
set_option maxRecDepth 100000 in
set_option maxHeartbeats 1000000 in
theorem opposite1_any (ax ay bx by' cx cy : Int) (w : World) :
    Calls Try.prog 23 #[.agg #[.int .i64 ax, .int .i64 ay, .int .i64 bx, .int .i64 by', .int .i64 cx, .int .i64 cy], .int .i64 1] w fun e w' => e = .returned (.tuple #[.agg #[.int .i64 cx, .int .i64 cy], .agg #[.int .i64 ax, .int .i64 ay]]) ∧ Ext w w' := by
  go_enter Try.func23, Try.ntmps23
  go_wp2
  have T1 : Blk (((w.alloc (.cells #[.int .i64 ax, .int .i64 ay, .int .i64 bx, .int .i64 by', .int .i64 cx, .int .i64 cy] 25)).alloc (.cells #[.int .i64 0, .int .i64 0] 23)).alloc (.cells #[.int .i64 0, .int .i64 0] 23)) w.heap.size #[.int .i64 ax, .int .i64 ay, .int .i64 bx, .int .i64 by', .int .i64 cx, .int .i64 cy] 25 := ((Blk.new w _ _).alloc _).alloc _
  have R1 : Blk (((w.alloc (.cells #[.int .i64 ax, .int .i64 ay, .int .i64 bx, .int .i64 by', .int .i64 cx, .int .i64 cy] 25)).alloc (.cells #[.int .i64 0, .int .i64 0] 23)).alloc (.cells #[.int .i64 0, .int .i64 0] 23)) (w.heap.size + 1) #[.int .i64 0, .int .i64 0] 23 := (Blk.new' (by simp) _ _).alloc _
  have S1 : Blk (((w.alloc (.cells #[.int .i64 ax, .int .i64 ay, .int .i64 bx, .int .i64 by', .int .i64 cx, .int .i64 cy] 25)).alloc (.cells #[.int .i64 0, .int .i64 0] 23)).alloc (.cells #[.int .i64 0, .int .i64 0] 23)) (w.heap.size + 1 + 1) #[.int .i64 0, .int .i64 0] 23 := Blk.new' (by simp) _ _
  have e1 : Ext w (((w.alloc (.cells #[.int .i64 ax, .int .i64 ay, .int .i64 bx, .int .i64 by', .int .i64 cx, .int .i64 cy] 25)).alloc (.cells #[.int .i64 0, .int .i64 0] 23)).alloc (.cells #[.int .i64 0, .int .i64 0] 23)) := (((Ext.refl w).alloc _ _).alloc _ _).alloc _ _
  generalize (((w.alloc (.cells #[.int .i64 ax, .int .i64 ay, .int .i64 bx, .int .i64 by', .int .i64 cx, .int .i64 cy] 25)).alloc (.cells #[.int .i64 0, .int .i64 0] 23)).alloc (.cells #[.int .i64 0, .int .i64 0] 23)) = w1 at *
  apply wp_region_vars [false, false, false, false, false, false, false, false, false, false, true, true] [w.heap.size + 1, w.heap.size + 1 + 1] [⟨none, 0, w.heap.size + 1, some 10, 23, #[.int .i64 0, .int .i64 0], #[.int .i64 cx, .int .i64 cy]⟩, ⟨none, 0, w.heap.size + 1 + 1, some 11, 23, #[.int .i64 0, .int .i64 0], #[.int .i64 ax, .int .i64 ay]⟩] _ (by kernel_rfl) (by kernel_rfl) (by kernel_rfl)
  case H =>
    intro x hx
    have hne : Nonempty (Wx x) := ⟨⟨x, Ext.refl x⟩⟩
    have qT1 := fun (y : Wx x) => ((T1.calm hx (by simp <;> omega)).ext y.ext).cell
    simp only [eraseM]
    repeat (go_big_quiet_step (fail))
    exact wpQuiet_nil rfl
  case hok =>
    simp only [List.forall_mem_cons, List.not_mem_nil, false_implies, implies_true, and_true]
    exact ⟨tgt_mine (by simp) R1 rfl rfl rfl rfl rfl rfl (by kernel_rfl) (by kernel_rfl) (of_decide_eq_true (by kernel_rfl)) rfl, tgt_mine (by simp) S1 rfl rfl rfl rfl rfl rfl (by kernel_rfl) (by kernel_rfl) (of_decide_eq_true (by kernel_rfl)) rfl⟩
  case hdis =>
    intro k k' t t' hk hk' hne _ _
    rcases k with _ | _ | k <;> rcases k' with _ | _ | k' <;> simp at hk hk' hne <;> (subst hk; subst hk'; dsimp only; omega)
  rintro w2 f hw ⟨k0, l0, d0, -, k1, l1, d1, -, -⟩
  have k0' : f 0 = w.heap.size + 1 := k0
  have d0' : Blk w2 (w.heap.size + 1) #[.int .i64 cx, .int .i64 cy] 23 := k0' ▸ d0
  have k1' : f 1 = w.heap.size + 1 + 1 := k1
  have d1' : Blk w2 (w.heap.size + 1 + 1) #[.int .i64 ax, .int .i64 ay] 23 := k1' ▸ d1
  clear k0 k0' l0 d0 k1 k1' l1 d1
  simp only [pairs, putAll, Option.isSome_none, Bool.false_eq_true, if_false]
  have c0 := d0'.cell
  have c1 := d1'.cell
  go_wp2
  exact bodyPost_ret (v := .tuple #[.agg #[.int .i64 cx, .int .i64 cy], .agg #[.int .i64 ax, .int .i64 ay]]) (by simp [results, Try.results23, go_sem, c0, c1]) rfl ⟨rfl, Ext.calm_trans e1 hw (by simp <;> omega)⟩
set_option maxRecDepth 100000 in
set_option maxHeartbeats 1000000 in
theorem opposite2_any (ax ay bx by' cx cy : Int) (w : World) :
    Calls Try.prog 23 #[.agg #[.int .i64 ax, .int .i64 ay, .int .i64 bx, .int .i64 by', .int .i64 cx, .int .i64 cy], .int .i64 2] w fun e w' => e = .returned (.tuple #[.agg #[.int .i64 ax, .int .i64 ay], .agg #[.int .i64 bx, .int .i64 by']]) ∧ Ext w w' := by
  go_enter Try.func23, Try.ntmps23
  go_wp2
  have T1 : Blk (((w.alloc (.cells #[.int .i64 ax, .int .i64 ay, .int .i64 bx, .int .i64 by', .int .i64 cx, .int .i64 cy] 25)).alloc (.cells #[.int .i64 0, .int .i64 0] 23)).alloc (.cells #[.int .i64 0, .int .i64 0] 23)) w.heap.size #[.int .i64 ax, .int .i64 ay, .int .i64 bx, .int .i64 by', .int .i64 cx, .int .i64 cy] 25 := ((Blk.new w _ _).alloc _).alloc _
  have R1 : Blk (((w.alloc (.cells #[.int .i64 ax, .int .i64 ay, .int .i64 bx, .int .i64 by', .int .i64 cx, .int .i64 cy] 25)).alloc (.cells #[.int .i64 0, .int .i64 0] 23)).alloc (.cells #[.int .i64 0, .int .i64 0] 23)) (w.heap.size + 1) #[.int .i64 0, .int .i64 0] 23 := (Blk.new' (by simp) _ _).alloc _
  have S1 : Blk (((w.alloc (.cells #[.int .i64 ax, .int .i64 ay, .int .i64 bx, .int .i64 by', .int .i64 cx, .int .i64 cy] 25)).alloc (.cells #[.int .i64 0, .int .i64 0] 23)).alloc (.cells #[.int .i64 0, .int .i64 0] 23)) (w.heap.size + 1 + 1) #[.int .i64 0, .int .i64 0] 23 := Blk.new' (by simp) _ _
  have e1 : Ext w (((w.alloc (.cells #[.int .i64 ax, .int .i64 ay, .int .i64 bx, .int .i64 by', .int .i64 cx, .int .i64 cy] 25)).alloc (.cells #[.int .i64 0, .int .i64 0] 23)).alloc (.cells #[.int .i64 0, .int .i64 0] 23)) := (((Ext.refl w).alloc _ _).alloc _ _).alloc _ _
  generalize (((w.alloc (.cells #[.int .i64 ax, .int .i64 ay, .int .i64 bx, .int .i64 by', .int .i64 cx, .int .i64 cy] 25)).alloc (.cells #[.int .i64 0, .int .i64 0] 23)).alloc (.cells #[.int .i64 0, .int .i64 0] 23)) = w1 at *
  apply wp_region_vars [false, false, false, false, false, false, false, false, false, false, true, true] [w.heap.size + 1, w.heap.size + 1 + 1] [⟨none, 0, w.heap.size + 1, some 10, 23, #[.int .i64 0, .int .i64 0], #[.int .i64 ax, .int .i64 ay]⟩, ⟨none, 0, w.heap.size + 1 + 1, some 11, 23, #[.int .i64 0, .int .i64 0], #[.int .i64 bx, .int .i64 by']⟩] _ (by kernel_rfl) (by kernel_rfl) (by kernel_rfl)
  case H =>
    intro x hx
    have hne : Nonempty (Wx x) := ⟨⟨x, Ext.refl x⟩⟩
    have qT1 := fun (y : Wx x) => ((T1.calm hx (by simp <;> omega)).ext y.ext).cell
    simp only [eraseM]
    repeat (go_big_quiet_step (fail))
    exact wpQuiet_nil rfl
  case hok =>
    simp only [List.forall_mem_cons, List.not_mem_nil, false_implies, implies_true, and_true]
    exact ⟨tgt_mine (by simp) R1 rfl rfl rfl rfl rfl rfl (by kernel_rfl) (by kernel_rfl) (of_decide_eq_true (by kernel_rfl)) rfl, tgt_mine (by simp) S1 rfl rfl rfl rfl rfl rfl (by kernel_rfl) (by kernel_rfl) (of_decide_eq_true (by kernel_rfl)) rfl⟩
  case hdis =>
    intro k k' t t' hk hk' hne _ _
    rcases k with _ | _ | k <;> rcases k' with _ | _ | k' <;> simp at hk hk' hne <;> (subst hk; subst hk'; dsimp only; omega)
  rintro w2 f hw ⟨k0, l0, d0, -, k1, l1, d1, -, -⟩
  have k0' : f 0 = w.heap.size + 1 := k0
  have d0' : Blk w2 (w.heap.size + 1) #[.int .i64 ax, .int .i64 ay] 23 := k0' ▸ d0
  have k1' : f 1 = w.heap.size + 1 + 1 := k1
  have d1' : Blk w2 (w.heap.size + 1 + 1) #[.int .i64 bx, .int .i64 by'] 23 := k1' ▸ d1
  clear k0 k0' l0 d0 k1 k1' l1 d1
  simp only [pairs, putAll, Option.isSome_none, Bool.false_eq_true, if_false]
  have c0 := d0'.cell
  have c1 := d1'.cell
  go_wp2
  exact bodyPost_ret (v := .tuple #[.agg #[.int .i64 ax, .int .i64 ay], .agg #[.int .i64 bx, .int .i64 by']]) (by simp [results, Try.results23, go_sem, c0, c1]) rfl ⟨rfl, Ext.calm_trans e1 hw (by simp <;> omega)⟩
set_option maxHeartbeats 400000 in
theorem area_any (ax ay bx by' cx cy : Int) (hax : -9223372036854775808 ≤ ax ∧ ax ≤ 9223372036854775807) (hay : -9223372036854775808 ≤ ay ∧ ay ≤ 9223372036854775807) (hbx : -9223372036854775808 ≤ bx ∧ bx ≤ 9223372036854775807) (hby' : -9223372036854775808 ≤ by' ∧ by' ≤ 9223372036854775807) (hcx : -9223372036854775808 ≤ cx ∧ cx ≤ 9223372036854775807) (hcy : -9223372036854775808 ≤ cy ∧ cy ≤ 9223372036854775807) (w : World) :
    Calls Try.prog 15 #[.agg #[.int .i64 ax, .int .i64 ay, .int .i64 bx, .int .i64 by', .int .i64 cx, .int .i64 cy]] w fun e w' => e = .returned (.int .i64 (sd ax ay bx by' cx cy)) ∧ Ext w w' := by
  go_enter Try.func15, Try.ntmps15
  go_wp2_with fail
  refine (side_any _ _ _ _ _ _ (by omega) (by omega) (by omega) (by omega) (by omega) (by omega) _).mono ?_
  rintro e w1 ⟨rfl, hx1⟩
  go_wp2
  go_ret
  exact ⟨rfl, ((Ext.refl w).alloc _ _).trans hx1⟩
set_option maxHeartbeats 400000 in
theorem turnedT_any (ax ay bx by' cx cy : Int) (hax : -9223372036854775808 ≤ ax ∧ ax ≤ 9223372036854775807) (hay : -9223372036854775808 ≤ ay ∧ ay ≤ 9223372036854775807) (hbx : -9223372036854775808 ≤ bx ∧ bx ≤ 9223372036854775807) (hby' : -9223372036854775808 ≤ by' ∧ by' ≤ 9223372036854775807) (hcx : -9223372036854775808 ≤ cx ∧ cx ≤ 9223372036854775807) (hcy : -9223372036854775808 ≤ cy ∧ cy ≤ 9223372036854775807) (w : World) :
    Calls Try.prog 18 #[.agg #[.int .i64 ax, .int .i64 ay, .int .i64 bx, .int .i64 by', .int .i64 cx, .int .i64 cy]] w fun e w' => e = .returned (.agg #[.int .i64 ax, .int .i64 ay, .int .i64 cx, .int .i64 cy, .int .i64 bx, .int .i64 by']) ∧ Ext w w' := by
  go_enter Try.func18, Try.ntmps18
  go_wp2
  exact bodyPost_ret (v := .agg #[.int .i64 ax, .int .i64 ay, .int .i64 cx, .int .i64 cy, .int .i64 bx, .int .i64 by']) (by simp [results, Try.results18, go_sem]) rfl ⟨rfl, ((Ext.refl w).alloc _ _).alloc _ _⟩
end Go.Proofs.Ytbhgebflknafbaa
