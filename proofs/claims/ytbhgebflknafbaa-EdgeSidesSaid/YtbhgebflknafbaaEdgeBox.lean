/-
  DERIVED. THE WALKS of layer 3 (edge): Box.
-/
import Derived.Test.YtbhgebflknafbaaEdgeBase
namespace Go.Proofs.Ytbhgebflknafbaa
open Go.RowKit
set_option linter.unusedVariables false

theorem mkP (u : World) : (Instr.alloc 23 true (.tuple #[])).run Try.prog u = .ok (.pointer (some ⟨u.heap.size, 0, none⟩)) (u.alloc (.cells #[.int .i64 0, .int .i64 0] 23)) := by
  simp [go_sem]
set_option maxRecDepth 100000 in
set_option maxHeartbeats 4000000 in
theorem box_any (ax ay bx by' cx cy : Int) (hax : -9223372036854775808 ≤ ax ∧ ax ≤ 9223372036854775807) (hay : -9223372036854775808 ≤ ay ∧ ay ≤ 9223372036854775807) (hbx : -9223372036854775808 ≤ bx ∧ bx ≤ 9223372036854775807) (hby' : -9223372036854775808 ≤ by' ∧ by' ≤ 9223372036854775807) (hcx : -9223372036854775808 ≤ cx ∧ cx ≤ 9223372036854775807) (hcy : -9223372036854775808 ≤ cy ∧ cy ≤ 9223372036854775807) (w : World) :
    Calls Try.prog 19 #[.agg #[.int .i64 ax, .int .i64 ay, .int .i64 bx, .int .i64 by', .int .i64 cx, .int .i64 cy]] w fun e w' => e = .returned (.tuple #[.agg #[.int .i64 (lo3 ax bx cx), .int .i64 (lo3 ay by' cy)], .agg #[.int .i64 (hi3 ax bx cx), .int .i64 (hi3 ay by' cy)]]) ∧ Ext w w' := by
  go_enter Try.func19, Try.ntmps19
  go_wp2_with fail
  have T1 : Blk (((w.alloc (.cells #[.int .i64 ax, .int .i64 ay, .int .i64 bx, .int .i64 by', .int .i64 cx, .int .i64 cy] 25)).alloc (.cells #[.int .i64 0, .int .i64 0] 23)).alloc (.cells #[.int .i64 0, .int .i64 0] 23)) w.heap.size #[.int .i64 ax, .int .i64 ay, .int .i64 bx, .int .i64 by', .int .i64 cx, .int .i64 cy] 25 := ((Blk.new w _ _).alloc _).alloc _
  have R1 : Blk (((w.alloc (.cells #[.int .i64 ax, .int .i64 ay, .int .i64 bx, .int .i64 by', .int .i64 cx, .int .i64 cy] 25)).alloc (.cells #[.int .i64 0, .int .i64 0] 23)).alloc (.cells #[.int .i64 0, .int .i64 0] 23)) (w.heap.size + 1) #[.int .i64 0, .int .i64 0] 23 := (Blk.new' (by simp) _ _).alloc _
  have S1 : Blk (((w.alloc (.cells #[.int .i64 ax, .int .i64 ay, .int .i64 bx, .int .i64 by', .int .i64 cx, .int .i64 cy] 25)).alloc (.cells #[.int .i64 0, .int .i64 0] 23)).alloc (.cells #[.int .i64 0, .int .i64 0] 23)) (w.heap.size + 1 + 1) #[.int .i64 0, .int .i64 0] 23 := Blk.new' (by simp) _ _
  have e1 : Ext w (((w.alloc (.cells #[.int .i64 ax, .int .i64 ay, .int .i64 bx, .int .i64 by', .int .i64 cx, .int .i64 cy] 25)).alloc (.cells #[.int .i64 0, .int .i64 0] 23)).alloc (.cells #[.int .i64 0, .int .i64 0] 23)) := (((Ext.refl w).alloc _ _).alloc _ _).alloc _ _
  generalize (((w.alloc (.cells #[.int .i64 ax, .int .i64 ay, .int .i64 bx, .int .i64 by', .int .i64 cx, .int .i64 cy] 25)).alloc (.cells #[.int .i64 0, .int .i64 0] 23)).alloc (.cells #[.int .i64 0, .int .i64 0] 23)) = w1 at *
  apply wp_region_vars [false, false, false, false, false, false, false, false, false, true, true, true, true, true, true] [] [⟨some 9, 4, 0, some 12, 23, #[.int .i64 0, .int .i64 0], #[.int .i64 (nr ax), .int .i64 (nr ay)]⟩, ⟨some 10, 5, 0, some 13, 23, #[.int .i64 0, .int .i64 0], #[.int .i64 (nr bx), .int .i64 (nr by')]⟩, ⟨some 11, 6, 0, some 14, 23, #[.int .i64 0, .int .i64 0], #[.int .i64 (nr cx), .int .i64 (nr cy)]⟩] _ (by kernel_rfl) (by kernel_rfl) (by kernel_rfl)
  case H =>
    intro x hx
    have q0 := fun (y : Wx x) => ((T1.calm hx (by simp)).ext y.ext).cell
    have hne : Nonempty (Wx x) := ⟨⟨x, Ext.refl x⟩⟩
    simp only [eraseM]
    repeat (go_big_quiet_step ((go_at_call 24; exact calm_of (limited_any _ _ (by omega) (by omega) _))))
    exact wpQuiet_nil rfl
  case hok =>
    simp only [List.forall_mem_cons, List.not_mem_nil, false_implies, implies_true, and_true]
    refine ⟨tgt_fresh (by simp) rfl rfl mkP rfl rfl rfl rfl (by kernel_rfl) (by kernel_rfl) rfl, tgt_fresh (by simp) rfl rfl mkP rfl rfl rfl rfl (by kernel_rfl) (by kernel_rfl) rfl, tgt_fresh (by simp) rfl rfl mkP rfl rfl rfl rfl (by kernel_rfl) (by kernel_rfl) rfl⟩
  case hdis =>
    intro k k' t t' hk hk' _ ha
    exfalso
    have := List.mem_of_getElem? hk
    simp only [List.mem_cons, List.not_mem_nil, or_false] at this
    rcases this with rfl | rfl | rfl <;> cases ha
  rintro w2 f hw ⟨k0, l0, d0, -, k1, l1, d1, -, k2, l2, d2, -, -⟩
  have hx2 := hw.ext
  clear hw
  have k0' : w1.heap.size ≤ f 0 := k0
  have k1' : w1.heap.size ≤ f 1 := k1
  have k2' : w1.heap.size ≤ f 2 := k2
  have zr := R1.lt
  have zs := S1.lt
  have A2 : Blk w2 (f 0) #[.int .i64 (nr ax), .int .i64 (nr ay)] 23 := d0
  have B2 : Blk w2 (f 1) #[.int .i64 (nr bx), .int .i64 (nr by')] 23 := d1
  have C2 : Blk w2 (f 2) #[.int .i64 (nr cx), .int .i64 (nr cy)] 23 := d2
  have R2 := R1.ext hx2
  have S2 := S1.ext hx2
  have e2 := e1.trans hx2
  clear T1 R1 S1 e1 hx2 k0 k1 k2 l0 l1 l2 d0 d1 d2
  simp only [pairs, putAll, Option.isSome_some, if_true]
  generalize f 0 = g0 at *
  generalize f 1 = g1 at *
  generalize f 2 = g2 at *
  clear f
  have m0 : ¬ (g0 = w.heap.size + 1) := by omega
  have n0 : ¬ (g0 = w.heap.size + 1 + 1) := by omega
  have m1 : ¬ (g1 = w.heap.size + 1) := by omega
  have n1 : ¬ (g1 = w.heap.size + 1 + 1) := by omega
  have m2 : ¬ (g2 = w.heap.size + 1) := by omega
  have n2 : ¬ (g2 = w.heap.size + 1 + 1) := by omega
  have cA2 := A2.cell
  have cB2 := B2.cell
  have cC2 := C2.cell
  have cR2 := R2.cell
  have cS2 := S2.cell
  have fR := R2.frozen
  have fS := S2.frozen
  have hmi := minI_fold
  have hmx := maxI_fold
  go_wp2
  have zw := e2.size
  have R3 : Blk ((((w2.setCell ⟨w.heap.size + 1, 0, none⟩ (.int .i64 (minI (minI (nr ax) (nr bx)) (nr cx)))).setCell ⟨w.heap.size + 1, 1, none⟩ (.int .i64 (minI (minI (nr ay) (nr by')) (nr cy)))).setCell ⟨w.heap.size + 1 + 1, 0, none⟩ (.int .i64 (maxI (maxI (nr ax) (nr bx)) (nr cx)))).setCell ⟨w.heap.size + 1 + 1, 1, none⟩ (.int .i64 (maxI (maxI (nr ay) (nr by')) (nr cy)))) (w.heap.size + 1) #[.int .i64 (minI (minI (nr ax) (nr bx)) (nr cx)), .int .i64 (minI (minI (nr ay) (nr by')) (nr cy))] 23 := (((R2.set 0 _).set 1 _).far (by simp <;> omega) _).far (by simp <;> omega) _
  have S3 : Blk ((((w2.setCell ⟨w.heap.size + 1, 0, none⟩ (.int .i64 (minI (minI (nr ax) (nr bx)) (nr cx)))).setCell ⟨w.heap.size + 1, 1, none⟩ (.int .i64 (minI (minI (nr ay) (nr by')) (nr cy)))).setCell ⟨w.heap.size + 1 + 1, 0, none⟩ (.int .i64 (maxI (maxI (nr ax) (nr bx)) (nr cx)))).setCell ⟨w.heap.size + 1 + 1, 1, none⟩ (.int .i64 (maxI (maxI (nr ay) (nr by')) (nr cy)))) (w.heap.size + 1 + 1) #[.int .i64 (maxI (maxI (nr ax) (nr bx)) (nr cx)), .int .i64 (maxI (maxI (nr ay) (nr by')) (nr cy))] 23 := (((S2.far (by simp <;> omega) _).far (by simp <;> omega) _).set 0 _).set 1 _
  have e3 : Ext w ((((w2.setCell ⟨w.heap.size + 1, 0, none⟩ (.int .i64 (minI (minI (nr ax) (nr bx)) (nr cx)))).setCell ⟨w.heap.size + 1, 1, none⟩ (.int .i64 (minI (minI (nr ay) (nr by')) (nr cy)))).setCell ⟨w.heap.size + 1 + 1, 0, none⟩ (.int .i64 (maxI (maxI (nr ax) (nr bx)) (nr cx)))).setCell ⟨w.heap.size + 1 + 1, 1, none⟩ (.int .i64 (maxI (maxI (nr ay) (nr by')) (nr cy)))) := by repeat (first | exact e2 | refine Ext.setCell ?_ (by simp <;> omega) _)
  generalize ((((w2.setCell ⟨w.heap.size + 1, 0, none⟩ (.int .i64 (minI (minI (nr ax) (nr bx)) (nr cx)))).setCell ⟨w.heap.size + 1, 1, none⟩ (.int .i64 (minI (minI (nr ay) (nr by')) (nr cy)))).setCell ⟨w.heap.size + 1 + 1, 0, none⟩ (.int .i64 (maxI (maxI (nr ax) (nr bx)) (nr cx)))).setCell ⟨w.heap.size + 1 + 1, 1, none⟩ (.int .i64 (maxI (maxI (nr ay) (nr by')) (nr cy)))) = w3 at *
  have cR3 := R3.cell
  have cS3 := S3.cell
  have fR3 := R3.frozen
  have fS3 := S3.frozen
  clear hmi hmx fR fS cR2 cS2 R2 S2 e2 cA2 cB2 cC2 A2 B2 C2 m0 m1 m2 n0 n1 n2 zw
  have h0 : minI (minI (nr ax) (nr bx)) (nr cx) = lo3 ax bx cx := by unfold minI lo3; omega
  have h1 : minI (minI (nr ay) (nr by')) (nr cy) = lo3 ay by' cy := by unfold minI lo3; omega
  have h2 : maxI (maxI (nr ax) (nr bx)) (nr cx) = hi3 ax bx cx := by unfold maxI hi3; omega
  have h3 : maxI (maxI (nr ay) (nr by')) (nr cy) = hi3 ay by' cy := by unfold maxI hi3; omega
  rw [h0, h1] at R3 cR3
  rw [h2, h3] at S3 cS3
  clear h0 h1 h2 h3
  go_region
  all_goals (go_wp2; refine bodyPost_ret (v := .tuple #[.agg #[.int .i64 (lo3 ax bx cx), .int .i64 (lo3 ay by' cy)], .agg #[.int .i64 (hi3 ax bx cx), .int .i64 (hi3 ay by' cy)]]) (by simp [results, Try.results19, go_sem, cR3, cS3]) rfl ⟨rfl, ?_⟩; repeat (first | exact e3 | apply Ext.drew | apply Ext.drewN | refine Ext.setCell ?_ (by simp <;> omega) _))
end Go.Proofs.Ytbhgebflknafbaa
