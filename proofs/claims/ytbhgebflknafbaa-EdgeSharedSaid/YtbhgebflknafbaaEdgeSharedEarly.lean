/-
  DERIVED. The walk of the law EdgeShared: it returns true, whatever the numbers.
-/
import Derived.Test.YtbhgebflknafbaaEdgeAid
import Derived.Test.YtbhgebflknafbaaCalmMine
import Derived.Deep.DeepCutAuto
import Derived.Deep.CutBlock
namespace Go.Proofs.Ytbhgebflknafbaa
open Go.RowKit
set_option linter.unusedVariables false

set_option maxHeartbeats 400000 in
theorem at_any (p0 p1 : Int) (hp0 : -128 ≤ p0 ∧ p0 ≤ 127) (hp1 : -128 ≤ p1 ∧ p1 ≤ 127) (w : World) :
    Calls Try.prog 22 #[.agg #[.int .i8 p0, .int .i8 p1]] w fun e w' => e = .returned (.agg #[.int .i64 p0, .int .i64 p1]) ∧ Ext w w' := by
  go_enter Try.func22, Try.ntmps22
  go_wp2
  refine bodyPost_ret (v := .agg #[.int .i64 p0, .int .i64 p1]) (by simp [results, Try.results22, go_sem]) rfl ⟨rfl, ?_⟩
  repeat (first | exact Ext.refl _ | apply Ext.drew | apply Ext.drewN | apply Ext.alloc)
theorem mkT (u : World) : (Instr.alloc 25 true (.tuple #[])).run Try.prog u = .ok (.pointer (some ⟨u.heap.size, 0, none⟩)) (u.alloc (.cells #[.int .i64 0, .int .i64 0, .int .i64 0, .int .i64 0, .int .i64 0, .int .i64 0] 25)) := by
  simp [go_sem]
theorem mkW (u : World) : (Instr.alloc 37 true (.tuple #[])).run Try.prog u = .ok (.pointer (some ⟨u.heap.size, 0, none⟩)) (u.alloc (.cells #[.int .i64 0, .int .i64 0, .int .i64 0] 37)) := by
  simp [go_sem]
theorem half8 (c : Int) (h : -256 ≤ c ∧ c ≤ 254) : ∃ y : Int, c.tdiv 2 = y ∧ -128 ≤ y ∧ y ≤ 127 := by
  refine ⟨_, rfl, ?_⟩
  have h1 : (c.tdiv 2).natAbs = c.natAbs / (2 : Int).natAbs := Int.natAbs_tdiv c 2
  have h2 : (2 : Int).natAbs = 2 := rfl
  have h3 : c.tdiv 2 * 2 = c - c.tmod 2 := by have := Int.mul_tdiv_add_tmod c 2; omega
  have h4 := Int.natAbs_tmod c 2
  rw [h2] at h1 h4
  omega
theorem shared_both {a0 a1 b0 b1 c0 c1 d0 d1 x y : Int} (ha0 : -128 ≤ a0 ∧ a0 ≤ 127) (ha1 : -128 ≤ a1 ∧ a1 ≤ 127) (hb0 : -128 ≤ b0 ∧ b0 ≤ 127) (hb1 : -128 ≤ b1 ∧ b1 ≤ 127) (h : covB a0 a1 b0 b1 c0 c1 x y = true) : covB b0 b1 a0 a1 d0 d1 x y = false := by
  cases e : covB b0 b1 a0 a1 d0 d1 x y with
  | false => rfl
  | true =>
    rw [covB_iff] at h e
    rw [nr8 ha0, nr8 ha1, nr8 hb0, nr8 hb1] at h e
    exact absurd ⟨h, e⟩ (Edge.shared_not_both (by unfold Edge.Near3 Edge.near; omega))
theorem shared_either {a0 a1 b0 b1 c0 c1 d0 d1 x y : Int} (h1 : 0 < sd a0 a1 b0 b1 c0 c1) (h2 : 0 < sd b0 b1 a0 a1 d0 d1) (h0 : sd a0 a1 b0 b1 x y = 0) (w0 : 0 < sd b0 b1 c0 c1 x y) (w1 : 0 < sd c0 c1 a0 a1 x y) (v0 : 0 < sd a0 a1 d0 d1 x y) (v1 : 0 < sd d0 d1 b0 b1 x y) (h : covB a0 a1 b0 b1 c0 c1 x y = false) : covB b0 b1 a0 a1 d0 d1 x y = true := by
  have k := Edge.shared_one h1 h2 h0 w0 w1 v0 v1
  rw [← covB_iff, ← covB_iff] at k
  rcases k with k | k
  · rw [h] at k; cases k
  · exact k

set_option maxRecDepth 100000 in
set_option maxHeartbeats 8000000 in
theorem edgeShared_early0 (a0 a1 b0 b1 c0 c1 d0 d1 x y : Int) (ha0 : -128 ≤ a0 ∧ a0 ≤ 127) (ha1 : -128 ≤ a1 ∧ a1 ≤ 127) (hb0 : -128 ≤ b0 ∧ b0 ≤ 127) (hb1 : -128 ≤ b1 ∧ b1 ≤ 127) (hc0 : -128 ≤ c0 ∧ c0 ≤ 127) (hc1 : -128 ≤ c1 ∧ c1 ≤ 127) (hd0 : -128 ≤ d0 ∧ d0 ≤ 127) (hd1 : -128 ≤ d1 ∧ d1 ≤ 127) (hx : -128 ≤ x ∧ x ≤ 127) (hy : -128 ≤ y ∧ y ≤ 127) (q0 : sd a0 a1 b0 b1 c0 c1 ≤ 0) (w : World) :
    Calls Try.prog 4 #[.agg #[.int .i8 a0, .int .i8 a1], .agg #[.int .i8 b0, .int .i8 b1], .agg #[.int .i8 c0, .int .i8 c1], .agg #[.int .i8 d0, .int .i8 d1], .int .i8 x, .int .i8 y] w fun e w' => e = .returned (.bool true) ∧ Ext w w' := by
  have j0 : decide (sd a0 a1 b0 b1 c0 c1 ≤ 0) = true := by simpa using q0
  go_enter Try.func4, Try.ntmps4
  go_wp2_with fail
  with_reducible refine (awake3_any _).mono ?_
  rintro e w1 ⟨rfl, hx1⟩
  have A1 : Blk w1 w.heap.size #[.int .i8 a0, .int .i8 a1] 27 := ((((Blk.new w _ _).alloc _).alloc _).alloc _).ext hx1
  have B1 : Blk w1 (w.heap.size + 1) #[.int .i8 b0, .int .i8 b1] 27 := (((Blk.new' (by simp) _ _).alloc _).alloc _).ext hx1
  have C1 : Blk w1 (w.heap.size + 1 + 1) #[.int .i8 c0, .int .i8 c1] 27 := ((Blk.new' (by simp) _ _).alloc _).ext hx1
  have D1 : Blk w1 (w.heap.size + 1 + 1 + 1) #[.int .i8 d0, .int .i8 d1] 27 := (Blk.new' (by simp) _ _).ext hx1
  have e1 : Ext w w1 := Ext.trans (((((Ext.refl w).alloc _ _).alloc _ _).alloc _ _).alloc _ _) hx1
  clear hx1
  go_wp2
  apply wp_region_vars [false, false, false, false, false, false, false, false, false, false, false, false, false, false, false, false, false, false, false, false, true, true, true, true] [] [⟨some 20, 14, 0, some 22, 25, #[.int .i64 0, .int .i64 0, .int .i64 0, .int .i64 0, .int .i64 0, .int .i64 0], #[.int .i64 a0, .int .i64 a1, .int .i64 b0, .int .i64 b1, .int .i64 c0, .int .i64 c1]⟩, ⟨some 21, 15, 0, some 23, 25, #[.int .i64 0, .int .i64 0, .int .i64 0, .int .i64 0, .int .i64 0, .int .i64 0], #[.int .i64 b0, .int .i64 b1, .int .i64 a0, .int .i64 a1, .int .i64 d0, .int .i64 d1]⟩] _ (by kernel_rfl) (by kernel_rfl) (by kernel_rfl)
  case H =>
    intro x' hx
    have hne : Nonempty (Wx x') := ⟨⟨x', Ext.refl x'⟩⟩
    have q0 := fun (y : Wx x') => ((A1.calm hx (by simp)).ext y.ext).cell
    have q1 := fun (y : Wx x') => ((B1.calm hx (by simp)).ext y.ext).cell
    have q2 := fun (y : Wx x') => ((C1.calm hx (by simp)).ext y.ext).cell
    have q3 := fun (y : Wx x') => ((D1.calm hx (by simp)).ext y.ext).cell
    simp only [eraseM]
    repeat (go_big_quiet_step ((go_at_call 22; exact calm_of (at_any _ _ (by omega) (by omega) _))))
    exact wpQuiet_nil rfl
  case hok =>
    simp only [List.forall_mem_cons, List.not_mem_nil, false_implies, implies_true, and_true]
    refine ⟨tgt_fresh (by simp) rfl rfl mkT rfl rfl rfl rfl (by kernel_rfl) (by kernel_rfl) rfl, tgt_fresh (by simp) rfl rfl mkT rfl rfl rfl rfl (by kernel_rfl) (by kernel_rfl) rfl⟩
  case hdis =>
    intro k k' t t' hk hk' _ ha
    exfalso
    have := List.mem_of_getElem? hk
    simp only [List.mem_cons, List.not_mem_nil, or_false] at this
    rcases this with rfl | rfl <;> cases ha
  rintro w2 f hw ⟨k0, l0, d0', -, k1, l1, d1', -, -⟩
  have hx2 := hw.ext
  clear hw
  have A2 := A1.ext hx2
  have B2 := B1.ext hx2
  have S2 : Blk w2 (f 0) #[.int .i64 a0, .int .i64 a1, .int .i64 b0, .int .i64 b1, .int .i64 c0, .int .i64 c1] 25 := d0'
  have T2 : Blk w2 (f 1) #[.int .i64 b0, .int .i64 b1, .int .i64 a0, .int .i64 a1, .int .i64 d0, .int .i64 d1] 25 := d1'
  clear A1 B1 C1 D1 k0 l0 d0' k1 l1 d1'
  simp only [pairs, putAll, Option.isSome_some, if_true]
  generalize f 0 = g0 at *
  generalize f 1 = g1 at *
  clear f
  have e2 := e1.trans hx2
  clear e1 hx2
  have cA2 := A2.cell
  have cB2 := B2.cell
  have cS2 := S2.cell
  have cT2 := T2.cell
  go_wp2_with fail
  refine (area_any _ _ _ _ _ _ (by omega) (by omega) (by omega) (by omega) (by omega) (by omega) _).mono ?_
  rintro e w3 ⟨rfl, hx3⟩
  go_wp2
  go_ret
  exact ⟨rfl, e2.trans hx3⟩

set_option maxRecDepth 100000 in
set_option maxHeartbeats 8000000 in
theorem edgeShared_early1 (a0 a1 b0 b1 c0 c1 d0 d1 x y : Int) (ha0 : -128 ≤ a0 ∧ a0 ≤ 127) (ha1 : -128 ≤ a1 ∧ a1 ≤ 127) (hb0 : -128 ≤ b0 ∧ b0 ≤ 127) (hb1 : -128 ≤ b1 ∧ b1 ≤ 127) (hc0 : -128 ≤ c0 ∧ c0 ≤ 127) (hc1 : -128 ≤ c1 ∧ c1 ≤ 127) (hd0 : -128 ≤ d0 ∧ d0 ≤ 127) (hd1 : -128 ≤ d1 ∧ d1 ≤ 127) (hx : -128 ≤ x ∧ x ≤ 127) (hy : -128 ≤ y ∧ y ≤ 127) (p0 : 0 < sd a0 a1 b0 b1 c0 c1) (q0 : sd b0 b1 a0 a1 d0 d1 ≤ 0) (w : World) :
    Calls Try.prog 4 #[.agg #[.int .i8 a0, .int .i8 a1], .agg #[.int .i8 b0, .int .i8 b1], .agg #[.int .i8 c0, .int .i8 c1], .agg #[.int .i8 d0, .int .i8 d1], .int .i8 x, .int .i8 y] w fun e w' => e = .returned (.bool true) ∧ Ext w w' := by
  have j0 : decide (sd a0 a1 b0 b1 c0 c1 ≤ 0) = false := by simpa using p0
  have j1 : decide (sd b0 b1 a0 a1 d0 d1 ≤ 0) = true := by simpa using q0
  go_enter Try.func4, Try.ntmps4
  go_wp2_with fail
  with_reducible refine (awake3_any _).mono ?_
  rintro e w1 ⟨rfl, hx1⟩
  have A1 : Blk w1 w.heap.size #[.int .i8 a0, .int .i8 a1] 27 := ((((Blk.new w _ _).alloc _).alloc _).alloc _).ext hx1
  have B1 : Blk w1 (w.heap.size + 1) #[.int .i8 b0, .int .i8 b1] 27 := (((Blk.new' (by simp) _ _).alloc _).alloc _).ext hx1
  have C1 : Blk w1 (w.heap.size + 1 + 1) #[.int .i8 c0, .int .i8 c1] 27 := ((Blk.new' (by simp) _ _).alloc _).ext hx1
  have D1 : Blk w1 (w.heap.size + 1 + 1 + 1) #[.int .i8 d0, .int .i8 d1] 27 := (Blk.new' (by simp) _ _).ext hx1
  have e1 : Ext w w1 := Ext.trans (((((Ext.refl w).alloc _ _).alloc _ _).alloc _ _).alloc _ _) hx1
  clear hx1
  go_wp2
  apply wp_region_vars [false, false, false, false, false, false, false, false, false, false, false, false, false, false, false, false, false, false, false, false, true, true, true, true] [] [⟨some 20, 14, 0, some 22, 25, #[.int .i64 0, .int .i64 0, .int .i64 0, .int .i64 0, .int .i64 0, .int .i64 0], #[.int .i64 a0, .int .i64 a1, .int .i64 b0, .int .i64 b1, .int .i64 c0, .int .i64 c1]⟩, ⟨some 21, 15, 0, some 23, 25, #[.int .i64 0, .int .i64 0, .int .i64 0, .int .i64 0, .int .i64 0, .int .i64 0], #[.int .i64 b0, .int .i64 b1, .int .i64 a0, .int .i64 a1, .int .i64 d0, .int .i64 d1]⟩] _ (by kernel_rfl) (by kernel_rfl) (by kernel_rfl)
  case H =>
    intro x' hx
    have hne : Nonempty (Wx x') := ⟨⟨x', Ext.refl x'⟩⟩
    have q0 := fun (y : Wx x') => ((A1.calm hx (by simp)).ext y.ext).cell
    have q1 := fun (y : Wx x') => ((B1.calm hx (by simp)).ext y.ext).cell
    have q2 := fun (y : Wx x') => ((C1.calm hx (by simp)).ext y.ext).cell
    have q3 := fun (y : Wx x') => ((D1.calm hx (by simp)).ext y.ext).cell
    simp only [eraseM]
    repeat (go_big_quiet_step ((go_at_call 22; exact calm_of (at_any _ _ (by omega) (by omega) _))))
    exact wpQuiet_nil rfl
  case hok =>
    simp only [List.forall_mem_cons, List.not_mem_nil, false_implies, implies_true, and_true]
    refine ⟨tgt_fresh (by simp) rfl rfl mkT rfl rfl rfl rfl (by kernel_rfl) (by kernel_rfl) rfl, tgt_fresh (by simp) rfl rfl mkT rfl rfl rfl rfl (by kernel_rfl) (by kernel_rfl) rfl⟩
  case hdis =>
    intro k k' t t' hk hk' _ ha
    exfalso
    have := List.mem_of_getElem? hk
    simp only [List.mem_cons, List.not_mem_nil, or_false] at this
    rcases this with rfl | rfl <;> cases ha
  rintro w2 f hw ⟨k0, l0, d0', -, k1, l1, d1', -, -⟩
  have hx2 := hw.ext
  clear hw
  have A2 := A1.ext hx2
  have B2 := B1.ext hx2
  have S2 : Blk w2 (f 0) #[.int .i64 a0, .int .i64 a1, .int .i64 b0, .int .i64 b1, .int .i64 c0, .int .i64 c1] 25 := d0'
  have T2 : Blk w2 (f 1) #[.int .i64 b0, .int .i64 b1, .int .i64 a0, .int .i64 a1, .int .i64 d0, .int .i64 d1] 25 := d1'
  clear A1 B1 C1 D1 k0 l0 d0' k1 l1 d1'
  simp only [pairs, putAll, Option.isSome_some, if_true]
  generalize f 0 = g0 at *
  generalize f 1 = g1 at *
  clear f
  have e2 := e1.trans hx2
  clear e1 hx2
  have cA2 := A2.cell
  have cB2 := B2.cell
  have cS2 := S2.cell
  have cT2 := T2.cell
  go_wp2_with fail
  refine (area_any _ _ _ _ _ _ (by omega) (by omega) (by omega) (by omega) (by omega) (by omega) _).mono ?_
  rintro e w3 ⟨rfl, hx3⟩
  have A3 := A2.ext hx3
  have cA3 := A3.cell
  have B3 := B2.ext hx3
  have cB3 := B3.cell
  have S3 := S2.ext hx3
  have cS3 := S3.cell
  have T3 := T2.ext hx3
  have cT3 := T3.cell
  clear A2 cA2 B2 cB2 S2 cS2 T2 cT2
  have e3 := e2.trans hx3
  clear e2 hx3
  go_wp2_with fail
  refine (area_any _ _ _ _ _ _ (by omega) (by omega) (by omega) (by omega) (by omega) (by omega) _).mono ?_
  rintro e w4 ⟨rfl, hx4⟩
  go_wp2
  go_ret
  exact ⟨rfl, e3.trans hx4⟩

end Go.Proofs.Ytbhgebflknafbaa
