/-
  DERIVED. The document's own answer for layer 3: azulejoref01.Covers. · THE WALKS of layer 3 (edge), all of them. · The functions of the laws of layer 3 themselves: Awake, Small.Tri, ref. · '==' on points; small triangles: what the laws of layer 3 share.
-/
import Derived.Test.YtglehnmkdapnpaaPkEdge
import Derived.Test.YtglehnmkdapnpaaPkFix
import Derived.Deep.DeepCutAuto
import Derived.Deep.CutBlock
import Derived.Test.YtglehnmkdapnpaaPkEdgeC
import Derived.Laws.StructEq
namespace Go.Proofs.Ytglehnmkdapnpaa
open Go.RowKit
set_option linter.unusedVariables false

theorem wB_ref {ax ay bx by' px py : Int} (h : ¬ sd ax ay bx by' px py < 0) : ((sd ax ay bx by' px py == 0) && (!decide (nr by' < nr ay) && !((nr by' == nr ay) && decide (nr ax < nr bx)))) = !wB ax ay bx by' px py := by
  unfold wB ownB
  rcases Int.lt_trichotomy (sd ax ay bx by' px py) 0 with k | k | k
  · exact absurd k h
  · rw [k]
    rcases Int.lt_trichotomy (nr by') (nr ay) with j | j | j
    · simp [j]
    · simp [j]
    · have j1 : ¬ (nr by' = nr ay) := by omega
      have j2 : ¬ (nr by' < nr ay) := by omega
      simp [j1, j2]
  · have k1 : ¬ (sd ax ay bx by' px py = 0) := by omega
    simp [k, k1]
theorem mkQ (u : World) : (Instr.alloc 37 true (.tuple #[])).run Try.prog u = .ok (.pointer (some ⟨u.heap.size, 0, none⟩)) (u.alloc (.cells #[.int .i64 0, .int .i64 0] 37)) := by
  simp [go_sem]
set_option maxRecDepth 100000 in
set_option maxHeartbeats 4000000 in
theorem rcovers_any (ax ay bx by' cx cy px py : Int) (hax : -9223372036854775808 ≤ ax ∧ ax ≤ 9223372036854775807) (hay : -9223372036854775808 ≤ ay ∧ ay ≤ 9223372036854775807) (hbx : -9223372036854775808 ≤ bx ∧ bx ≤ 9223372036854775807) (hby' : -9223372036854775808 ≤ by' ∧ by' ≤ 9223372036854775807) (hcx : -9223372036854775808 ≤ cx ∧ cx ≤ 9223372036854775807) (hcy : -9223372036854775808 ≤ cy ∧ cy ≤ 9223372036854775807) (hpx : -9223372036854775808 ≤ px ∧ px ≤ 9223372036854775807) (hpy : -9223372036854775808 ≤ py ∧ py ≤ 9223372036854775807) (w : World) :
    Calls Try.prog 43 #[.agg #[.int .i64 ax, .int .i64 ay, .int .i64 bx, .int .i64 by', .int .i64 cx, .int .i64 cy], .agg #[.int .i64 px, .int .i64 py]] w fun e w' => e = .returned (.bool (covB ax ay bx by' cx cy px py)) ∧ Ext w w' := by
  go_enter Try.func43, Try.ntmps43
  go_wp2_with fail
  refine (rside_any _ _ _ _ _ _ (by omega) (by omega) (by omega) (by omega) (by omega) (by omega) _).mono ?_
  rintro e w1 ⟨rfl, hx1⟩
  have T1 : Blk w1 w.heap.size #[.int .i64 ax, .int .i64 ay, .int .i64 bx, .int .i64 by', .int .i64 cx, .int .i64 cy] 38 := ((Blk.new w _ _).alloc _).ext hx1
  have P1 : Blk w1 (w.heap.size + 1) #[.int .i64 px, .int .i64 py] 37 := (Blk.new' (by simp) _ _).ext hx1
  have e1 : Ext w w1 := (((Ext.refl w).alloc _ _).alloc _ _).trans hx1
  clear hx1
  have cT1 := T1.cell
  have cP1 := P1.cell
  rcases Int.lt_or_le 0 (sd ax ay bx by' cx cy) with hA | hA
  case inr =>
    have hB : decide (sd ax ay bx by' cx cy ≤ 0) = true := by simpa using hA
    have hC : covB ax ay bx by' cx cy px py = false := by
      have : decide (0 < sd ax ay bx by' cx cy) = false := by simpa using hA
      simp [covB, this]
    go_wp2
    go_ret
    exact ⟨by rw [hC]; rfl, e1⟩
  have hB : decide (sd ax ay bx by' cx cy ≤ 0) = false := by simpa using hA
  go_wp2_with fail
  refine wp_loop_rounds 4 ?_
  rw [rounds_succ]
  go_wp2_with fail
  apply wp_region_vars [false, false, false, false, false, false, false, false, true, true, true, true] [] [⟨some 8, 6, 0, some 10, 37, #[.int .i64 0, .int .i64 0], #[.int .i64 ax, .int .i64 ay]⟩, ⟨some 9, 7, 0, some 11, 37, #[.int .i64 0, .int .i64 0], #[.int .i64 bx, .int .i64 by']⟩] _ (by kernel_rfl) (by kernel_rfl) (by kernel_rfl)
  case H =>
    intro x hx
    have hne : Nonempty (Wx x) := ⟨⟨x, Ext.refl x⟩⟩
    have q0 := fun (y : Wx x) => ((T1.calm hx (by simp)).ext y.ext).cell
    simp only [eraseM]
    repeat (go_big_quiet_step (fail))
    exact wpQuiet_nil rfl
  case hok =>
    simp only [List.forall_mem_cons, List.not_mem_nil, false_implies, implies_true, and_true]
    refine ⟨tgt_fresh (by simp) rfl rfl mkQ rfl rfl rfl rfl (by kernel_rfl) (by kernel_rfl) rfl, tgt_fresh (by simp) rfl rfl mkQ rfl rfl rfl rfl (by kernel_rfl) (by kernel_rfl) rfl⟩
  case hdis =>
    intro k k' t t' hk hk' _ ha
    exfalso
    have := List.mem_of_getElem? hk
    simp only [List.mem_cons, List.not_mem_nil, or_false] at this
    rcases this with rfl | rfl <;> cases ha
  rintro w2 f hw ⟨k0, l0, d0, -, k1, l1, d1, -, -⟩
  have hx2 := hw.ext
  clear hw
  have T2 := T1.ext hx2
  have cT2 := T2.cell
  have P2 := P1.ext hx2
  have cP2 := P2.cell
  clear T1 cT1 P1 cP1
  have e2 := e1.trans hx2
  clear e1 hx2
  have U2 : Blk w2 (f 0) #[.int .i64 ax, .int .i64 ay] 37 := d0
  have V2 : Blk w2 (f 1) #[.int .i64 bx, .int .i64 by'] 37 := d1
  clear k0 l0 d0 k1 l1 d1
  simp only [pairs, putAll, Option.isSome_some, if_true, Act.put, List.setIfInBounds_toArray, List.set_cons_succ, List.set_cons_zero]
  generalize f 0 = gu at *
  generalize f 1 = gv at *
  clear f
  have cU2 := U2.cell
  have cV2 := V2.cell
  go_wp2_with fail
  refine (rside_any _ _ _ _ _ _ (by omega) (by omega) (by omega) (by omega) (by omega) (by omega) _).mono ?_
  rintro e w3 ⟨rfl, hx3⟩
  have T3 := T2.ext hx3
  have cT3 := T3.cell
  have P3 := P2.ext hx3
  have cP3 := P3.cell
  have U3 := U2.ext hx3
  have cU3 := U3.cell
  have V3 := V2.ext hx3
  have cV3 := V3.cell
  clear T2 cT2 P2 cP2 U2 cU2 V2 cV2
  have e3 := e2.trans hx3
  clear e2 hx3
  rcases Int.lt_or_le (sd ax ay bx by' px py) 0 with hn0 | hn0
  case inl =>
    have d1 : decide (sd ax ay bx by' px py < 0) = true := by simpa using hn0
    have hw0 : wB ax ay bx by' px py = false := by
      unfold wB
      rw [decide_eq_false (by omega), decide_eq_false (by omega)]
      rfl
    have hC : covB ax ay bx by' cx cy px py = false := by simp [covB, hw0]
    go_wp2
    go_ret
    exact ⟨by rw [hC]; rfl, e3⟩
  have d1 : decide (sd ax ay bx by' px py < 0) = false := by simpa using hn0
  have hq := wB_ref (show ¬ sd ax ay bx by' px py < 0 by omega)
  clear hn0
  go_wp2
  apply wp_region_reads2 _ (by kernel_rfl) (by kernel_rfl)
  case H =>
    intro x hx
    have hne : Nonempty (Wx x) := ⟨⟨x, Ext.refl x⟩⟩
    have qU := fun (y : Wx x) => (U3.ext (hx.trans y.ext)).cell
    have qV := fun (y : Wx x) => (V3.ext (hx.trans y.ext)).cell
    try simp only [List.append_eq, List.cons_append, List.nil_append]
    repeat (go_big_quiet_step ((go_at_call 51; exact calm_eq (rnear_any _ _ (by omega) (by omega)))))
    exact wpQuiet_nil rfl
  intro w4 hx4
  have T4 := T3.ext hx4
  have cT4 := T4.cell
  have P4 := P3.ext hx4
  have cP4 := P4.cell
  have U4 := U3.ext hx4
  have cU4 := U4.cell
  have V4 := V3.ext hx4
  have cV4 := V4.cell
  clear T3 cT3 P3 cP3 U3 cU3 V3 cV3
  have e4 := e3.trans hx4
  clear e3 hx4
  go_upto_region 11 with fail
  go_cut [10] (fun o wx => o = .bool ((nr by' == nr ay) && decide (nr ax < nr bx)) ∧ Ext w4 wx)
  case first =>
    cases he : (nr by' == nr ay)
    all_goals
      apply wp_region_reads2 _ (by kernel_rfl) (by kernel_rfl)
      case H =>
        intro x hx
        have hne : Nonempty (Wx x) := ⟨⟨x, Ext.refl x⟩⟩
        have qU := fun (y : Wx x) => (U4.ext (hx.trans y.ext)).cell
        have qV := fun (y : Wx x) => (V4.ext (hx.trans y.ext)).cell
        try simp only [List.append_eq, List.cons_append, List.nil_append]
        repeat (go_big_quiet_step ((go_at_call 51; exact calm_eq (rnear_any _ _ (by omega) (by omega)))))
        exact wpQuiet_nil rfl
      intro wy hxy
      go_wp2
      go_meet
      exact ⟨by rw [he]; rfl, hxy⟩
  obtain ⟨rfl, hx5⟩ := hcut
  generalize wc = w5 at *
  have T5 := T4.ext hx5
  have cT5 := T5.cell
  have P5 := P4.ext hx5
  have cP5 := P5.cell
  have U5 := U4.ext hx5
  have cU5 := U5.cell
  have V5 := V4.ext hx5
  have cV5 := V5.cell
  clear T4 cT4 P4 cP4 U4 cU4 V4 cV4
  have e5 := e4.trans hx5
  clear e4 hx5
  generalize ((nr by' == nr ay) && decide (nr ax < nr bx)) = L at *
  generalize decide (nr by' < nr ay) = U at *
  go_upto_region 12 with fail
  go_cut [9, 10, 69] (fun _ _ o wx => o = .bool ((sd ax ay bx by' px py == 0) && (!U && !L)) ∧ w5 = wx)
  case first =>
    clear hq
    cases hz : (sd ax ay bx by' px py == 0) <;> cases U <;> cases L <;> (go_wp2; go_meet; exact ⟨by rw [hz]; rfl, rfl⟩)
  obtain ⟨rfl, rfl⟩ := hcut
  rw [hq]
  clear hq
  cases hw0 : wB ax ay bx by' px py
  · have hC : covB ax ay bx by' cx cy px py = false := by simp [covB, hw0]
    go_wp2
    go_ret
    exact ⟨by rw [hC]; rfl, e5⟩
  go_wp2
  clear U5 cU5 V5 cV5
  rw [rounds_succ]
  go_wp2_with fail
  apply wp_region_vars [false, false, false, false, false, false, false, false, true, true, true, true] [] [⟨some 8, 6, 0, some 10, 37, #[.int .i64 0, .int .i64 0], #[.int .i64 bx, .int .i64 by']⟩, ⟨some 9, 7, 0, some 11, 37, #[.int .i64 0, .int .i64 0], #[.int .i64 cx, .int .i64 cy]⟩] _ (by kernel_rfl) (by kernel_rfl) (by kernel_rfl)
  case H =>
    intro x hx
    have hne : Nonempty (Wx x) := ⟨⟨x, Ext.refl x⟩⟩
    have q0 := fun (y : Wx x) => ((T5.calm hx (by simp)).ext y.ext).cell
    simp only [eraseM]
    repeat (go_big_quiet_step (fail))
    exact wpQuiet_nil rfl
  case hok =>
    simp only [List.forall_mem_cons, List.not_mem_nil, false_implies, implies_true, and_true]
    refine ⟨tgt_fresh (by simp) rfl rfl mkQ rfl rfl rfl rfl (by kernel_rfl) (by kernel_rfl) rfl, tgt_fresh (by simp) rfl rfl mkQ rfl rfl rfl rfl (by kernel_rfl) (by kernel_rfl) rfl⟩
  case hdis =>
    intro k k' t t' hk hk' _ ha
    exfalso
    have := List.mem_of_getElem? hk
    simp only [List.mem_cons, List.not_mem_nil, or_false] at this
    rcases this with rfl | rfl <;> cases ha
  rintro w6 f hw ⟨k0, l0, d0, -, k1, l1, d1, -, -⟩
  have hx6 := hw.ext
  clear hw
  have T6 := T5.ext hx6
  have cT6 := T6.cell
  have P6 := P5.ext hx6
  have cP6 := P6.cell
  clear T5 cT5 P5 cP5
  have e6 := e5.trans hx6
  clear e5 hx6
  have U6 : Blk w6 (f 0) #[.int .i64 bx, .int .i64 by'] 37 := d0
  have V6 : Blk w6 (f 1) #[.int .i64 cx, .int .i64 cy] 37 := d1
  clear k0 l0 d0 k1 l1 d1
  simp only [pairs, putAll, Option.isSome_some, if_true, Act.put, List.setIfInBounds_toArray, List.set_cons_succ, List.set_cons_zero]
  generalize f 0 = gu at *
  generalize f 1 = gv at *
  clear f
  have cU6 := U6.cell
  have cV6 := V6.cell
  go_wp2_with fail
  refine (rside_any _ _ _ _ _ _ (by omega) (by omega) (by omega) (by omega) (by omega) (by omega) _).mono ?_
  rintro e w7 ⟨rfl, hx7⟩
  have T7 := T6.ext hx7
  have cT7 := T7.cell
  have P7 := P6.ext hx7
  have cP7 := P7.cell
  have U7 := U6.ext hx7
  have cU7 := U7.cell
  have V7 := V6.ext hx7
  have cV7 := V7.cell
  clear T6 cT6 P6 cP6 U6 cU6 V6 cV6
  have e7 := e6.trans hx7
  clear e6 hx7
  rcases Int.lt_or_le (sd bx by' cx cy px py) 0 with hn1 | hn1
  case inl =>
    have d1 : decide (sd bx by' cx cy px py < 0) = true := by simpa using hn1
    have hw1 : wB bx by' cx cy px py = false := by
      unfold wB
      rw [decide_eq_false (by omega), decide_eq_false (by omega)]
      rfl
    have hC : covB ax ay bx by' cx cy px py = false := by simp [covB, hw1]
    go_wp2
    go_ret
    exact ⟨by rw [hC]; rfl, e7⟩
  have d1 : decide (sd bx by' cx cy px py < 0) = false := by simpa using hn1
  have hq := wB_ref (show ¬ sd bx by' cx cy px py < 0 by omega)
  clear hn1
  go_wp2
  apply wp_region_reads2 _ (by kernel_rfl) (by kernel_rfl)
  case H =>
    intro x hx
    have hne : Nonempty (Wx x) := ⟨⟨x, Ext.refl x⟩⟩
    have qU := fun (y : Wx x) => (U7.ext (hx.trans y.ext)).cell
    have qV := fun (y : Wx x) => (V7.ext (hx.trans y.ext)).cell
    try simp only [List.append_eq, List.cons_append, List.nil_append]
    repeat (go_big_quiet_step ((go_at_call 51; exact calm_eq (rnear_any _ _ (by omega) (by omega)))))
    exact wpQuiet_nil rfl
  intro w8 hx8
  have T8 := T7.ext hx8
  have cT8 := T8.cell
  have P8 := P7.ext hx8
  have cP8 := P8.cell
  have U8 := U7.ext hx8
  have cU8 := U8.cell
  have V8 := V7.ext hx8
  have cV8 := V8.cell
  clear T7 cT7 P7 cP7 U7 cU7 V7 cV7
  have e8 := e7.trans hx8
  clear e7 hx8
  go_upto_region 11 with fail
  go_cut [10] (fun o wx => o = .bool ((nr cy == nr by') && decide (nr bx < nr cx)) ∧ Ext w8 wx)
  case first =>
    cases he : (nr cy == nr by')
    all_goals
      apply wp_region_reads2 _ (by kernel_rfl) (by kernel_rfl)
      case H =>
        intro x hx
        have hne : Nonempty (Wx x) := ⟨⟨x, Ext.refl x⟩⟩
        have qU := fun (y : Wx x) => (U8.ext (hx.trans y.ext)).cell
        have qV := fun (y : Wx x) => (V8.ext (hx.trans y.ext)).cell
        try simp only [List.append_eq, List.cons_append, List.nil_append]
        repeat (go_big_quiet_step ((go_at_call 51; exact calm_eq (rnear_any _ _ (by omega) (by omega)))))
        exact wpQuiet_nil rfl
      intro wy hxy
      go_wp2
      go_meet
      exact ⟨by rw [he]; rfl, hxy⟩
  obtain ⟨rfl, hx9⟩ := hcut
  generalize wc = w9 at *
  have T9 := T8.ext hx9
  have cT9 := T9.cell
  have P9 := P8.ext hx9
  have cP9 := P9.cell
  have U9 := U8.ext hx9
  have cU9 := U9.cell
  have V9 := V8.ext hx9
  have cV9 := V9.cell
  clear T8 cT8 P8 cP8 U8 cU8 V8 cV8
  have e9 := e8.trans hx9
  clear e8 hx9
  generalize ((nr cy == nr by') && decide (nr bx < nr cx)) = L at *
  generalize decide (nr cy < nr by') = U at *
  go_upto_region 12 with fail
  go_cut [9, 10, 69] (fun _ _ o wx => o = .bool ((sd bx by' cx cy px py == 0) && (!U && !L)) ∧ w9 = wx)
  case first =>
    clear hq
    cases hz : (sd bx by' cx cy px py == 0) <;> cases U <;> cases L <;> (go_wp2; go_meet; exact ⟨by rw [hz]; rfl, rfl⟩)
  obtain ⟨rfl, rfl⟩ := hcut
  rw [hq]
  clear hq
  cases hw1 : wB bx by' cx cy px py
  · have hC : covB ax ay bx by' cx cy px py = false := by simp [covB, hw1]
    go_wp2
    go_ret
    exact ⟨by rw [hC]; rfl, e9⟩
  go_wp2
  clear U9 cU9 V9 cV9
  rw [rounds_succ]
  go_wp2_with fail
  apply wp_region_vars [false, false, false, false, false, false, false, false, true, true, true, true] [] [⟨some 8, 6, 0, some 10, 37, #[.int .i64 0, .int .i64 0], #[.int .i64 cx, .int .i64 cy]⟩, ⟨some 9, 7, 0, some 11, 37, #[.int .i64 0, .int .i64 0], #[.int .i64 ax, .int .i64 ay]⟩] _ (by kernel_rfl) (by kernel_rfl) (by kernel_rfl)
  case H =>
    intro x hx
    have hne : Nonempty (Wx x) := ⟨⟨x, Ext.refl x⟩⟩
    have q0 := fun (y : Wx x) => ((T9.calm hx (by simp)).ext y.ext).cell
    simp only [eraseM]
    repeat (go_big_quiet_step (fail))
    exact wpQuiet_nil rfl
  case hok =>
    simp only [List.forall_mem_cons, List.not_mem_nil, false_implies, implies_true, and_true]
    refine ⟨tgt_fresh (by simp) rfl rfl mkQ rfl rfl rfl rfl (by kernel_rfl) (by kernel_rfl) rfl, tgt_fresh (by simp) rfl rfl mkQ rfl rfl rfl rfl (by kernel_rfl) (by kernel_rfl) rfl⟩
  case hdis =>
    intro k k' t t' hk hk' _ ha
    exfalso
    have := List.mem_of_getElem? hk
    simp only [List.mem_cons, List.not_mem_nil, or_false] at this
    rcases this with rfl | rfl <;> cases ha
  rintro w10 f hw ⟨k0, l0, d0, -, k1, l1, d1, -, -⟩
  have hx10 := hw.ext
  clear hw
  have T10 := T9.ext hx10
  have cT10 := T10.cell
  have P10 := P9.ext hx10
  have cP10 := P10.cell
  clear T9 cT9 P9 cP9
  have e10 := e9.trans hx10
  clear e9 hx10
  have U10 : Blk w10 (f 0) #[.int .i64 cx, .int .i64 cy] 37 := d0
  have V10 : Blk w10 (f 1) #[.int .i64 ax, .int .i64 ay] 37 := d1
  clear k0 l0 d0 k1 l1 d1
  simp only [pairs, putAll, Option.isSome_some, if_true, Act.put, List.setIfInBounds_toArray, List.set_cons_succ, List.set_cons_zero]
  generalize f 0 = gu at *
  generalize f 1 = gv at *
  clear f
  have cU10 := U10.cell
  have cV10 := V10.cell
  go_wp2_with fail
  refine (rside_any _ _ _ _ _ _ (by omega) (by omega) (by omega) (by omega) (by omega) (by omega) _).mono ?_
  rintro e w11 ⟨rfl, hx11⟩
  have T11 := T10.ext hx11
  have cT11 := T11.cell
  have P11 := P10.ext hx11
  have cP11 := P11.cell
  have U11 := U10.ext hx11
  have cU11 := U11.cell
  have V11 := V10.ext hx11
  have cV11 := V11.cell
  clear T10 cT10 P10 cP10 U10 cU10 V10 cV10
  have e11 := e10.trans hx11
  clear e10 hx11
  rcases Int.lt_or_le (sd cx cy ax ay px py) 0 with hn2 | hn2
  case inl =>
    have d1 : decide (sd cx cy ax ay px py < 0) = true := by simpa using hn2
    have hw2 : wB cx cy ax ay px py = false := by
      unfold wB
      rw [decide_eq_false (by omega), decide_eq_false (by omega)]
      rfl
    have hC : covB ax ay bx by' cx cy px py = false := by simp [covB, hw2]
    go_wp2
    go_ret
    exact ⟨by rw [hC]; rfl, e11⟩
  have d1 : decide (sd cx cy ax ay px py < 0) = false := by simpa using hn2
  have hq := wB_ref (show ¬ sd cx cy ax ay px py < 0 by omega)
  clear hn2
  go_wp2
  apply wp_region_reads2 _ (by kernel_rfl) (by kernel_rfl)
  case H =>
    intro x hx
    have hne : Nonempty (Wx x) := ⟨⟨x, Ext.refl x⟩⟩
    have qU := fun (y : Wx x) => (U11.ext (hx.trans y.ext)).cell
    have qV := fun (y : Wx x) => (V11.ext (hx.trans y.ext)).cell
    try simp only [List.append_eq, List.cons_append, List.nil_append]
    repeat (go_big_quiet_step ((go_at_call 51; exact calm_eq (rnear_any _ _ (by omega) (by omega)))))
    exact wpQuiet_nil rfl
  intro w12 hx12
  have T12 := T11.ext hx12
  have cT12 := T12.cell
  have P12 := P11.ext hx12
  have cP12 := P12.cell
  have U12 := U11.ext hx12
  have cU12 := U12.cell
  have V12 := V11.ext hx12
  have cV12 := V12.cell
  clear T11 cT11 P11 cP11 U11 cU11 V11 cV11
  have e12 := e11.trans hx12
  clear e11 hx12
  go_upto_region 11 with fail
  go_cut [10] (fun o wx => o = .bool ((nr ay == nr cy) && decide (nr cx < nr ax)) ∧ Ext w12 wx)
  case first =>
    cases he : (nr ay == nr cy)
    all_goals
      apply wp_region_reads2 _ (by kernel_rfl) (by kernel_rfl)
      case H =>
        intro x hx
        have hne : Nonempty (Wx x) := ⟨⟨x, Ext.refl x⟩⟩
        have qU := fun (y : Wx x) => (U12.ext (hx.trans y.ext)).cell
        have qV := fun (y : Wx x) => (V12.ext (hx.trans y.ext)).cell
        try simp only [List.append_eq, List.cons_append, List.nil_append]
        repeat (go_big_quiet_step ((go_at_call 51; exact calm_eq (rnear_any _ _ (by omega) (by omega)))))
        exact wpQuiet_nil rfl
      intro wy hxy
      go_wp2
      go_meet
      exact ⟨by rw [he]; rfl, hxy⟩
  obtain ⟨rfl, hx13⟩ := hcut
  generalize wc = w13 at *
  have T13 := T12.ext hx13
  have cT13 := T13.cell
  have P13 := P12.ext hx13
  have cP13 := P13.cell
  have U13 := U12.ext hx13
  have cU13 := U13.cell
  have V13 := V12.ext hx13
  have cV13 := V13.cell
  clear T12 cT12 P12 cP12 U12 cU12 V12 cV12
  have e13 := e12.trans hx13
  clear e12 hx13
  generalize ((nr ay == nr cy) && decide (nr cx < nr ax)) = L at *
  generalize decide (nr ay < nr cy) = U at *
  go_upto_region 12 with fail
  go_cut [9, 10, 69] (fun _ _ o wx => o = .bool ((sd cx cy ax ay px py == 0) && (!U && !L)) ∧ w13 = wx)
  case first =>
    clear hq
    cases hz : (sd cx cy ax ay px py == 0) <;> cases U <;> cases L <;> (go_wp2; go_meet; exact ⟨by rw [hz]; rfl, rfl⟩)
  obtain ⟨rfl, rfl⟩ := hcut
  rw [hq]
  clear hq
  cases hw2 : wB cx cy ax ay px py
  · have hC : covB ax ay bx by' cx cy px py = false := by simp [covB, hw2]
    go_wp2
    go_ret
    exact ⟨by rw [hC]; rfl, e13⟩
  go_wp2
  clear U13 cU13 V13 cV13
  have hC : covB ax ay bx by' cx cy px py = true := by simp [covB, hA, hw0, hw1, hw2]
  rw [rounds_succ]
  go_wp2
  go_ret
  exact ⟨by rw [hC]; rfl, e13⟩
end Go.Proofs.Ytglehnmkdapnpaa

namespace Go.Proofs.Ytglehnmkdapnpaa
end Go.Proofs.Ytglehnmkdapnpaa

namespace Go.Proofs.Ytglehnmkdapnpaa
open Go.RowKit
set_option linter.unusedVariables false

theorem idxS (x0 x1 y0 y1 z0 z1 : Value) (w : World) :
    (Instr.index 69 (.agg #[x0, x1, y0, y1, z0, z1]) (.int .i64 0)).run Try.prog w = .ok (.agg #[x0, x1]) w ∧
    (Instr.index 69 (.agg #[x0, x1, y0, y1, z0, z1]) (.int .i64 1)).run Try.prog w = .ok (.agg #[y0, y1]) w ∧
    (Instr.index 69 (.agg #[x0, x1, y0, y1, z0, z1]) (.int .i64 2)).run Try.prog w = .ok (.agg #[z0, z1]) w := by
  refine ⟨?_, ?_, ?_⟩ <;> simp [Instr.index, asIntOf, run_underlying Try.underlying69, go_sem, part]
set_option maxRecDepth 100000 in
set_option maxHeartbeats 800000 in
theorem smallTri_any (s0 s1 s2 s3 s4 s5 : Int) (hs0 : -128 ≤ s0 ∧ s0 ≤ 127) (hs1 : -128 ≤ s1 ∧ s1 ≤ 127) (hs2 : -128 ≤ s2 ∧ s2 ≤ 127) (hs3 : -128 ≤ s3 ∧ s3 ≤ 127) (hs4 : -128 ≤ s4 ∧ s4 ≤ 127) (hs5 : -128 ≤ s5 ∧ s5 ≤ 127) (w : World) :
    Calls Try.prog 38 #[.agg #[.int .i8 s0, .int .i8 s1, .int .i8 s2, .int .i8 s3, .int .i8 s4, .int .i8 s5]] w fun e w' => e = .returned (.agg #[.int .i64 s0, .int .i64 s1, .int .i64 s2, .int .i64 s3, .int .i64 s4, .int .i64 s5]) ∧ Ext w w' := by
  have hI := idxS
  go_enter Try.func38, Try.ntmps38
  go_wp2
  refine wp_loop_rounds 4 ?_
  rw [rounds_succ]
  go_wp2
  rw [rounds_succ]
  go_wp2
  rw [rounds_succ]
  go_wp2
  rw [rounds_succ]
  go_wp2
  refine bodyPost_ret (v := .agg #[.int .i64 s0, .int .i64 s1, .int .i64 s2, .int .i64 s3, .int .i64 s4, .int .i64 s5]) (by simp [results, Try.results38, go_sem]) rfl ⟨rfl, ?_⟩
  repeat (first | exact Ext.refl _ | apply Ext.drew | apply Ext.drewN | apply Ext.alloc)
end Go.Proofs.Ytglehnmkdapnpaa

namespace Go.Proofs.Ytglehnmkdapnpaa
open Go.RowKit
set_option linter.unusedVariables false

theorem eqP (x0 y0 x1 y1 : Int) (w : World) : (Op.equalIn 10000 50 (.agg #[.int .i64 x0, .int .i64 y0]) (.agg #[.int .i64 x1, .int .i64 y1])).run Try.prog w = .ok (x0 == x1 && y0 == y1) w := by
  show (Op.equalIn (9999 + 1) _ _ _).run Try.prog w = _
  unfold Op.equalIn
  simp [run_underlying Try.underlying50, go_sem, part]
  cases h1 : (x0 == x1) <;> cases h2 : (y0 == y1) <;> simp_all
theorem nr8 {x : Int} (h : -128 ≤ x ∧ x ≤ 127) : nr x = x := nr_id (by omega) (by omega)
theorem sd_turn (ax ay bx by' cx cy : Int) : sd bx by' cx cy ax ay = sd ax ay bx by' cx cy := Edge.side_turn _ _ _ _ _ _
theorem sd_swap (ax ay bx by' cx cy : Int) : sd ax ay cx cy bx by' = - sd ax ay bx by' cx cy := Edge.side_swap _ _ _ _ _ _
theorem sd_anti (ax ay bx by' px py : Int) : sd bx by' ax ay px py = - sd ax ay bx by' px py := Edge.side_anti _ _ _ _ _ _
theorem covB_turn (ax ay bx by' cx cy px py : Int) : covB bx by' cx cy ax ay px py = covB ax ay bx by' cx cy px py := by
  rw [Bool.eq_iff_iff, covB_iff, covB_iff]; exact Edge.cov_turn
theorem covB_no {ax ay bx by' cx cy : Int} (h : sd ax ay bx by' cx cy ≤ 0) (px py : Int) : covB ax ay bx by' cx cy px py = false := by
  unfold covB; rw [decide_eq_false (by omega)]; rfl
theorem ownB_other {ax ay bx by' : Int} (h : ¬ (nr ax = nr bx ∧ nr ay = nr by')) : ownB bx by' ax ay = !ownB ax ay bx by' := by
  have h1 := Edge.own_either h
  have h2 := ownB_iff ax ay bx by'
  have h3 := ownB_iff bx by' ax ay
  cases e1 : ownB ax ay bx by' <;> cases e2 : ownB bx by' ax ay <;> simp_all
end Go.Proofs.Ytglehnmkdapnpaa

