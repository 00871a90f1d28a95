/-
  DERIVED. Layer 11 (script): Same: whether two scripts are the same. · Layer 11 (script): Same: slices of numbers and of instructions, element by element (made by mkscrsame.py). · Layer 11 (script): Same: a vertex, a program, a draw (made by mkscrsame.py).
-/
import Derived.Test.YtbbfmlehddfneaaGreatPkChk
import Derived.Test.YtbbfmlehddfneaaGreatPkTake
import Derived.Test.YtbbfmlehddfneaaGreatPkMesh
import Derived.Deep.LoopGhost
namespace Go.Proofs.YtbbfmlehddfneaaGreat
open Go.RowKit
set_option linter.unusedVariables false

theorem eqB4d (d : Nat) (a0 a1 a2 a3 b0 b1 b2 b3 : Int) (w : World) : (Op.equalIn (d + 2) 31 (.agg #[.int .i64 a0, .int .i64 a1, .int .i64 a2, .int .i64 a3]) (.agg #[.int .i64 b0, .int .i64 b1, .int .i64 b2, .int .i64 b3])).run Tryz.prog w = .ok (decide (a0 = b0 ∧ a1 = b1 ∧ a2 = b2 ∧ a3 = b3)) w := by
  unfold Op.equalIn
  simp [run_underlying Tryz.underlying31, go_sem, part, List.range', List.forIn_cons]
  by_cases h0 : a0 = b0 <;> by_cases h1 : a1 = b1 <;> by_cases h2 : a2 = b2 <;> by_cases h3 : a3 = b3 <;> simp [h0, h1, h2, h3]
set_option maxRecDepth 100000 in
theorem eqM16 (a0 a1 a2 a3 a4 a5 a6 a7 a8 a9 a10 a11 a12 a13 a14 a15 b0 b1 b2 b3 b4 b5 b6 b7 b8 b9 b10 b11 b12 b13 b14 b15 : Int) (w : World) : (Op.equalIn 10000 33 (.agg #[.int .i64 a0, .int .i64 a1, .int .i64 a2, .int .i64 a3, .int .i64 a4, .int .i64 a5, .int .i64 a6, .int .i64 a7, .int .i64 a8, .int .i64 a9, .int .i64 a10, .int .i64 a11, .int .i64 a12, .int .i64 a13, .int .i64 a14, .int .i64 a15]) (.agg #[.int .i64 b0, .int .i64 b1, .int .i64 b2, .int .i64 b3, .int .i64 b4, .int .i64 b5, .int .i64 b6, .int .i64 b7, .int .i64 b8, .int .i64 b9, .int .i64 b10, .int .i64 b11, .int .i64 b12, .int .i64 b13, .int .i64 b14, .int .i64 b15])).run Tryz.prog w = .ok (decide ([a0, a1, a2, a3, a4, a5, a6, a7, a8, a9, a10, a11, a12, a13, a14, a15] = [b0, b1, b2, b3, b4, b5, b6, b7, b8, b9, b10, b11, b12, b13, b14, b15])) w := by
  have h := eqB4d 9997
  unfold Op.equalIn
  simp [run_underlying Tryz.underlying33, go_sem, part, List.range', List.forIn_cons, h]
  repeat' split
  all_goals simp_all
set_option maxRecDepth 100000 in
theorem eqIn2 (x y : In) (w : World) : (Op.equalIn 10000 54 (.agg #[.int .u8 x.op, .int .u8 x.dst, .int .u8 x.a, .int .u8 x.b, .int .i16 x.imm]) (.agg #[.int .u8 y.op, .int .u8 y.dst, .int .u8 y.a, .int .u8 y.b, .int .i16 y.imm])).run Tryz.prog w = .ok (decide (x = y)) w := by
  obtain ⟨a0, a1, a2, a3, a4⟩ := x
  obtain ⟨b0, b1, b2, b3, b4⟩ := y
  unfold Op.equalIn
  simp [run_underlying Tryz.underlying54, go_sem, part, List.forIn_cons]
  repeat' split
  all_goals simp_all
set_option maxRecDepth 100000 in
set_option maxHeartbeats 2000000 in
theorem eqSt2 (s t : Stt) (w : World) : (Op.equalIn 10000 64 (.agg s.v) (.agg t.v)).run Tryz.prog w = .ok (decide (s = t)) w := by
  by_cases h : s = t
  · subst h
    rw [eqS]
    simp
  · rw [decide_eq_false h]
    obtain ⟨a0, a1, a2, a3, a4, a5, a6, a7, a8, a9, a10, a11, a12, a13, a14⟩ := s
    obtain ⟨b0, b1, b2, b3, b4, b5, b6, b7, b8, b9, b10, b11, b12, b13, b14⟩ := t
    have H := Lib.hid h
    clear h
    unfold Op.equalIn
    simp [run_underlying Tryz.underlying64, go_sem, part, List.forIn_cons]
    repeat' split
    all_goals first
      | rfl
      | (intros; apply H.out; subst_vars; rfl)
      | (intros; intro _; apply H.out; subst_vars; rfl)
theorem eqU4d (d : Nat) (a0 a1 a2 a3 b0 b1 b2 b3 : Int) (w : World) : (Op.equalIn (d + 2) 65 (.agg #[.int .u8 a0, .int .u8 a1, .int .u8 a2, .int .u8 a3]) (.agg #[.int .u8 b0, .int .u8 b1, .int .u8 b2, .int .u8 b3])).run Tryz.prog w = .ok (decide (a0 = b0 ∧ a1 = b1 ∧ a2 = b2 ∧ a3 = b3)) w := by
  unfold Op.equalIn
  simp [run_underlying Tryz.underlying65, go_sem, part, List.range', List.forIn_cons]
  by_cases h0 : a0 = b0 <;> by_cases h1 : a1 = b1 <;> by_cases h2 : a2 = b2 <;> by_cases h3 : a3 = b3 <;> simp [h0, h1, h2, h3]
set_option maxRecDepth 100000 in
theorem eqCl2 (s t : Clr) (w : World) : (Op.equalIn 10000 67 (.agg s.l.toArray) (.agg t.l.toArray)).run Tryz.prog w = .ok (decide (s = t)) w := by
  obtain ⟨a0, a1, a2, a3, a4, a5, a6⟩ := s
  obtain ⟨b0, b1, b2, b3, b4, b5, b6⟩ := t
  have h := eqU4d 9997
  unfold Op.equalIn
  simp [run_underlying Tryz.underlying67, go_sem, part, List.forIn_cons, h]
  repeat' split
  all_goals simp_all
end Go.Proofs.YtbbfmlehddfneaaGreat

namespace Go.Proofs.YtbbfmlehddfneaaGreat
open Go.RowKit
set_option linter.unusedVariables false
set_option maxRecDepth 100000 in
set_option maxHeartbeats 1000000 in
theorem eqInts_any (w : World) (v q : Value) (l m : List Int) (hl : Arr w .i64 v l) (hm : Arr w .i64 q m) (hll : l.length ≤ 1000000) (hlm : m.length ≤ 1000000) : Calls Tryz.prog 60 #[v, q] w fun e w' => e = .returned (.bool (decide (l = m))) ∧ Ext w w' := by
  have A := hl
  have B := hm
  obtain ⟨⟨ao, cc, rfl, -⟩, -, -⟩ := hl
  obtain ⟨⟨bo, dd, rfl, -⟩, -, -⟩ := hm
  have hlI : (l.length : Int) ≤ 1000000 := by omega
  go_enter Tryz.func60, Tryz.ntmps60
  by_cases hne : l.length = m.length
  · have HNE := Lib.hid hne
    have hneI : (l.length : Int) = (m.length : Int) := by omega
    have hneb : ((l.length : Int) != (m.length : Int)) = false := by simp [hneI]
    clear hne
    go_wp2_with fail
    go_loopg [13] l.length (fun n0 iv wx => ∃ (j : Nat), j + n0 = l.length ∧ iv = .int .i64 j ∧ l.take j = m.take j ∧ Ext w wx)
    case atStart => exact ⟨0, by omega, by simp, by simp, Ext.refl _⟩
    case round =>
      obtain ⟨j, hjk, rfl, hz, e1⟩ := hrel
      have HZ := Lib.hid hz
      clear hz
      by_cases hj : j < l.length
      · have hjI : (j : Int) < (l.length : Int) := by omega
        have hjm : j < m.length := by have := HNE.out; omega
        have hjmI : (j : Int) < (m.length : Int) := by omega
        obtain ⟨g, off, e0, -, hc⟩ := (A.ext e1).at j hj
        cases e0
        obtain ⟨g2, off2, e0, -, hd⟩ := (B.ext e1).at j hjm
        cases e0
        have c0 := hc j hj
        have d0 := hd j hjm
        have hlj : l[j]? = some (l.getD j 0) := by simp [List.getD, hj]
        have hmj : m[j]? = some (m.getD j 0) := by simp [List.getD, hjm]
        generalize l.getD j 0 = y at *
        generalize m.getD j 0 = z at *
        have HJ := Lib.hid hlj
        have HK := Lib.hid hmj
        clear hlj hmj hc hd
        go_upto_region 6 with fail
        apply wp_region_reads2 _ (by kernel_rfl) (by kernel_rfl)
        case H =>
          intro x hx
          have hne : Nonempty (Wx x) := ⟨⟨x, Ext.refl x⟩⟩
          have q0 := fun (y : Wx x) => y.ext.old (hx.old c0)
          have q1 := fun (y : Wx x) => y.ext.old (hx.old d0)
          repeat (go_big_quiet_step (fail))
          exact wpQuiet_nil rfl
        intro w3 hx3
        have e3 := e1.trans hx3
        by_cases hyz : y = z
        · subst hyz
          go_wp2
          go_roundg (gk - 1)
          case measure => omega
          case rel => exact ⟨j + 1, by omega, by simp, by rw [List.take_add_one, List.take_add_one, HJ.out, HK.out, HZ.out], e3⟩
        · have hF : decide (l = m) = false := by
            simp only [decide_eq_false_iff_not]
            intro h
            have h1 := HJ.out
            rw [h, HK.out] at h1
            exact hyz (Option.some.inj h1).symm
          have HF := Lib.hid hF
          clear hF
          go_wp2
          go_ret
          exact ⟨by rw [HF.out]; rfl, e3⟩
      · obtain rfl : j = l.length := by omega
        have hT : decide (l = m) = true := by
          have h1 := HZ.out
          rw [List.take_length, HNE.out, List.take_length] at h1
          simpa using h1
        have HT := Lib.hid hT
        clear hT
        go_wp2
        go_ret
        exact ⟨by rw [HT.out]; rfl, e1⟩
  · have hF : decide (l = m) = false := by
      simp only [decide_eq_false_iff_not]
      intro h
      exact hne (by rw [h])
    have hneI : ¬ (l.length : Int) = (m.length : Int) := by omega
    rw [hF]
    go_wp2
    go_ret
    exact ⟨rfl, Ext.refl _⟩
set_option maxRecDepth 100000 in
set_option maxHeartbeats 1000000 in
theorem eqProg_any (w : World) (v q : Value) (l m : List In) (hl : PArr w v l) (hm : PArr w q m) (hll : l.length ≤ 1000000) (hlm : m.length ≤ 1000000) : Calls Tryz.prog 59 #[v, q] w fun e w' => e = .returned (.bool (decide (l = m))) ∧ Ext w w' := by
  have A := hl
  have B := hm
  obtain ⟨ao, cc, rfl, -⟩ := hl
  obtain ⟨bo, dd, rfl, -⟩ := hm
  have hlI : (l.length : Int) ≤ 1000000 := by omega
  go_enter Tryz.func59, Tryz.ntmps59
  by_cases hne : l.length = m.length
  · have HNE := Lib.hid hne
    have hneI : (l.length : Int) = (m.length : Int) := by omega
    have hneb : ((l.length : Int) != (m.length : Int)) = false := by simp [hneI]
    clear hne
    go_wp2_with fail
    go_loopg [13] l.length (fun n0 iv wx => ∃ (j : Nat), j + n0 = l.length ∧ iv = .int .i64 j ∧ l.take j = m.take j ∧ Ext w wx)
    case atStart => exact ⟨0, by omega, by simp, by simp, Ext.refl _⟩
    case round =>
      obtain ⟨j, hjk, rfl, hz, e1⟩ := hrel
      have HZ := Lib.hid hz
      clear hz
      by_cases hj : j < l.length
      · have hjI : (j : Int) < (l.length : Int) := by omega
        have hjm : j < m.length := by have := HNE.out; omega
        have hjmI : (j : Int) < (m.length : Int) := by omega
        obtain ⟨g, off, y, e0, -, hlj, c0, c1, c2, c3, c4⟩ := (A.ext e1).nth j hj
        cases e0
        obtain ⟨g2, off2, z, e0, -, hmj, d0, d1, d2, d3, d4⟩ := (B.ext e1).nth j hjm
        cases e0
        have HJ := Lib.hid hlj
        have HK := Lib.hid hmj
        clear hlj hmj
        obtain ⟨c, hc⟩ : ∃ c, decide (y = z) = c := ⟨_, rfl⟩
        have HC := Lib.hid hc
        clear hc
        go_upto_region 6 with fail
        apply wp_region_reads2 _ (by kernel_rfl) (by kernel_rfl)
        case H =>
          intro x hx
          have hne : Nonempty (Wx x) := ⟨⟨x, Ext.refl x⟩⟩
          have q0 := fun (y : Wx x) => y.ext.old (hx.old c0)
          have q1 := fun (y : Wx x) => y.ext.old (hx.old c1)
          have q2 := fun (y : Wx x) => y.ext.old (hx.old c2)
          have q3 := fun (y : Wx x) => y.ext.old (hx.old c3)
          have q4 := fun (y : Wx x) => y.ext.old (hx.old c4)
          have r0 := fun (y : Wx x) => y.ext.old (hx.old d0)
          have r1 := fun (y : Wx x) => y.ext.old (hx.old d1)
          have r2 := fun (y : Wx x) => y.ext.old (hx.old d2)
          have r3 := fun (y : Wx x) => y.ext.old (hx.old d3)
          have r4 := fun (y : Wx x) => y.ext.old (hx.old d4)
          have hE := fun u => (by have := eqIn2 y z u; rw [HC.out] at this; exact this : (Op.equalIn 10000 54 (.agg #[.int .u8 y.op, .int .u8 y.dst, .int .u8 y.a, .int .u8 y.b, .int .i16 y.imm]) (.agg #[.int .u8 z.op, .int .u8 z.dst, .int .u8 z.a, .int .u8 z.b, .int .i16 z.imm])).run Tryz.prog u = .ok c u)
          repeat (go_big_quiet_step (fail))
          exact wpQuiet_nil rfl
        intro w3 hx3
        have e3 := e1.trans hx3
        by_cases hyz : y = z
        · subst hyz
          obtain rfl : c = true := by rw [← HC.out]; simp
          go_wp2
          go_roundg (gk - 1)
          case measure => omega
          case rel => exact ⟨j + 1, by omega, by simp, by rw [List.take_add_one, List.take_add_one, HJ.out, HK.out, HZ.out], e3⟩
        · have hF : decide (l = m) = false := by
            simp only [decide_eq_false_iff_not]
            intro h
            have h1 := HJ.out
            rw [h, HK.out] at h1
            exact hyz (Option.some.inj h1).symm
          have HF := Lib.hid hF
          clear hF
          obtain rfl : c = false := by rw [← HC.out]; simp [hyz]
          go_wp2
          go_ret
          exact ⟨by rw [HF.out]; rfl, e3⟩
      · obtain rfl : j = l.length := by omega
        have hT : decide (l = m) = true := by
          have h1 := HZ.out
          rw [List.take_length, HNE.out, List.take_length] at h1
          simpa using h1
        have HT := Lib.hid hT
        clear hT
        go_wp2
        go_ret
        exact ⟨by rw [HT.out]; rfl, e1⟩
  · have hF : decide (l = m) = false := by
      simp only [decide_eq_false_iff_not]
      intro h
      exact hne (by rw [h])
    have hneI : ¬ (l.length : Int) = (m.length : Int) := by omega
    rw [hF]
    go_wp2
    go_ret
    exact ⟨rfl, Ext.refl _⟩
end Go.Proofs.YtbbfmlehddfneaaGreat

namespace Go.Proofs.YtbbfmlehddfneaaGreat
open Go.RowKit
set_option linter.unusedVariables false
set_option maxRecDepth 100000 in
theorem samePrograms_any (w : World) (v q : Value) (l m : List In) (hl : PArr w v l) (hm : PArr w q m) (hll : l.length ≤ 1000000) (hlm : m.length ≤ 1000000) : Calls Tryz.prog 37 #[v, q] w fun e w' => e = .returned (.bool (decide (l = m))) ∧ Ext w w' := by
  have h := eqProg_any w v q l m hl hm hll hlm
  go_enter Tryz.func37, Tryz.ntmps37
  go_wp2_with fail
  refine h.mono ?_
  rintro e w1 ⟨rfl, x1⟩
  go_wp2
  go_ret
  exact ⟨rfl, x1⟩
set_option maxRecDepth 100000 in
set_option maxHeartbeats 1000000 in
theorem sameVertex_any (w : World) (x y : V8) : Calls Tryz.prog 35 #[.agg x.l.toArray, .agg y.l.toArray] w fun e w' => e = .returned (.bool (decide (x = y))) ∧ Ext w w' := by
  obtain ⟨a0, a1, a2, a3, a4, a5, a6, a7⟩ := x
  obtain ⟨b0, b1, b2, b3, b4, b5, b6, b7⟩ := y
  have hq1 := fun u => eqB4 a0 a1 a2 a3 b0 b1 b2 b3 u
  have hq2 := fun u => eqB4 a4 a5 a6 a7 b4 b5 b6 b7 u
  have x2 := ((Ext.refl w).alloc #[.int .i64 a0, .int .i64 a1, .int .i64 a2, .int .i64 a3, .int .i64 a4, .int .i64 a5, .int .i64 a6, .int .i64 a7] 51).alloc #[.int .i64 b0, .int .i64 b1, .int .i64 b2, .int .i64 b3, .int .i64 b4, .int .i64 b5, .int .i64 b6, .int .i64 b7] 51
  go_enter Tryz.func35, Tryz.ntmps35
  by_cases h1 : a0 = b0 ∧ a1 = b1 ∧ a2 = b2 ∧ a3 = b3
  · have d1 : decide (a0 = b0 ∧ a1 = b1 ∧ a2 = b2 ∧ a3 = b3) = true := decide_eq_true h1
    rw [d1] at hq1
    have hd : decide ((⟨a0, a1, a2, a3, a4, a5, a6, a7⟩ : V8) = ⟨b0, b1, b2, b3, b4, b5, b6, b7⟩) = decide (a4 = b4 ∧ a5 = b5 ∧ a6 = b6 ∧ a7 = b7) := by
      obtain ⟨rfl, rfl, rfl, rfl⟩ := h1
      simp
    rw [hd]
    obtain ⟨r, hr⟩ : ∃ r, decide (a4 = b4 ∧ a5 = b5 ∧ a6 = b6 ∧ a7 = b7) = r := ⟨_, rfl⟩
    rw [hr] at hq2
    rw [hr]
    clear h1 d1 hd hr
    go_wp2
    go_ret
    exact ⟨rfl, x2⟩
  · have d1 : decide (a0 = b0 ∧ a1 = b1 ∧ a2 = b2 ∧ a3 = b3) = false := decide_eq_false h1
    rw [d1] at hq1
    have hd : decide ((⟨a0, a1, a2, a3, a4, a5, a6, a7⟩ : V8) = ⟨b0, b1, b2, b3, b4, b5, b6, b7⟩) = false := by
      rw [decide_eq_false_iff_not]
      intro e
      injection e with e0 e1 e2 e3
      exact h1 ⟨e0, e1, e2, e3⟩
    rw [hd]
    clear h1 d1 hd
    go_wp2
    go_ret
    exact ⟨rfl, x2⟩
end Go.Proofs.YtbbfmlehddfneaaGreat

