/-
  DERIVED. THE WALKS of layer 9 (state): a state where it lies: defined, Check, Late, Plain.
-/
import Derived.Test.YtokekfjbliojhaaPkState
import Derived.Test.YtokekfjbliojhaaPkFix
import Derived.Deep.DeepCutAuto
namespace Go.Proofs.Ytokekfjbliojhaa
open Go.RowKit
set_option linter.unusedVariables false
set_option maxRecDepth 100000 in
theorem defined_any (s : Stt) (w : World) : Calls Try.prog 26 #[.agg s.v] w fun e w' => e = .returned (.bool s.def) ∧ Ext w w' := by
  obtain ⟨dep, wr, ste, ref, msk, fai, hid, pas, ble, cha, cul, x0, y0, x1, y1⟩ := s
  have B := Blk.new w (Stt.v ⟨dep, wr, ste, ref, msk, fai, hid, pas, ble, cha, cul, x0, y0, x1, y1⟩) 38
  have cB := B.cell
  have x := (Ext.refl w).alloc (Stt.v ⟨dep, wr, ste, ref, msk, fai, hid, pas, ble, cha, cul, x0, y0, x1, y1⟩) 38
  unfold Stt.def
  dsimp only
  generalize hb1 : decide (dep < 8) = b1
  generalize hb2 : decide (ste < 8) = b2
  generalize hb3 : decide (fai < 6) = b3
  generalize hb4 : decide (hid < 6) = b4
  generalize hb5 : decide (pas < 6) = b5
  generalize hb6 : decide (ble < 4) = b6
  generalize hb7 : decide (cul < 3) = b7
  generalize hb8 : decide (cha ≤ 15) = b8
  go_enter Try.func26, Try.ntmps26
  go_upto_region 1 with fail
  go_cut [3] (fun o wx => o = .bool (b1 && b2) ∧ w.alloc (.cells (Stt.v ⟨dep, wr, ste, ref, msk, fai, hid, pas, ble, cha, cul, x0, y0, x1, y1⟩) 38) = wx)
  case first =>
    cases b1
    · go_wp2
      go_meet
      exact ⟨rfl, rfl⟩
    · go_wp2
      go_meet
      exact ⟨by simp, rfl⟩
  obtain ⟨rfl, rfl⟩ := hcut
  go_upto_region 2 with fail
  go_cut [4] (fun o wx => o = .bool (b3 && b4 && b5) ∧ w.alloc (.cells (Stt.v ⟨dep, wr, ste, ref, msk, fai, hid, pas, ble, cha, cul, x0, y0, x1, y1⟩) 38) = wx)
  case first =>
    cases b3
    · go_wp2
      go_meet
      exact ⟨rfl, rfl⟩
    · cases b4
      · go_wp2
        go_meet
        exact ⟨rfl, rfl⟩
      · go_wp2
        go_meet
        exact ⟨by simp, rfl⟩
  obtain ⟨rfl, rfl⟩ := hcut
  generalize hc1 : (b1 && b2) = c1
  generalize hc2 : (b3 && b4 && b5) = c2
  cases c1
  · go_wp2
    go_ret
    exact ⟨by rw [hc1]; rfl, x⟩
  cases c2
  · go_wp2
    go_ret
    exact ⟨by rw [hc1, hc2]; rfl, x⟩
  cases b6
  · go_wp2
    go_ret
    exact ⟨by rw [hc1, hc2]; rfl, x⟩
  cases b7
  · go_wp2
    go_ret
    exact ⟨by rw [hc1, hc2]; rfl, x⟩
  go_wp2
  go_ret
  exact ⟨by rw [hc1, hc2]; rfl, x⟩
set_option maxRecDepth 100000 in
theorem plain_any (w : World) : Calls Try.prog 22 #[] w fun e w' => e = .returned (.agg Stt.plain.v) ∧ Ext w w' := by
  have x' := (Ext.refl w).alloc (Stt.v Stt.plain) 38
  go_enter Try.func22, Try.ntmps22
  go_wp2
  exact bodyPost_ret (v := .agg Stt.plain.v) (results_blk (b := w.heap.size) (t := 0) (ty := 38) rfl rfl (Blk.new w Stt.plain.v 38) Try.underlying38 rfl (by kernel_rfl)) rfl ⟨rfl, x'⟩
set_option maxRecDepth 100000 in
set_option maxHeartbeats 4000000 in
theorem late_any (s : Stt) (w : World) : Calls Try.prog 20 #[.agg s.v] w fun e w' => e = .returned (.bool s.late) ∧ Ext w w' := by
  obtain ⟨dep, wr, ste, ref, msk, fai, hid, pas, ble, cha, cul, x0, y0, x1, y1⟩ := s
  have B := Blk.new w (Stt.v ⟨dep, wr, ste, ref, msk, fai, hid, pas, ble, cha, cul, x0, y0, x1, y1⟩) 38
  have cB := B.cell
  have x := (Ext.refl w).alloc (Stt.v ⟨dep, wr, ste, ref, msk, fai, hid, pas, ble, cha, cul, x0, y0, x1, y1⟩) 38
  unfold Stt.late
  by_cases h1 : ste = 7 <;> by_cases h2 : pas = 0 <;> by_cases h3 : hid = 0 <;> by_cases h4 : ble = 0
  all_goals
    (try subst h1)
    (try subst h2)
    (try subst h3)
    (try subst h4)
    go_enter Try.func20, Try.ntmps20
    go_wp2
    go_ret
    exact ⟨by first | rfl | (simp [*]; done) | (simp [*]; rfl), x⟩
set_option maxRecDepth 100000 in
theorem check_any (s : Stt) (w : World) : Calls Try.prog 16 #[.agg s.v] w fun e w' => e = .returned (.int .i64 s.chk) ∧ Ext w w' := by
  have hd := fun u => defined_any s u
  unfold Stt.chk
  generalize s.def = b0 at *
  obtain ⟨dep, wr, ste, ref, msk, fai, hid, pas, ble, cha, cul, x0, y0, x1, y1⟩ := s
  have B := Blk.new w (Stt.v ⟨dep, wr, ste, ref, msk, fai, hid, pas, ble, cha, cul, x0, y0, x1, y1⟩) 38
  have cB := B.cell
  have x := (Ext.refl w).alloc (Stt.v ⟨dep, wr, ste, ref, msk, fai, hid, pas, ble, cha, cul, x0, y0, x1, y1⟩) 38
  dsimp only
  go_enter Try.func16, Try.ntmps16
  go_wp2_with fail
  refine (hd _).mono ?_
  rintro e w1 ⟨rfl, x1⟩
  have B1 := B.ext x1
  have cB1 := B1.cell
  have e1 := x.trans x1
  clear B cB x x1
  cases b0
  · go_wp2
    go_ret
    exact ⟨rfl, e1⟩
  go_wp2_with fail
  refine (spans_any x0 x1 _).mono ?_
  rintro e w2 ⟨rfl, rfl⟩
  cases hs : spansB x0 x1
  · go_wp2
    go_ret
    exact ⟨rfl, e1⟩
  go_wp2_with fail
  refine (spans_any y0 y1 _).mono ?_
  rintro e w2 ⟨rfl, rfl⟩
  cases hs2 : spansB y0 y1
  · go_wp2
    go_ret
    exact ⟨rfl, e1⟩
  · go_wp2
    go_ret
    exact ⟨rfl, e1⟩
end Go.Proofs.Ytokekfjbliojhaa

