/-
  DERIVED. The walk of the law FixWithin: it returns true, whatever the numbers.
-/
import Derived.Test.YtkplimjodlcdmaaFixAid
namespace Go.Proofs.Ytkplimjodlcdmaa
open Go.RowKit
set_option linter.unusedVariables false

set_option maxHeartbeats 400000 in
theorem fixWithin_walk (a0 : Int) (a1 : Int) (w0 : (Lit.int .i64 a0).wf = true) (w1 : (Lit.int .i64 a1).wf = true) (w : World) :
    Calls Try.prog 5 #[.int .i64 a0, .int .i64 a1] w fun e w' => e = .returned (.bool true) ∧ Grown w w' := by
  obtain ⟨x1, x2⟩ := bd64 w0
  obtain ⟨y1, y2⟩ := bd64 w1
  clear w0 w1
  by_cases h0 : a1 < -1152921504606846976
  · go_enter Try.func5, Try.ntmps5
    go_wp2_with fail
    with_reducible refine (awake_any _).mono ?_
    rintro e w' ⟨rfl, hq⟩
    go_wp2
    go_ret
    exact ⟨rfl, hq.grown⟩
  · have f : withinZ a0 a1 = if a1 < 0 then -a1 else if a1 < a0 then a1 else if a0 < -a1 then -a1 else a0 := by unfold withinZ; omega
    have HF := Lib.hid f
    clear f
    go_enter Try.func5, Try.ntmps5
    go_wp2_with fail
    with_reducible refine (awake_any _).mono ?_
    rintro e w' ⟨rfl, hq⟩
    go_wp2_with fail
    with_reducible refine (within_any _ _ _ (by omega) (by omega) (by omega) (by omega)).mono ?_
    rintro e w'' ⟨rfl, rfl⟩
    rw [HF.out]
    by_cases c1 : a1 < 0
    · rw [if_pos c1]
      go_wp2
      go_ret
      exact ⟨by simp, hq.grown⟩
    · rw [if_neg c1]
      by_cases c2 : a1 < a0
      · rw [if_pos c2]
        go_wp2
        go_ret
        exact ⟨by simp, hq.grown⟩
      · rw [if_neg c2]
        by_cases c3 : a0 < -a1
        · rw [if_pos c3]
          go_wp2
          go_ret
          exact ⟨by simp, hq.grown⟩
        · rw [if_neg c3]
          go_wp2
          go_ret
          exact ⟨by simp, hq.grown⟩

end Go.Proofs.Ytkplimjodlcdmaa
