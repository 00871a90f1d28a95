/-
  DERIVED. The law's own Awake: it returns true.
-/
import Derived.Test.YthpobegfiflppaaVecByWalk
import Derived.Test.YthpobegfiflppaaEqs
namespace Go.Proofs.Ythpobegfiflppaa
open Go.RowKit
set_option linter.unusedVariables false

set_option maxRecDepth 100000 in
set_option maxHeartbeats 800000 in
theorem awake2_any (w : World) :
    Calls Try.prog 7 #[] w fun e w' => e = .returned (.bool true) ∧ Ext w w' := by
  have e0 : dotZ 65536 0 0 0 1 2 3 (-4) = 1 := by decide +kernel
  have e1 : dotZ 0 65536 0 0 1 2 3 (-4) = 2 := by decide +kernel
  have e2 : dotZ 0 0 65536 0 1 2 3 (-4) = 3 := by decide +kernel
  have e3 : dotZ 0 0 0 65536 1 2 3 (-4) = -4 := by decide +kernel
  have H0 := Lib.hid e0
  have H1 := Lib.hid e1
  have H2 := Lib.hid e2
  have H3 := Lib.hid e3
  clear e0 e1 e2 e3
  have hE := eqV
  go_enter Try.func7, Try.ntmps7
  go_wp2_with fail
  with_reducible refine (unit_any _).mono ?_
  rintro e w1 ⟨rfl, hx1⟩
  go_wp2_with fail
  refine (times_any _ _ _ _ _ _ _ _ _ _ _ _ _ _ _ _ _ _ _ _ (by omega) (by omega) (by omega) (by omega) (by omega) (by omega) (by omega) (by omega) (by omega) (by omega) (by omega) (by omega) (by omega) (by omega) (by omega) (by omega) (by omega) (by omega) (by omega) (by omega) _).mono ?_
  rintro e w2 ⟨rfl, hx2⟩
  rw [H0.out, H1.out, H2.out, H3.out]
  go_wp2
  go_ret
  exact ⟨rfl, hx1.trans hx2⟩

end Go.Proofs.Ythpobegfiflppaa
