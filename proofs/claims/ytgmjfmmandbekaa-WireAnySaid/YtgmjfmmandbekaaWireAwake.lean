/-
  DERIVED. The fixed fact of layer 4's laws.
-/
import Derived.Test.YtgmjfmmandbekaaWirePen
namespace Go.Proofs.Ytgmjfmmandbekaa
open Go.RowKit
set_option linter.unusedVariables false
set_option maxRecDepth 100000 in
theorem awake4_any (w : World) :
    Calls Try.prog 7 #[] w fun e w' => e = .returned (.bool true) ∧ Ext w w' := by
  go_enter Try.func7, Try.ntmps7
  go_wp2_with fail
  refine (pen_int (-1) (by omega) _ w.heap.size _ _ _ (Pen.new (Nat.le_refl _)) (by simp) (by simp)).mono ?_
  rintro e w1 ⟨rfl, F1, P1, s1⟩
  have e1 : Ext w w1 := Step.ext ((Ext.refl w).alloc _ _) s1 (by simp)
  have h1 := s1.above (n := w.heap.size) (by simp) (by simp)
  have z1 := e1.size
  go_wp2_with fail
  refine (pen_count 300 (by omega) _ w.heap.size _ _ _ P1 (by simp [show zig (-1) = 1 from rfl, leb_small]) (by omega)).mono ?_
  rintro e w2 ⟨rfl, F2, P2, s2⟩
  have e2 : Ext w w2 := Step.ext e1 s2 h1
  rw [show zig (-1) = 1 from rfl, leb_small (n := 1) (by omega), show (300 : Int).toNat = 300 from rfl, leb_great (n := 300) (by omega), leb_small (n := 300 / 128) (by omega)] at P2
  go_wp2_with fail
  refine (pen_bytes _ _ _ _ _ P2 (by simp) (by simp)).mono ?_
  rintro e w3 ⟨v, rfl, o3, hx3⟩
  have e3 := e2.trans hx3
  have k3 := o3.str
  go_wp2
  go_ret
  exact ⟨congrArg (fun b => Ending.returned (.bool b)) (by rw [ByteArray.toList_eq]; decide), e3⟩
end Go.Proofs.Ytgmjfmmandbekaa
