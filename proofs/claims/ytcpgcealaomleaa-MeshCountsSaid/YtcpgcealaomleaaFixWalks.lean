/-
  DERIVED. THE WALKS of layer 1 (fix) and of the document's own answers to it: what each call returns, over every world; nothing but draws happens to the world.
-/
import Derived.Test.YtcpgcealaomleaaRows
import Derived.Test.YtcpgcealaomleaaFixPlain
import Derived.WalkKit
import Derived.WalkSpells
import Derived.WalkLawsBesides
import Derived.Deep.QuietTactic
import Derived.BigQuiet
import Derived.Lib.Hide
namespace Go.Proofs.Ytcpgcealaomleaa
open Go.RowKit
set_option linter.unusedVariables false

/-- the world has been asked for some orders, and nothing else has become of it -/
def Qt (w w' : World) : Prop := ∃ n : Nat, w' = w.drewN n
theorem Qt.refl (w : World) : Qt w w := ⟨0, rfl⟩

theorem ret_int {k : IntKind} {a b : Int} (h : a = b) : Ending.returned (.int k a) = .returned (.int k b) := by rw [h]

theorem Qt.trans {a b c : World} (h1 : Qt a b) (h2 : Qt b c) : Qt a c := by
  obtain ⟨n, rfl⟩ := h1
  obtain ⟨m, rfl⟩ := h2
  exact ⟨n + m, by simp [World.drewN, Nat.add_assoc]⟩

def addZ (a b : Int) : Int := clampZ (clampZ a + clampZ b)
def subZ (a b : Int) : Int := clampZ (clampZ a - clampZ b)
def mulZ (a b : Int) : Int := clampZ (flr (clampZ a * clampZ b) 65536)
def limZ (a : Int) : Int := if 0 < a then 2147483647 else if a < 0 then -2147483647 else 0
def divZ (a b : Int) : Int := if b = 0 then limZ a else clampZ (flr (65536 * clampZ a) (clampZ b))

theorem clampZ_clampZ (a : Int) : clampZ (clampZ a) = clampZ a := clampZ_id (clampZ_bd a).1 (clampZ_bd a).2
theorem mulZ_clamp (a b : Int) : mulZ (clampZ a) (clampZ b) = mulZ a b := by unfold mulZ; rw [clampZ_clampZ, clampZ_clampZ]

end Go.Proofs.Ytcpgcealaomleaa
