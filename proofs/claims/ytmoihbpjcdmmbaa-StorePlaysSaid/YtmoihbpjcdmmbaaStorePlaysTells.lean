/-
  DERIVED. Bytes without their sum.
-/
import Derived.Test.YtmoihbpjcdmmbaaStorePlaysAid2
namespace Go.Proofs.Ytmoihbpjcdmmbaa
open Go.RowKit Go.Maps
set_option linter.unusedVariables false

theorem putL_take {l : List Int} (h : l.length = 64) : (putL l).take 64 = l := by
  unfold putL
  rw [← h, List.take_left]
end Go.Proofs.Ytmoihbpjcdmmbaa
