/-
  DERIVED. The document's own answers for layer 4: azulejoref01.Count, Int.
-/
import Derived.Test.YtkdonkebnnjkkaaBytes
import Derived.Deep.LoopGhost
namespace Go.Proofs.Ytkdonkebnnjkkaa
open Go.RowKit
set_option linter.unusedVariables false
/-- a number with a sign, as one without -/
def zig (n : Int) : Nat := if n < 0 then (-(n + 1)).toNat * 2 + 1 else n.toNat * 2
theorem zig_lt {n : Int} (h : -9223372036854775808 ≤ n ∧ n ≤ 9223372036854775807) : zig n < 18446744073709551616 := by
  unfold zig; split <;> omega
end Go.Proofs.Ytkdonkebnnjkkaa
