/-
  No cell of these rows narrows 'for every input' (looked for: loops, veiled, ifaces, maps, wideKeys, modest, calm, conditions, laid).
  DERIVED. THE GIVEN ROWS OF THIS SEAT. 4 by the template 'for every input the law returns true; each argument reads behind the call as it read before'; 0 by the template 'total and deterministic' (their statements: YtokekfjbliojhaaTotals.lean).
  GIVEN WITH THE SEED: the statements are not yours to turn. If you find one false, say at which input.
  Laid BY PROGRAM, IN A SANDBOX (cutbox-rows.mjs): the forced cells as the released guide's own fill.sh prints them over the translation 144ad695915848ff… (all of the seat's roots in one cut). By AI agents, Wed Nov 11 2026. No macro, syntax, notation, axiom, sorry.
-/
import Derived.Test.YtokekfjbliojhaaChecked
import GoSem.Claim
import GoSem.ClaimJoined
import GoSem.ClaimMapViews
import Derived.JoinedTies
import Derived.KernelRfl
namespace Go.Proofs.Ytokekfjbliojhaa
/- THE CELL 'sum', in the pinned program and in every row, IS THE sha256 OF THE DUMP (.gsa) THAT YtokekfjbliojhaaProg.lean LOADS. Nothing in Lean hashes anything: it is a label: what it is worth is what the hold of that sum in a sandbox is worth. -/
noncomputable def Try.pinned : Pinned := { name := "ytokekfjbliojhaa", sum := "144ad695915848ff1a004357d64d7827b7a9545242d88bbaff033baf096c8084", checked := Try.checked }
namespace Rows
def none {H : Type} : Left H := { results := [], args := [] }

/-- 'azulejolaw09.StateTests': WHATEVER THE INPUT: true; the input reads as it did. -/
def stateTestsSpec : ChangeSpec := { name := "stateTests", fn := fun _ => fun
  | [d1, d2, d3, d4, d5, d6, d7] => { results := [.lit (.bool true)], args := [d1, d2, d3, d4, d5, d6, d7] }
  | _ => none }
def stateTestsRow : OpenClaim := { program := "ytokekfjbliojhaa", sum := "144ad695915848ff1a004357d64d7827b7a9545242d88bbaff033baf096c8084", func := "azulejo/azulejolaw09.StateTests", spec := "stateTests", apart := false }
def StateTestsSaid : Prop := stateTestsRow.holds Try.pinned (OpenSpec.ofChange stateTestsSpec)

/-- ITS FALSE NEIGHBOUR: 'it returns false'. Refute it at one input. -/
def stateTestsWrong : ChangeSpec := { name := "stateTests", fn := fun _ => fun
  | [d1, d2, d3, d4, d5, d6, d7] => { results := [.lit (.bool false)], args := [d1, d2, d3, d4, d5, d6, d7] }
  | _ => none }
def StateTestsWrongFalsely : Prop := stateTestsRow.holds Try.pinned (OpenSpec.ofChange stateTestsWrong)

/-- 'azulejolaw09.StateBack': WHATEVER THE INPUT: true; the input reads as it did. -/
def stateBackSpec : ChangeSpec := { name := "stateBack", fn := fun _ => fun
  | [d] => { results := [.lit (.bool true)], args := [d] }
  | _ => none }
def stateBackRow : OpenClaim := { program := "ytokekfjbliojhaa", sum := "144ad695915848ff1a004357d64d7827b7a9545242d88bbaff033baf096c8084", func := "azulejo/azulejolaw09.StateBack", spec := "stateBack", apart := false }
def StateBackSaid : Prop := stateBackRow.holds Try.pinned (OpenSpec.ofChange stateBackSpec)

/-- ITS FALSE NEIGHBOUR: 'it returns false'. Refute it at one input. -/
def stateBackWrong : ChangeSpec := { name := "stateBack", fn := fun _ => fun
  | [d] => { results := [.lit (.bool false)], args := [d] }
  | _ => none }
def StateBackWrongFalsely : Prop := stateBackRow.holds Try.pinned (OpenSpec.ofChange stateBackWrong)

/-- 'azulejolaw09.StateAny': WHATEVER THE INPUT: true; the input reads as it did. -/
def stateAnySpec : ChangeSpec := { name := "stateAny", fn := fun _ => fun
  | [d1, d2, d3, d4, d5] => { results := [.lit (.bool true)], args := [d1, d2, d3, d4, d5] }
  | _ => none }
def stateAnyRow : OpenClaim := { program := "ytokekfjbliojhaa", sum := "144ad695915848ff1a004357d64d7827b7a9545242d88bbaff033baf096c8084", func := "azulejo/azulejolaw09.StateAny", spec := "stateAny", apart := false }
def StateAnySaid : Prop := stateAnyRow.holds Try.pinned (OpenSpec.ofChange stateAnySpec)

/-- ITS FALSE NEIGHBOUR: 'it returns false'. Refute it at one input. -/
def stateAnyWrong : ChangeSpec := { name := "stateAny", fn := fun _ => fun
  | [d1, d2, d3, d4, d5] => { results := [.lit (.bool false)], args := [d1, d2, d3, d4, d5] }
  | _ => none }
def StateAnyWrongFalsely : Prop := stateAnyRow.holds Try.pinned (OpenSpec.ofChange stateAnyWrong)

/-- 'azulejolaw09.StateOpposites': WHATEVER THE INPUT: true; the input reads as it did. -/
def stateOppositesSpec : ChangeSpec := { name := "stateOpposites", fn := fun _ => fun
  | [d1, d2, d3, d4, d5] => { results := [.lit (.bool true)], args := [d1, d2, d3, d4, d5] }
  | _ => none }
def stateOppositesRow : OpenClaim := { program := "ytokekfjbliojhaa", sum := "144ad695915848ff1a004357d64d7827b7a9545242d88bbaff033baf096c8084", func := "azulejo/azulejolaw09.StateOpposites", spec := "stateOpposites", apart := false }
def StateOppositesSaid : Prop := stateOppositesRow.holds Try.pinned (OpenSpec.ofChange stateOppositesSpec)

/-- ITS FALSE NEIGHBOUR: 'it returns false'. Refute it at one input. -/
def stateOppositesWrong : ChangeSpec := { name := "stateOpposites", fn := fun _ => fun
  | [d1, d2, d3, d4, d5] => { results := [.lit (.bool false)], args := [d1, d2, d3, d4, d5] }
  | _ => none }
def StateOppositesWrongFalsely : Prop := stateOppositesRow.holds Try.pinned (OpenSpec.ofChange stateOppositesWrong)

/- THE SECOND FORM. 'bulk': how many values and letters a reading holds, each counted each time it is reached (what is shared counts as often as it is met; a slice's spare places count too). A statement '..UptoSaid' is the law's where the arguments, and the package variables that the reading takes, are together of bulk at most 1048576: NARROWER than '..Said'. Prove '..Said' where nothing that the law and all that it calls make is longer than what came in: it says more and counts as full. Else prove '..UptoSaid'. A law counts once. -/
mutual
def uptoBulk {H : Type} : DataW H → Nat
  | .lit (.string bytes) => bytes.length + 1
  | .lit _ => 1
  | .nil => 1
  | .ptr d => uptoBulk d + 1
  | .slice elems spare => uptoBulkAll elems + uptoBulkAll spare + 1
  | .agg parts => uptoBulkAll parts + 1
  | .iface _ d => uptoBulk d + 1
  | .map entries => uptoBulkEntries entries + 1
  | .held _ => 1
def uptoBulkAll {H : Type} : List (DataW H) → Nat
  | [] => 0
  | d :: r => uptoBulk d + uptoBulkAll r
def uptoBulkEntries {H : Type} : List (Lit × DataW H) → Nat
  | [] => 0
  | x :: r => uptoBulkEntry x + uptoBulkEntries r
def uptoBulkEntry {H : Type} : Lit × DataW H → Nat
  | (.string bytes, d) => bytes.length + uptoBulk d + 1
  | (_, d) => uptoBulk d + 1
 end
def uptoSmall : (H : Type) → List (DataW H) → Bool := fun _ ds => decide (uptoBulkAll ds ≤ 1048576)
def OpenSpec.upto (s : _root_.Go.ChangeSpec) : _root_.Go.OpenSpec := { _root_.Go.OpenSpec.ofChange s with cond := some uptoSmall }

/-- 'azulejolaw09.StateTests', WHERE WHAT IT READS IS OF BULK AT MOST 1048576: true; the input reads as it did. -/
def stateTestsUptoRow : OpenClaim := { program := "ytokekfjbliojhaa", sum := "144ad695915848ff1a004357d64d7827b7a9545242d88bbaff033baf096c8084", func := "azulejo/azulejolaw09.StateTests", spec := "stateTests", apart := false, narrowed := true }
def StateTestsUptoSaid : Prop := stateTestsUptoRow.holds Try.pinned (OpenSpec.upto stateTestsSpec)

/-- 'azulejolaw09.StateBack', WHERE WHAT IT READS IS OF BULK AT MOST 1048576: true; the input reads as it did. -/
def stateBackUptoRow : OpenClaim := { program := "ytokekfjbliojhaa", sum := "144ad695915848ff1a004357d64d7827b7a9545242d88bbaff033baf096c8084", func := "azulejo/azulejolaw09.StateBack", spec := "stateBack", apart := false, narrowed := true }
def StateBackUptoSaid : Prop := stateBackUptoRow.holds Try.pinned (OpenSpec.upto stateBackSpec)

/-- 'azulejolaw09.StateAny', WHERE WHAT IT READS IS OF BULK AT MOST 1048576: true; the input reads as it did. -/
def stateAnyUptoRow : OpenClaim := { program := "ytokekfjbliojhaa", sum := "144ad695915848ff1a004357d64d7827b7a9545242d88bbaff033baf096c8084", func := "azulejo/azulejolaw09.StateAny", spec := "stateAny", apart := false, narrowed := true }
def StateAnyUptoSaid : Prop := stateAnyUptoRow.holds Try.pinned (OpenSpec.upto stateAnySpec)

/-- 'azulejolaw09.StateOpposites', WHERE WHAT IT READS IS OF BULK AT MOST 1048576: true; the input reads as it did. -/
def stateOppositesUptoRow : OpenClaim := { program := "ytokekfjbliojhaa", sum := "144ad695915848ff1a004357d64d7827b7a9545242d88bbaff033baf096c8084", func := "azulejo/azulejolaw09.StateOpposites", spec := "stateOpposites", apart := false, narrowed := true }
def StateOppositesUptoSaid : Prop := stateOppositesUptoRow.holds Try.pinned (OpenSpec.upto stateOppositesSpec)

end Rows
end Go.Proofs.Ytokekfjbliojhaa
