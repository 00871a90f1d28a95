/-
  No cell of these rows narrows 'for every input' (looked for: loops, veiled, ifaces, maps, wideKeys, modest, calm, conditions, laid).
  DERIVED. THE GIVEN ROWS OF THIS SEAT. 6 by the template 'for every input the law returns true; each argument reads behind the call as it read before'; 0 by the template 'total and deterministic' (their statements: YtellfhnfifgpoaaTotals.lean).
  GIVEN WITH THE SEED: the statements are not yours to turn. If you find one false, say at which input.
  Laid BY PROGRAM, IN A SANDBOX (cutbox-rows.mjs): the forced cells as the released guide's own fill.sh prints them over the translation 9dc7d44e9f6e3e43… (all of the seat's roots in one cut). By AI agents, Wed Nov 11 2026. No macro, syntax, notation, axiom, sorry.
-/
import Derived.Test.YtellfhnfifgpoaaChecked
import GoSem.Claim
import GoSem.ClaimJoined
import GoSem.ClaimMapViews
import Derived.JoinedTies
import Derived.KernelRfl
namespace Go.Proofs.Ytellfhnfifgpoaa
/- THE CELL 'sum', in the pinned program and in every row, IS THE sha256 OF THE DUMP (.gsa) THAT YtellfhnfifgpoaaProg.lean LOADS. Nothing in Lean hashes anything: it is a label: what it is worth is what the hold of that sum in a sandbox is worth. -/
noncomputable def Try.pinned : Pinned := { name := "ytellfhnfifgpoaa", sum := "9dc7d44e9f6e3e43588fa30a7583ef418137e2f48a6d156389299cc2cbba9cd2", checked := Try.checked }
namespace Rows
def none {H : Type} : Left H := { results := [], args := [] }

/-- 'azulejolaw08.VmRuns': WHATEVER THE INPUT: true; the input reads as it did. -/
def vmRunsSpec : ChangeSpec := { name := "vmRuns", fn := fun _ => fun
  | [d1, d2, d3] => { results := [.lit (.bool true)], args := [d1, d2, d3] }
  | _ => none }
def vmRunsRow : OpenClaim := { program := "ytellfhnfifgpoaa", sum := "9dc7d44e9f6e3e43588fa30a7583ef418137e2f48a6d156389299cc2cbba9cd2", func := "azulejo/azulejolaw08.VmRuns", spec := "vmRuns", unfollowed := true, recurses := true, apart := false }
def VmRunsSaid : Prop := vmRunsRow.holds Try.pinned (OpenSpec.ofChange vmRunsSpec)

/-- ITS FALSE NEIGHBOUR: 'it returns false'. Refute it at one input. -/
def vmRunsWrong : ChangeSpec := { name := "vmRuns", fn := fun _ => fun
  | [d1, d2, d3] => { results := [.lit (.bool false)], args := [d1, d2, d3] }
  | _ => none }
def VmRunsWrongFalsely : Prop := vmRunsRow.holds Try.pinned (OpenSpec.ofChange vmRunsWrong)

/-- 'azulejolaw08.VmPlaces': WHATEVER THE INPUT: true; the input reads as it did. -/
def vmPlacesSpec : ChangeSpec := { name := "vmPlaces", fn := fun _ => fun
  | [d1, d2, d3, d4, d5, d6, d7] => { results := [.lit (.bool true)], args := [d1, d2, d3, d4, d5, d6, d7] }
  | _ => none }
def vmPlacesRow : OpenClaim := { program := "ytellfhnfifgpoaa", sum := "9dc7d44e9f6e3e43588fa30a7583ef418137e2f48a6d156389299cc2cbba9cd2", func := "azulejo/azulejolaw08.VmPlaces", spec := "vmPlaces", unfollowed := true, recurses := true, apart := false }
def VmPlacesSaid : Prop := vmPlacesRow.holds Try.pinned (OpenSpec.ofChange vmPlacesSpec)

/-- ITS FALSE NEIGHBOUR: 'it returns false'. Refute it at one input. -/
def vmPlacesWrong : ChangeSpec := { name := "vmPlaces", fn := fun _ => fun
  | [d1, d2, d3, d4, d5, d6, d7] => { results := [.lit (.bool false)], args := [d1, d2, d3, d4, d5, d6, d7] }
  | _ => none }
def VmPlacesWrongFalsely : Prop := vmPlacesRow.holds Try.pinned (OpenSpec.ofChange vmPlacesWrong)

/-- 'azulejolaw08.VmNone': WHATEVER THE INPUT: true; the input reads as it did. -/
def vmNoneSpec : ChangeSpec := { name := "vmNone", fn := fun _ => fun
  | [d1, d2, d3, d4, d5, d6] => { results := [.lit (.bool true)], args := [d1, d2, d3, d4, d5, d6] }
  | _ => none }
def vmNoneRow : OpenClaim := { program := "ytellfhnfifgpoaa", sum := "9dc7d44e9f6e3e43588fa30a7583ef418137e2f48a6d156389299cc2cbba9cd2", func := "azulejo/azulejolaw08.VmNone", spec := "vmNone", unfollowed := true, recurses := true, apart := false }
def VmNoneSaid : Prop := vmNoneRow.holds Try.pinned (OpenSpec.ofChange vmNoneSpec)

/-- ITS FALSE NEIGHBOUR: 'it returns false'. Refute it at one input. -/
def vmNoneWrong : ChangeSpec := { name := "vmNone", fn := fun _ => fun
  | [d1, d2, d3, d4, d5, d6] => { results := [.lit (.bool false)], args := [d1, d2, d3, d4, d5, d6] }
  | _ => none }
def VmNoneWrongFalsely : Prop := vmNoneRow.holds Try.pinned (OpenSpec.ofChange vmNoneWrong)

/-- 'azulejolaw08.VmJoins': WHATEVER THE INPUT: true; the input reads as it did. -/
def vmJoinsSpec : ChangeSpec := { name := "vmJoins", fn := fun _ => fun
  | [d1, d2, d3] => { results := [.lit (.bool true)], args := [d1, d2, d3] }
  | _ => none }
def vmJoinsRow : OpenClaim := { program := "ytellfhnfifgpoaa", sum := "9dc7d44e9f6e3e43588fa30a7583ef418137e2f48a6d156389299cc2cbba9cd2", func := "azulejo/azulejolaw08.VmJoins", spec := "vmJoins", unfollowed := true, recurses := true, apart := false }
def VmJoinsSaid : Prop := vmJoinsRow.holds Try.pinned (OpenSpec.ofChange vmJoinsSpec)

/-- ITS FALSE NEIGHBOUR: 'it returns false'. Refute it at one input. -/
def vmJoinsWrong : ChangeSpec := { name := "vmJoins", fn := fun _ => fun
  | [d1, d2, d3] => { results := [.lit (.bool false)], args := [d1, d2, d3] }
  | _ => none }
def VmJoinsWrongFalsely : Prop := vmJoinsRow.holds Try.pinned (OpenSpec.ofChange vmJoinsWrong)

/-- 'azulejolaw08.VmLoops': WHATEVER THE INPUT: true; the input reads as it did. -/
def vmLoopsSpec : ChangeSpec := { name := "vmLoops", fn := fun _ => fun
  | [d1, d2, d3] => { results := [.lit (.bool true)], args := [d1, d2, d3] }
  | _ => none }
def vmLoopsRow : OpenClaim := { program := "ytellfhnfifgpoaa", sum := "9dc7d44e9f6e3e43588fa30a7583ef418137e2f48a6d156389299cc2cbba9cd2", func := "azulejo/azulejolaw08.VmLoops", spec := "vmLoops", unfollowed := true, recurses := true, apart := false }
def VmLoopsSaid : Prop := vmLoopsRow.holds Try.pinned (OpenSpec.ofChange vmLoopsSpec)

/-- ITS FALSE NEIGHBOUR: 'it returns false'. Refute it at one input. -/
def vmLoopsWrong : ChangeSpec := { name := "vmLoops", fn := fun _ => fun
  | [d1, d2, d3] => { results := [.lit (.bool false)], args := [d1, d2, d3] }
  | _ => none }
def VmLoopsWrongFalsely : Prop := vmLoopsRow.holds Try.pinned (OpenSpec.ofChange vmLoopsWrong)

/-- 'azulejolaw08.VmColours': WHATEVER THE INPUT: true; the input reads as it did. -/
def vmColoursSpec : ChangeSpec := { name := "vmColours", fn := fun _ => fun
  | [d1, d2, d3, d4, d5, d6, d7] => { results := [.lit (.bool true)], args := [d1, d2, d3, d4, d5, d6, d7] }
  | _ => none }
def vmColoursRow : OpenClaim := { program := "ytellfhnfifgpoaa", sum := "9dc7d44e9f6e3e43588fa30a7583ef418137e2f48a6d156389299cc2cbba9cd2", func := "azulejo/azulejolaw08.VmColours", spec := "vmColours", unfollowed := true, recurses := true, apart := false }
def VmColoursSaid : Prop := vmColoursRow.holds Try.pinned (OpenSpec.ofChange vmColoursSpec)

/-- ITS FALSE NEIGHBOUR: 'it returns false'. Refute it at one input. -/
def vmColoursWrong : ChangeSpec := { name := "vmColours", fn := fun _ => fun
  | [d1, d2, d3, d4, d5, d6, d7] => { results := [.lit (.bool false)], args := [d1, d2, d3, d4, d5, d6, d7] }
  | _ => none }
def VmColoursWrongFalsely : Prop := vmColoursRow.holds Try.pinned (OpenSpec.ofChange vmColoursWrong)

/- THE SECOND FORM. 'bulk': how many values and letters a reading holds, each counted each time it is reached (what is shared counts as often as it is met; a slice's spare places count too). A statement '..UptoSaid' is the law's where the arguments, and the package variables that the reading takes, are together of bulk at most 1048576: NARROWER than '..Said'. Prove '..Said' where nothing that the law and all that it calls make is longer than what came in: it says more and counts as full. Else prove '..UptoSaid'. A law counts once. -/
mutual
def uptoBulk {H : Type} : DataW H → Nat
  | .lit (.string bytes) => bytes.length + 1
  | .lit _ => 1
  | .nil => 1
  | .ptr d => uptoBulk d + 1
  | .slice elems spare => uptoBulkAll elems + uptoBulkAll spare + 1
  | .agg parts => uptoBulkAll parts + 1
  | .iface _ d => uptoBulk d + 1
  | .map entries => uptoBulkEntries entries + 1
  | .held _ => 1
def uptoBulkAll {H : Type} : List (DataW H) → Nat
  | [] => 0
  | d :: r => uptoBulk d + uptoBulkAll r
def uptoBulkEntries {H : Type} : List (Lit × DataW H) → Nat
  | [] => 0
  | x :: r => uptoBulkEntry x + uptoBulkEntries r
def uptoBulkEntry {H : Type} : Lit × DataW H → Nat
  | (.string bytes, d) => bytes.length + uptoBulk d + 1
  | (_, d) => uptoBulk d + 1
 end
def uptoSmall : (H : Type) → List (DataW H) → Bool := fun _ ds => decide (uptoBulkAll ds ≤ 1048576)
def OpenSpec.upto (s : _root_.Go.ChangeSpec) : _root_.Go.OpenSpec := { _root_.Go.OpenSpec.ofChange s with cond := some uptoSmall }

/-- 'azulejolaw08.VmRuns', WHERE WHAT IT READS IS OF BULK AT MOST 1048576: true; the input reads as it did. -/
def vmRunsUptoRow : OpenClaim := { program := "ytellfhnfifgpoaa", sum := "9dc7d44e9f6e3e43588fa30a7583ef418137e2f48a6d156389299cc2cbba9cd2", func := "azulejo/azulejolaw08.VmRuns", spec := "vmRuns", unfollowed := true, recurses := true, apart := false, narrowed := true }
def VmRunsUptoSaid : Prop := vmRunsUptoRow.holds Try.pinned (OpenSpec.upto vmRunsSpec)

/-- 'azulejolaw08.VmPlaces', WHERE WHAT IT READS IS OF BULK AT MOST 1048576: true; the input reads as it did. -/
def vmPlacesUptoRow : OpenClaim := { program := "ytellfhnfifgpoaa", sum := "9dc7d44e9f6e3e43588fa30a7583ef418137e2f48a6d156389299cc2cbba9cd2", func := "azulejo/azulejolaw08.VmPlaces", spec := "vmPlaces", unfollowed := true, recurses := true, apart := false, narrowed := true }
def VmPlacesUptoSaid : Prop := vmPlacesUptoRow.holds Try.pinned (OpenSpec.upto vmPlacesSpec)

/-- 'azulejolaw08.VmNone', WHERE WHAT IT READS IS OF BULK AT MOST 1048576: true; the input reads as it did. -/
def vmNoneUptoRow : OpenClaim := { program := "ytellfhnfifgpoaa", sum := "9dc7d44e9f6e3e43588fa30a7583ef418137e2f48a6d156389299cc2cbba9cd2", func := "azulejo/azulejolaw08.VmNone", spec := "vmNone", unfollowed := true, recurses := true, apart := false, narrowed := true }
def VmNoneUptoSaid : Prop := vmNoneUptoRow.holds Try.pinned (OpenSpec.upto vmNoneSpec)

/-- 'azulejolaw08.VmJoins', WHERE WHAT IT READS IS OF BULK AT MOST 1048576: true; the input reads as it did. -/
def vmJoinsUptoRow : OpenClaim := { program := "ytellfhnfifgpoaa", sum := "9dc7d44e9f6e3e43588fa30a7583ef418137e2f48a6d156389299cc2cbba9cd2", func := "azulejo/azulejolaw08.VmJoins", spec := "vmJoins", unfollowed := true, recurses := true, apart := false, narrowed := true }
def VmJoinsUptoSaid : Prop := vmJoinsUptoRow.holds Try.pinned (OpenSpec.upto vmJoinsSpec)

/-- 'azulejolaw08.VmLoops', WHERE WHAT IT READS IS OF BULK AT MOST 1048576: true; the input reads as it did. -/
def vmLoopsUptoRow : OpenClaim := { program := "ytellfhnfifgpoaa", sum := "9dc7d44e9f6e3e43588fa30a7583ef418137e2f48a6d156389299cc2cbba9cd2", func := "azulejo/azulejolaw08.VmLoops", spec := "vmLoops", unfollowed := true, recurses := true, apart := false, narrowed := true }
def VmLoopsUptoSaid : Prop := vmLoopsUptoRow.holds Try.pinned (OpenSpec.upto vmLoopsSpec)

/-- 'azulejolaw08.VmColours', WHERE WHAT IT READS IS OF BULK AT MOST 1048576: true; the input reads as it did. -/
def vmColoursUptoRow : OpenClaim := { program := "ytellfhnfifgpoaa", sum := "9dc7d44e9f6e3e43588fa30a7583ef418137e2f48a6d156389299cc2cbba9cd2", func := "azulejo/azulejolaw08.VmColours", spec := "vmColours", unfollowed := true, recurses := true, apart := false, narrowed := true }
def VmColoursUptoSaid : Prop := vmColoursUptoRow.holds Try.pinned (OpenSpec.upto vmColoursSpec)

end Rows
end Go.Proofs.Ytellfhnfifgpoaa
