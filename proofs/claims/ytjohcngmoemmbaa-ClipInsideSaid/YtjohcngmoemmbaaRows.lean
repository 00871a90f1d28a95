/-
  No cell of these rows narrows 'for every input' (looked for: loops, veiled, ifaces, maps, wideKeys, modest, calm, conditions, laid).
  DERIVED. THE GIVEN ROWS OF THIS SEAT. 5 by the template 'for every input the law returns true; each argument reads behind the call as it read before'; 0 by the template 'total and deterministic' (their statements: YtjohcngmoemmbaaTotals.lean).
  GIVEN WITH THE SEED: the statements are not yours to turn. If you find one false, say at which input.
  Laid BY PROGRAM, IN A SANDBOX (cutbox-rows.mjs): the forced cells as the released guide's own fill.sh prints them over the translation 0953f7bf9d8748c2… (all of the seat's roots in one cut). By AI agents, Wed Nov 11 2026. No macro, syntax, notation, axiom, sorry.
-/
import Derived.Test.YtjohcngmoemmbaaChecked
import GoSem.Claim
import GoSem.ClaimJoined
import GoSem.ClaimMapViews
import Derived.JoinedTies
import Derived.KernelRfl
namespace Go.Proofs.Ytjohcngmoemmbaa
/- THE CELL 'sum', in the pinned program and in every row, IS THE sha256 OF THE DUMP (.gsa) THAT YtjohcngmoemmbaaProg.lean LOADS. Nothing in Lean hashes anything: it is a label: what it is worth is what the hold of that sum in a sandbox is worth. -/
noncomputable def Try.pinned : Pinned := { name := "ytjohcngmoemmbaa", sum := "0953f7bf9d8748c2f5de9c8dba217993b317fb5bb640494c0e593b899809a9a2", checked := Try.checked }
namespace Rows
def none {H : Type} : Left H := { results := [], args := [] }

/-- 'azulejolaw12.ClipCuts': WHATEVER THE INPUT: true; the input reads as it did. -/
def clipCutsSpec : ChangeSpec := { name := "clipCuts", fn := fun _ => fun
  | [d] => { results := [.lit (.bool true)], args := [d] }
  | _ => none }
def clipCutsRow : OpenClaim := { program := "ytjohcngmoemmbaa", sum := "0953f7bf9d8748c2f5de9c8dba217993b317fb5bb640494c0e593b899809a9a2", func := "azulejo/azulejolaw12.ClipCuts", spec := "clipCuts", unfollowed := true, recurses := true, apart := false }
def ClipCutsSaid : Prop := clipCutsRow.holds Try.pinned (OpenSpec.ofChange clipCutsSpec)

/-- ITS FALSE NEIGHBOUR: 'it returns false'. Refute it at one input. -/
def clipCutsWrong : ChangeSpec := { name := "clipCuts", fn := fun _ => fun
  | [d] => { results := [.lit (.bool false)], args := [d] }
  | _ => none }
def ClipCutsWrongFalsely : Prop := clipCutsRow.holds Try.pinned (OpenSpec.ofChange clipCutsWrong)

/-- 'azulejolaw12.ClipInside': WHATEVER THE INPUT: true; the input reads as it did. -/
def clipInsideSpec : ChangeSpec := { name := "clipInside", fn := fun _ => fun
  | [d1, d2, d3] => { results := [.lit (.bool true)], args := [d1, d2, d3] }
  | _ => none }
def clipInsideRow : OpenClaim := { program := "ytjohcngmoemmbaa", sum := "0953f7bf9d8748c2f5de9c8dba217993b317fb5bb640494c0e593b899809a9a2", func := "azulejo/azulejolaw12.ClipInside", spec := "clipInside", unfollowed := true, recurses := true, apart := false }
def ClipInsideSaid : Prop := clipInsideRow.holds Try.pinned (OpenSpec.ofChange clipInsideSpec)

/-- ITS FALSE NEIGHBOUR: 'it returns false'. Refute it at one input. -/
def clipInsideWrong : ChangeSpec := { name := "clipInside", fn := fun _ => fun
  | [d1, d2, d3] => { results := [.lit (.bool false)], args := [d1, d2, d3] }
  | _ => none }
def ClipInsideWrongFalsely : Prop := clipInsideRow.holds Try.pinned (OpenSpec.ofChange clipInsideWrong)

/-- 'azulejolaw12.ClipCrosses': WHATEVER THE INPUT: true; the input reads as it did. -/
def clipCrossesSpec : ChangeSpec := { name := "clipCrosses", fn := fun _ => fun
  | [d1, d2, d3] => { results := [.lit (.bool true)], args := [d1, d2, d3] }
  | _ => none }
def clipCrossesRow : OpenClaim := { program := "ytjohcngmoemmbaa", sum := "0953f7bf9d8748c2f5de9c8dba217993b317fb5bb640494c0e593b899809a9a2", func := "azulejo/azulejolaw12.ClipCrosses", spec := "clipCrosses", unfollowed := true, recurses := true, apart := false }
def ClipCrossesSaid : Prop := clipCrossesRow.holds Try.pinned (OpenSpec.ofChange clipCrossesSpec)

/-- ITS FALSE NEIGHBOUR: 'it returns false'. Refute it at one input. -/
def clipCrossesWrong : ChangeSpec := { name := "clipCrosses", fn := fun _ => fun
  | [d1, d2, d3] => { results := [.lit (.bool false)], args := [d1, d2, d3] }
  | _ => none }
def ClipCrossesWrongFalsely : Prop := clipCrossesRow.holds Try.pinned (OpenSpec.ofChange clipCrossesWrong)

/-- 'azulejolaw12.ClipKeeps': WHATEVER THE INPUT: true; the input reads as it did. -/
def clipKeepsSpec : ChangeSpec := { name := "clipKeeps", fn := fun _ => fun
  | [d] => { results := [.lit (.bool true)], args := [d] }
  | _ => none }
def clipKeepsRow : OpenClaim := { program := "ytjohcngmoemmbaa", sum := "0953f7bf9d8748c2f5de9c8dba217993b317fb5bb640494c0e593b899809a9a2", func := "azulejo/azulejolaw12.ClipKeeps", spec := "clipKeeps", unfollowed := true, recurses := true, apart := false }
def ClipKeepsSaid : Prop := clipKeepsRow.holds Try.pinned (OpenSpec.ofChange clipKeepsSpec)

/-- ITS FALSE NEIGHBOUR: 'it returns false'. Refute it at one input. -/
def clipKeepsWrong : ChangeSpec := { name := "clipKeeps", fn := fun _ => fun
  | [d] => { results := [.lit (.bool false)], args := [d] }
  | _ => none }
def ClipKeepsWrongFalsely : Prop := clipKeepsRow.holds Try.pinned (OpenSpec.ofChange clipKeepsWrong)

/-- 'azulejolaw12.ClipBounds': WHATEVER THE INPUT: true; the input reads as it did. -/
def clipBoundsSpec : ChangeSpec := { name := "clipBounds", fn := fun _ => fun
  | [d1, d2, d3] => { results := [.lit (.bool true)], args := [d1, d2, d3] }
  | _ => none }
def clipBoundsRow : OpenClaim := { program := "ytjohcngmoemmbaa", sum := "0953f7bf9d8748c2f5de9c8dba217993b317fb5bb640494c0e593b899809a9a2", func := "azulejo/azulejolaw12.ClipBounds", spec := "clipBounds", unfollowed := true, recurses := true, apart := false }
def ClipBoundsSaid : Prop := clipBoundsRow.holds Try.pinned (OpenSpec.ofChange clipBoundsSpec)

/-- ITS FALSE NEIGHBOUR: 'it returns false'. Refute it at one input. -/
def clipBoundsWrong : ChangeSpec := { name := "clipBounds", fn := fun _ => fun
  | [d1, d2, d3] => { results := [.lit (.bool false)], args := [d1, d2, d3] }
  | _ => none }
def ClipBoundsWrongFalsely : Prop := clipBoundsRow.holds Try.pinned (OpenSpec.ofChange clipBoundsWrong)

/- THE SECOND FORM. 'bulk': how many values and letters a reading holds, each counted each time it is reached (what is shared counts as often as it is met; a slice's spare places count too). A statement '..UptoSaid' is the law's where the arguments, and the package variables that the reading takes, are together of bulk at most 1048576: NARROWER than '..Said'. Prove '..Said' where nothing that the law and all that it calls make is longer than what came in: it says more and counts as full. Else prove '..UptoSaid'. A law counts once. -/
mutual
def uptoBulk {H : Type} : DataW H → Nat
  | .lit (.string bytes) => bytes.length + 1
  | .lit _ => 1
  | .nil => 1
  | .ptr d => uptoBulk d + 1
  | .slice elems spare => uptoBulkAll elems + uptoBulkAll spare + 1
  | .agg parts => uptoBulkAll parts + 1
  | .iface _ d => uptoBulk d + 1
  | .map entries => uptoBulkEntries entries + 1
  | .held _ => 1
def uptoBulkAll {H : Type} : List (DataW H) → Nat
  | [] => 0
  | d :: r => uptoBulk d + uptoBulkAll r
def uptoBulkEntries {H : Type} : List (Lit × DataW H) → Nat
  | [] => 0
  | x :: r => uptoBulkEntry x + uptoBulkEntries r
def uptoBulkEntry {H : Type} : Lit × DataW H → Nat
  | (.string bytes, d) => bytes.length + uptoBulk d + 1
  | (_, d) => uptoBulk d + 1
 end
def uptoSmall : (H : Type) → List (DataW H) → Bool := fun _ ds => decide (uptoBulkAll ds ≤ 1048576)
def OpenSpec.upto (s : _root_.Go.ChangeSpec) : _root_.Go.OpenSpec := { _root_.Go.OpenSpec.ofChange s with cond := some uptoSmall }

/-- 'azulejolaw12.ClipCuts', WHERE WHAT IT READS IS OF BULK AT MOST 1048576: true; the input reads as it did. -/
def clipCutsUptoRow : OpenClaim := { program := "ytjohcngmoemmbaa", sum := "0953f7bf9d8748c2f5de9c8dba217993b317fb5bb640494c0e593b899809a9a2", func := "azulejo/azulejolaw12.ClipCuts", spec := "clipCuts", unfollowed := true, recurses := true, apart := false, narrowed := true }
def ClipCutsUptoSaid : Prop := clipCutsUptoRow.holds Try.pinned (OpenSpec.upto clipCutsSpec)

/-- 'azulejolaw12.ClipInside', WHERE WHAT IT READS IS OF BULK AT MOST 1048576: true; the input reads as it did. -/
def clipInsideUptoRow : OpenClaim := { program := "ytjohcngmoemmbaa", sum := "0953f7bf9d8748c2f5de9c8dba217993b317fb5bb640494c0e593b899809a9a2", func := "azulejo/azulejolaw12.ClipInside", spec := "clipInside", unfollowed := true, recurses := true, apart := false, narrowed := true }
def ClipInsideUptoSaid : Prop := clipInsideUptoRow.holds Try.pinned (OpenSpec.upto clipInsideSpec)

/-- 'azulejolaw12.ClipCrosses', WHERE WHAT IT READS IS OF BULK AT MOST 1048576: true; the input reads as it did. -/
def clipCrossesUptoRow : OpenClaim := { program := "ytjohcngmoemmbaa", sum := "0953f7bf9d8748c2f5de9c8dba217993b317fb5bb640494c0e593b899809a9a2", func := "azulejo/azulejolaw12.ClipCrosses", spec := "clipCrosses", unfollowed := true, recurses := true, apart := false, narrowed := true }
def ClipCrossesUptoSaid : Prop := clipCrossesUptoRow.holds Try.pinned (OpenSpec.upto clipCrossesSpec)

/-- 'azulejolaw12.ClipKeeps', WHERE WHAT IT READS IS OF BULK AT MOST 1048576: true; the input reads as it did. -/
def clipKeepsUptoRow : OpenClaim := { program := "ytjohcngmoemmbaa", sum := "0953f7bf9d8748c2f5de9c8dba217993b317fb5bb640494c0e593b899809a9a2", func := "azulejo/azulejolaw12.ClipKeeps", spec := "clipKeeps", unfollowed := true, recurses := true, apart := false, narrowed := true }
def ClipKeepsUptoSaid : Prop := clipKeepsUptoRow.holds Try.pinned (OpenSpec.upto clipKeepsSpec)

/-- 'azulejolaw12.ClipBounds', WHERE WHAT IT READS IS OF BULK AT MOST 1048576: true; the input reads as it did. -/
def clipBoundsUptoRow : OpenClaim := { program := "ytjohcngmoemmbaa", sum := "0953f7bf9d8748c2f5de9c8dba217993b317fb5bb640494c0e593b899809a9a2", func := "azulejo/azulejolaw12.ClipBounds", spec := "clipBounds", unfollowed := true, recurses := true, apart := false, narrowed := true }
def ClipBoundsUptoSaid : Prop := clipBoundsUptoRow.holds Try.pinned (OpenSpec.upto clipBoundsSpec)

end Rows
end Go.Proofs.Ytjohcngmoemmbaa
