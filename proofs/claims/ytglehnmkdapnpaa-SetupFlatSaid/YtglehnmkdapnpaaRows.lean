/-
  No cell of these rows narrows 'for every input' (looked for: loops, veiled, ifaces, maps, wideKeys, modest, calm, conditions, laid).
  DERIVED. THE GIVEN ROWS OF THIS SEAT. 6 by the template 'for every input the law returns true; each argument reads behind the call as it read before'; 0 by the template 'total and deterministic' (their statements: YtglehnmkdapnpaaTotals.lean).
  GIVEN WITH THE SEED: the statements are not yours to turn. If you find one false, say at which input.
  Laid BY PROGRAM, IN A SANDBOX (cutbox-rows.mjs): the forced cells as the released guide's own fill.sh prints them over the translation 8fde1f151eca32e9… (all of the seat's roots in one cut). By AI agents, Wed Nov 11 2026. No macro, syntax, notation, axiom, sorry.
-/
import Derived.Test.YtglehnmkdapnpaaChecked
import GoSem.Claim
import GoSem.ClaimJoined
import GoSem.ClaimMapViews
import Derived.JoinedTies
import Derived.KernelRfl
namespace Go.Proofs.Ytglehnmkdapnpaa
/- THE CELL 'sum', in the pinned program and in every row, IS THE sha256 OF THE DUMP (.gsa) THAT YtglehnmkdapnpaaProg.lean LOADS. Nothing in Lean hashes anything: it is a label: what it is worth is what the hold of that sum in a sandbox is worth. -/
noncomputable def Try.pinned : Pinned := { name := "ytglehnmkdapnpaa", sum := "8fde1f151eca32e9d3d051091876633ba2bf74d1997382d09b4c9200912241c7", checked := Try.checked }
namespace Rows
def none {H : Type} : Left H := { results := [], args := [] }

/-- 'azulejolaw13.SetupMakes': WHATEVER THE INPUT: true; the input reads as it did. -/
def setupMakesSpec : ChangeSpec := { name := "setupMakes", fn := fun _ => fun
  | [d1, d2, d3, d4] => { results := [.lit (.bool true)], args := [d1, d2, d3, d4] }
  | _ => none }
def setupMakesRow : OpenClaim := { program := "ytglehnmkdapnpaa", sum := "8fde1f151eca32e9d3d051091876633ba2bf74d1997382d09b4c9200912241c7", func := "azulejo/azulejolaw13.SetupMakes", spec := "setupMakes", unfollowed := true, recurses := true, apart := false }
def SetupMakesSaid : Prop := setupMakesRow.holds Try.pinned (OpenSpec.ofChange setupMakesSpec)

/-- ITS FALSE NEIGHBOUR: 'it returns false'. Refute it at one input. -/
def setupMakesWrong : ChangeSpec := { name := "setupMakes", fn := fun _ => fun
  | [d1, d2, d3, d4] => { results := [.lit (.bool false)], args := [d1, d2, d3, d4] }
  | _ => none }
def SetupMakesWrongFalsely : Prop := setupMakesRow.holds Try.pinned (OpenSpec.ofChange setupMakesWrong)

/-- 'azulejolaw13.SetupAt': WHATEVER THE INPUT: true; the input reads as it did. -/
def setupAtSpec : ChangeSpec := { name := "setupAt", fn := fun _ => fun
  | [d1, d2, d3] => { results := [.lit (.bool true)], args := [d1, d2, d3] }
  | _ => none }
def setupAtRow : OpenClaim := { program := "ytglehnmkdapnpaa", sum := "8fde1f151eca32e9d3d051091876633ba2bf74d1997382d09b4c9200912241c7", func := "azulejo/azulejolaw13.SetupAt", spec := "setupAt", unfollowed := true, recurses := true, apart := false }
def SetupAtSaid : Prop := setupAtRow.holds Try.pinned (OpenSpec.ofChange setupAtSpec)

/-- ITS FALSE NEIGHBOUR: 'it returns false'. Refute it at one input. -/
def setupAtWrong : ChangeSpec := { name := "setupAt", fn := fun _ => fun
  | [d1, d2, d3] => { results := [.lit (.bool false)], args := [d1, d2, d3] }
  | _ => none }
def SetupAtWrongFalsely : Prop := setupAtRow.holds Try.pinned (OpenSpec.ofChange setupAtWrong)

/-- 'azulejolaw13.SetupBetween': WHATEVER THE INPUT: true; the input reads as it did. -/
def setupBetweenSpec : ChangeSpec := { name := "setupBetween", fn := fun _ => fun
  | [d1, d2, d3] => { results := [.lit (.bool true)], args := [d1, d2, d3] }
  | _ => none }
def setupBetweenRow : OpenClaim := { program := "ytglehnmkdapnpaa", sum := "8fde1f151eca32e9d3d051091876633ba2bf74d1997382d09b4c9200912241c7", func := "azulejo/azulejolaw13.SetupBetween", spec := "setupBetween", unfollowed := true, recurses := true, apart := false }
def SetupBetweenSaid : Prop := setupBetweenRow.holds Try.pinned (OpenSpec.ofChange setupBetweenSpec)

/-- ITS FALSE NEIGHBOUR: 'it returns false'. Refute it at one input. -/
def setupBetweenWrong : ChangeSpec := { name := "setupBetween", fn := fun _ => fun
  | [d1, d2, d3] => { results := [.lit (.bool false)], args := [d1, d2, d3] }
  | _ => none }
def SetupBetweenWrongFalsely : Prop := setupBetweenRow.holds Try.pinned (OpenSpec.ofChange setupBetweenWrong)

/-- 'azulejolaw13.SetupCulls': WHATEVER THE INPUT: true; the input reads as it did. -/
def setupCullsSpec : ChangeSpec := { name := "setupCulls", fn := fun _ => fun
  | [d1, d2, d3, d4] => { results := [.lit (.bool true)], args := [d1, d2, d3, d4] }
  | _ => none }
def setupCullsRow : OpenClaim := { program := "ytglehnmkdapnpaa", sum := "8fde1f151eca32e9d3d051091876633ba2bf74d1997382d09b4c9200912241c7", func := "azulejo/azulejolaw13.SetupCulls", spec := "setupCulls", unfollowed := true, recurses := true, apart := false }
def SetupCullsSaid : Prop := setupCullsRow.holds Try.pinned (OpenSpec.ofChange setupCullsSpec)

/-- ITS FALSE NEIGHBOUR: 'it returns false'. Refute it at one input. -/
def setupCullsWrong : ChangeSpec := { name := "setupCulls", fn := fun _ => fun
  | [d1, d2, d3, d4] => { results := [.lit (.bool false)], args := [d1, d2, d3, d4] }
  | _ => none }
def SetupCullsWrongFalsely : Prop := setupCullsRow.holds Try.pinned (OpenSpec.ofChange setupCullsWrong)

/-- 'azulejolaw13.SetupRaw': WHATEVER THE INPUT: true; the input reads as it did. -/
def setupRawSpec : ChangeSpec := { name := "setupRaw", fn := fun _ => fun
  | [d1, d2, d3, d4, d5, d6, d7, d8] => { results := [.lit (.bool true)], args := [d1, d2, d3, d4, d5, d6, d7, d8] }
  | _ => none }
def setupRawRow : OpenClaim := { program := "ytglehnmkdapnpaa", sum := "8fde1f151eca32e9d3d051091876633ba2bf74d1997382d09b4c9200912241c7", func := "azulejo/azulejolaw13.SetupRaw", spec := "setupRaw", unfollowed := true, recurses := true, apart := false }
def SetupRawSaid : Prop := setupRawRow.holds Try.pinned (OpenSpec.ofChange setupRawSpec)

/-- ITS FALSE NEIGHBOUR: 'it returns false'. Refute it at one input. -/
def setupRawWrong : ChangeSpec := { name := "setupRaw", fn := fun _ => fun
  | [d1, d2, d3, d4, d5, d6, d7, d8] => { results := [.lit (.bool false)], args := [d1, d2, d3, d4, d5, d6, d7, d8] }
  | _ => none }
def SetupRawWrongFalsely : Prop := setupRawRow.holds Try.pinned (OpenSpec.ofChange setupRawWrong)

/-- 'azulejolaw13.SetupFlat': WHATEVER THE INPUT: true; the input reads as it did. -/
def setupFlatSpec : ChangeSpec := { name := "setupFlat", fn := fun _ => fun
  | [d1, d2, d3, d4] => { results := [.lit (.bool true)], args := [d1, d2, d3, d4] }
  | _ => none }
def setupFlatRow : OpenClaim := { program := "ytglehnmkdapnpaa", sum := "8fde1f151eca32e9d3d051091876633ba2bf74d1997382d09b4c9200912241c7", func := "azulejo/azulejolaw13.SetupFlat", spec := "setupFlat", unfollowed := true, recurses := true, apart := false }
def SetupFlatSaid : Prop := setupFlatRow.holds Try.pinned (OpenSpec.ofChange setupFlatSpec)

/-- ITS FALSE NEIGHBOUR: 'it returns false'. Refute it at one input. -/
def setupFlatWrong : ChangeSpec := { name := "setupFlat", fn := fun _ => fun
  | [d1, d2, d3, d4] => { results := [.lit (.bool false)], args := [d1, d2, d3, d4] }
  | _ => none }
def SetupFlatWrongFalsely : Prop := setupFlatRow.holds Try.pinned (OpenSpec.ofChange setupFlatWrong)

/- THE SECOND FORM. 'bulk': how many values and letters a reading holds, each counted each time it is reached (what is shared counts as often as it is met; a slice's spare places count too). A statement '..UptoSaid' is the law's where the arguments, and the package variables that the reading takes, are together of bulk at most 1048576: NARROWER than '..Said'. Prove '..Said' where nothing that the law and all that it calls make is longer than what came in: it says more and counts as full. Else prove '..UptoSaid'. A law counts once. -/
mutual
def uptoBulk {H : Type} : DataW H → Nat
  | .lit (.string bytes) => bytes.length + 1
  | .lit _ => 1
  | .nil => 1
  | .ptr d => uptoBulk d + 1
  | .slice elems spare => uptoBulkAll elems + uptoBulkAll spare + 1
  | .agg parts => uptoBulkAll parts + 1
  | .iface _ d => uptoBulk d + 1
  | .map entries => uptoBulkEntries entries + 1
  | .held _ => 1
def uptoBulkAll {H : Type} : List (DataW H) → Nat
  | [] => 0
  | d :: r => uptoBulk d + uptoBulkAll r
def uptoBulkEntries {H : Type} : List (Lit × DataW H) → Nat
  | [] => 0
  | x :: r => uptoBulkEntry x + uptoBulkEntries r
def uptoBulkEntry {H : Type} : Lit × DataW H → Nat
  | (.string bytes, d) => bytes.length + uptoBulk d + 1
  | (_, d) => uptoBulk d + 1
 end
def uptoSmall : (H : Type) → List (DataW H) → Bool := fun _ ds => decide (uptoBulkAll ds ≤ 1048576)
def OpenSpec.upto (s : _root_.Go.ChangeSpec) : _root_.Go.OpenSpec := { _root_.Go.OpenSpec.ofChange s with cond := some uptoSmall }

/-- 'azulejolaw13.SetupMakes', WHERE WHAT IT READS IS OF BULK AT MOST 1048576: true; the input reads as it did. -/
def setupMakesUptoRow : OpenClaim := { program := "ytglehnmkdapnpaa", sum := "8fde1f151eca32e9d3d051091876633ba2bf74d1997382d09b4c9200912241c7", func := "azulejo/azulejolaw13.SetupMakes", spec := "setupMakes", unfollowed := true, recurses := true, apart := false, narrowed := true }
def SetupMakesUptoSaid : Prop := setupMakesUptoRow.holds Try.pinned (OpenSpec.upto setupMakesSpec)

/-- 'azulejolaw13.SetupAt', WHERE WHAT IT READS IS OF BULK AT MOST 1048576: true; the input reads as it did. -/
def setupAtUptoRow : OpenClaim := { program := "ytglehnmkdapnpaa", sum := "8fde1f151eca32e9d3d051091876633ba2bf74d1997382d09b4c9200912241c7", func := "azulejo/azulejolaw13.SetupAt", spec := "setupAt", unfollowed := true, recurses := true, apart := false, narrowed := true }
def SetupAtUptoSaid : Prop := setupAtUptoRow.holds Try.pinned (OpenSpec.upto setupAtSpec)

/-- 'azulejolaw13.SetupBetween', WHERE WHAT IT READS IS OF BULK AT MOST 1048576: true; the input reads as it did. -/
def setupBetweenUptoRow : OpenClaim := { program := "ytglehnmkdapnpaa", sum := "8fde1f151eca32e9d3d051091876633ba2bf74d1997382d09b4c9200912241c7", func := "azulejo/azulejolaw13.SetupBetween", spec := "setupBetween", unfollowed := true, recurses := true, apart := false, narrowed := true }
def SetupBetweenUptoSaid : Prop := setupBetweenUptoRow.holds Try.pinned (OpenSpec.upto setupBetweenSpec)

/-- 'azulejolaw13.SetupCulls', WHERE WHAT IT READS IS OF BULK AT MOST 1048576: true; the input reads as it did. -/
def setupCullsUptoRow : OpenClaim := { program := "ytglehnmkdapnpaa", sum := "8fde1f151eca32e9d3d051091876633ba2bf74d1997382d09b4c9200912241c7", func := "azulejo/azulejolaw13.SetupCulls", spec := "setupCulls", unfollowed := true, recurses := true, apart := false, narrowed := true }
def SetupCullsUptoSaid : Prop := setupCullsUptoRow.holds Try.pinned (OpenSpec.upto setupCullsSpec)

/-- 'azulejolaw13.SetupRaw', WHERE WHAT IT READS IS OF BULK AT MOST 1048576: true; the input reads as it did. -/
def setupRawUptoRow : OpenClaim := { program := "ytglehnmkdapnpaa", sum := "8fde1f151eca32e9d3d051091876633ba2bf74d1997382d09b4c9200912241c7", func := "azulejo/azulejolaw13.SetupRaw", spec := "setupRaw", unfollowed := true, recurses := true, apart := false, narrowed := true }
def SetupRawUptoSaid : Prop := setupRawUptoRow.holds Try.pinned (OpenSpec.upto setupRawSpec)

/-- 'azulejolaw13.SetupFlat', WHERE WHAT IT READS IS OF BULK AT MOST 1048576: true; the input reads as it did. -/
def setupFlatUptoRow : OpenClaim := { program := "ytglehnmkdapnpaa", sum := "8fde1f151eca32e9d3d051091876633ba2bf74d1997382d09b4c9200912241c7", func := "azulejo/azulejolaw13.SetupFlat", spec := "setupFlat", unfollowed := true, recurses := true, apart := false, narrowed := true }
def SetupFlatUptoSaid : Prop := setupFlatUptoRow.holds Try.pinned (OpenSpec.upto setupFlatSpec)

end Rows
end Go.Proofs.Ytglehnmkdapnpaa
