/-
  No cell of these rows narrows 'for every input' (looked for: loops, veiled, ifaces, maps, wideKeys, modest, calm, conditions, laid).
  DERIVED. THE GIVEN ROWS OF THIS SEAT. 6 by the template 'for every input the law returns true; each argument reads behind the call as it read before'; 0 by the template 'total and deterministic' (their statements: YtbhgebflknafbaaTotals.lean).
  GIVEN WITH THE SEED: the statements are not yours to turn. If you find one false, say at which input.
  Laid BY PROGRAM, IN A SANDBOX (cutbox-rows.mjs): the forced cells as the released guide's own fill.sh prints them over the translation 1d46a0fdf67d94f0… (all of the seat's roots in one cut). By AI agents, Wed Nov 11 2026. No macro, syntax, notation, axiom, sorry.
-/
import Derived.Test.YtbhgebflknafbaaChecked
import GoSem.Claim
import GoSem.ClaimJoined
import GoSem.ClaimMapViews
import Derived.JoinedTies
import Derived.KernelRfl
namespace Go.Proofs.Ytbhgebflknafbaa
/- THE CELL 'sum', in the pinned program and in every row, IS THE sha256 OF THE DUMP (.gsa) THAT YtbhgebflknafbaaProg.lean LOADS. Nothing in Lean hashes anything: it is a label: what it is worth is what the hold of that sum in a sandbox is worth. -/
noncomputable def Try.pinned : Pinned := { name := "ytbhgebflknafbaa", sum := "1d46a0fdf67d94f0388da4732aa05270bf89b88948aea6a1211b7df985d1fa99", checked := Try.checked }
namespace Rows
def none {H : Type} : Left H := { results := [], args := [] }

/-- 'azulejolaw03.EdgeSides': WHATEVER THE INPUT: true; the input reads as it did. -/
def edgeSidesSpec : ChangeSpec := { name := "edgeSides", fn := fun _ => fun
  | [d1, d2, d3, d4, d5] => { results := [.lit (.bool true)], args := [d1, d2, d3, d4, d5] }
  | _ => none }
def edgeSidesRow : OpenClaim := { program := "ytbhgebflknafbaa", sum := "1d46a0fdf67d94f0388da4732aa05270bf89b88948aea6a1211b7df985d1fa99", func := "azulejo/azulejolaw03.EdgeSides", spec := "edgeSides", unfollowed := true, recurses := true, apart := false }
def EdgeSidesSaid : Prop := edgeSidesRow.holds Try.pinned (OpenSpec.ofChange edgeSidesSpec)

/-- ITS FALSE NEIGHBOUR: 'it returns false'. Refute it at one input. -/
def edgeSidesWrong : ChangeSpec := { name := "edgeSides", fn := fun _ => fun
  | [d1, d2, d3, d4, d5] => { results := [.lit (.bool false)], args := [d1, d2, d3, d4, d5] }
  | _ => none }
def EdgeSidesWrongFalsely : Prop := edgeSidesRow.holds Try.pinned (OpenSpec.ofChange edgeSidesWrong)

/-- 'azulejolaw03.EdgeShared': WHATEVER THE INPUT: true; the input reads as it did. -/
def edgeSharedSpec : ChangeSpec := { name := "edgeShared", fn := fun _ => fun
  | [d1, d2, d3, d4, d5, d6] => { results := [.lit (.bool true)], args := [d1, d2, d3, d4, d5, d6] }
  | _ => none }
def edgeSharedRow : OpenClaim := { program := "ytbhgebflknafbaa", sum := "1d46a0fdf67d94f0388da4732aa05270bf89b88948aea6a1211b7df985d1fa99", func := "azulejo/azulejolaw03.EdgeShared", spec := "edgeShared", unfollowed := true, recurses := true, apart := false }
def EdgeSharedSaid : Prop := edgeSharedRow.holds Try.pinned (OpenSpec.ofChange edgeSharedSpec)

/-- ITS FALSE NEIGHBOUR: 'it returns false'. Refute it at one input. -/
def edgeSharedWrong : ChangeSpec := { name := "edgeShared", fn := fun _ => fun
  | [d1, d2, d3, d4, d5, d6] => { results := [.lit (.bool false)], args := [d1, d2, d3, d4, d5, d6] }
  | _ => none }
def EdgeSharedWrongFalsely : Prop := edgeSharedRow.holds Try.pinned (OpenSpec.ofChange edgeSharedWrong)

/-- 'azulejolaw03.EdgeTurns': WHATEVER THE INPUT: true; the input reads as it did. -/
def edgeTurnsSpec : ChangeSpec := { name := "edgeTurns", fn := fun _ => fun
  | [d1, d2, d3] => { results := [.lit (.bool true)], args := [d1, d2, d3] }
  | _ => none }
def edgeTurnsRow : OpenClaim := { program := "ytbhgebflknafbaa", sum := "1d46a0fdf67d94f0388da4732aa05270bf89b88948aea6a1211b7df985d1fa99", func := "azulejo/azulejolaw03.EdgeTurns", spec := "edgeTurns", apart := false }
def EdgeTurnsSaid : Prop := edgeTurnsRow.holds Try.pinned (OpenSpec.ofChange edgeTurnsSpec)

/-- ITS FALSE NEIGHBOUR: 'it returns false'. Refute it at one input. -/
def edgeTurnsWrong : ChangeSpec := { name := "edgeTurns", fn := fun _ => fun
  | [d1, d2, d3] => { results := [.lit (.bool false)], args := [d1, d2, d3] }
  | _ => none }
def EdgeTurnsWrongFalsely : Prop := edgeTurnsRow.holds Try.pinned (OpenSpec.ofChange edgeTurnsWrong)

/-- 'azulejolaw03.EdgeFans': WHATEVER THE INPUT: true; the input reads as it did. -/
def edgeFansSpec : ChangeSpec := { name := "edgeFans", fn := fun _ => fun
  | [d1, d2, d3, d4, d5] => { results := [.lit (.bool true)], args := [d1, d2, d3, d4, d5] }
  | _ => none }
def edgeFansRow : OpenClaim := { program := "ytbhgebflknafbaa", sum := "1d46a0fdf67d94f0388da4732aa05270bf89b88948aea6a1211b7df985d1fa99", func := "azulejo/azulejolaw03.EdgeFans", spec := "edgeFans", apart := false }
def EdgeFansSaid : Prop := edgeFansRow.holds Try.pinned (OpenSpec.ofChange edgeFansSpec)

/-- ITS FALSE NEIGHBOUR: 'it returns false'. Refute it at one input. -/
def edgeFansWrong : ChangeSpec := { name := "edgeFans", fn := fun _ => fun
  | [d1, d2, d3, d4, d5] => { results := [.lit (.bool false)], args := [d1, d2, d3, d4, d5] }
  | _ => none }
def EdgeFansWrongFalsely : Prop := edgeFansRow.holds Try.pinned (OpenSpec.ofChange edgeFansWrong)

/-- 'azulejolaw03.EdgeMoves': WHATEVER THE INPUT: true; the input reads as it did. -/
def edgeMovesSpec : ChangeSpec := { name := "edgeMoves", fn := fun _ => fun
  | [d1, d2, d3, d4, d5] => { results := [.lit (.bool true)], args := [d1, d2, d3, d4, d5] }
  | _ => none }
def edgeMovesRow : OpenClaim := { program := "ytbhgebflknafbaa", sum := "1d46a0fdf67d94f0388da4732aa05270bf89b88948aea6a1211b7df985d1fa99", func := "azulejo/azulejolaw03.EdgeMoves", spec := "edgeMoves", apart := false }
def EdgeMovesSaid : Prop := edgeMovesRow.holds Try.pinned (OpenSpec.ofChange edgeMovesSpec)

/-- ITS FALSE NEIGHBOUR: 'it returns false'. Refute it at one input. -/
def edgeMovesWrong : ChangeSpec := { name := "edgeMoves", fn := fun _ => fun
  | [d1, d2, d3, d4, d5] => { results := [.lit (.bool false)], args := [d1, d2, d3, d4, d5] }
  | _ => none }
def EdgeMovesWrongFalsely : Prop := edgeMovesRow.holds Try.pinned (OpenSpec.ofChange edgeMovesWrong)

/-- 'azulejolaw03.EdgeBoxes': WHATEVER THE INPUT: true; the input reads as it did. -/
def edgeBoxesSpec : ChangeSpec := { name := "edgeBoxes", fn := fun _ => fun
  | [d1, d2, d3] => { results := [.lit (.bool true)], args := [d1, d2, d3] }
  | _ => none }
def edgeBoxesRow : OpenClaim := { program := "ytbhgebflknafbaa", sum := "1d46a0fdf67d94f0388da4732aa05270bf89b88948aea6a1211b7df985d1fa99", func := "azulejo/azulejolaw03.EdgeBoxes", spec := "edgeBoxes", apart := false }
def EdgeBoxesSaid : Prop := edgeBoxesRow.holds Try.pinned (OpenSpec.ofChange edgeBoxesSpec)

/-- ITS FALSE NEIGHBOUR: 'it returns false'. Refute it at one input. -/
def edgeBoxesWrong : ChangeSpec := { name := "edgeBoxes", fn := fun _ => fun
  | [d1, d2, d3] => { results := [.lit (.bool false)], args := [d1, d2, d3] }
  | _ => none }
def EdgeBoxesWrongFalsely : Prop := edgeBoxesRow.holds Try.pinned (OpenSpec.ofChange edgeBoxesWrong)

/- THE SECOND FORM. 'bulk': how many values and letters a reading holds, each counted each time it is reached (what is shared counts as often as it is met; a slice's spare places count too). A statement '..UptoSaid' is the law's where the arguments, and the package variables that the reading takes, are together of bulk at most 1048576: NARROWER than '..Said'. Prove '..Said' where nothing that the law and all that it calls make is longer than what came in: it says more and counts as full. Else prove '..UptoSaid'. A law counts once. -/
mutual
def uptoBulk {H : Type} : DataW H → Nat
  | .lit (.string bytes) => bytes.length + 1
  | .lit _ => 1
  | .nil => 1
  | .ptr d => uptoBulk d + 1
  | .slice elems spare => uptoBulkAll elems + uptoBulkAll spare + 1
  | .agg parts => uptoBulkAll parts + 1
  | .iface _ d => uptoBulk d + 1
  | .map entries => uptoBulkEntries entries + 1
  | .held _ => 1
def uptoBulkAll {H : Type} : List (DataW H) → Nat
  | [] => 0
  | d :: r => uptoBulk d + uptoBulkAll r
def uptoBulkEntries {H : Type} : List (Lit × DataW H) → Nat
  | [] => 0
  | x :: r => uptoBulkEntry x + uptoBulkEntries r
def uptoBulkEntry {H : Type} : Lit × DataW H → Nat
  | (.string bytes, d) => bytes.length + uptoBulk d + 1
  | (_, d) => uptoBulk d + 1
 end
def uptoSmall : (H : Type) → List (DataW H) → Bool := fun _ ds => decide (uptoBulkAll ds ≤ 1048576)
def OpenSpec.upto (s : _root_.Go.ChangeSpec) : _root_.Go.OpenSpec := { _root_.Go.OpenSpec.ofChange s with cond := some uptoSmall }

/-- 'azulejolaw03.EdgeSides', WHERE WHAT IT READS IS OF BULK AT MOST 1048576: true; the input reads as it did. -/
def edgeSidesUptoRow : OpenClaim := { program := "ytbhgebflknafbaa", sum := "1d46a0fdf67d94f0388da4732aa05270bf89b88948aea6a1211b7df985d1fa99", func := "azulejo/azulejolaw03.EdgeSides", spec := "edgeSides", unfollowed := true, recurses := true, apart := false, narrowed := true }
def EdgeSidesUptoSaid : Prop := edgeSidesUptoRow.holds Try.pinned (OpenSpec.upto edgeSidesSpec)

/-- 'azulejolaw03.EdgeShared', WHERE WHAT IT READS IS OF BULK AT MOST 1048576: true; the input reads as it did. -/
def edgeSharedUptoRow : OpenClaim := { program := "ytbhgebflknafbaa", sum := "1d46a0fdf67d94f0388da4732aa05270bf89b88948aea6a1211b7df985d1fa99", func := "azulejo/azulejolaw03.EdgeShared", spec := "edgeShared", unfollowed := true, recurses := true, apart := false, narrowed := true }
def EdgeSharedUptoSaid : Prop := edgeSharedUptoRow.holds Try.pinned (OpenSpec.upto edgeSharedSpec)

/-- 'azulejolaw03.EdgeTurns', WHERE WHAT IT READS IS OF BULK AT MOST 1048576: true; the input reads as it did. -/
def edgeTurnsUptoRow : OpenClaim := { program := "ytbhgebflknafbaa", sum := "1d46a0fdf67d94f0388da4732aa05270bf89b88948aea6a1211b7df985d1fa99", func := "azulejo/azulejolaw03.EdgeTurns", spec := "edgeTurns", apart := false, narrowed := true }
def EdgeTurnsUptoSaid : Prop := edgeTurnsUptoRow.holds Try.pinned (OpenSpec.upto edgeTurnsSpec)

/-- 'azulejolaw03.EdgeFans', WHERE WHAT IT READS IS OF BULK AT MOST 1048576: true; the input reads as it did. -/
def edgeFansUptoRow : OpenClaim := { program := "ytbhgebflknafbaa", sum := "1d46a0fdf67d94f0388da4732aa05270bf89b88948aea6a1211b7df985d1fa99", func := "azulejo/azulejolaw03.EdgeFans", spec := "edgeFans", apart := false, narrowed := true }
def EdgeFansUptoSaid : Prop := edgeFansUptoRow.holds Try.pinned (OpenSpec.upto edgeFansSpec)

/-- 'azulejolaw03.EdgeMoves', WHERE WHAT IT READS IS OF BULK AT MOST 1048576: true; the input reads as it did. -/
def edgeMovesUptoRow : OpenClaim := { program := "ytbhgebflknafbaa", sum := "1d46a0fdf67d94f0388da4732aa05270bf89b88948aea6a1211b7df985d1fa99", func := "azulejo/azulejolaw03.EdgeMoves", spec := "edgeMoves", apart := false, narrowed := true }
def EdgeMovesUptoSaid : Prop := edgeMovesUptoRow.holds Try.pinned (OpenSpec.upto edgeMovesSpec)

/-- 'azulejolaw03.EdgeBoxes', WHERE WHAT IT READS IS OF BULK AT MOST 1048576: true; the input reads as it did. -/
def edgeBoxesUptoRow : OpenClaim := { program := "ytbhgebflknafbaa", sum := "1d46a0fdf67d94f0388da4732aa05270bf89b88948aea6a1211b7df985d1fa99", func := "azulejo/azulejolaw03.EdgeBoxes", spec := "edgeBoxes", apart := false, narrowed := true }
def EdgeBoxesUptoSaid : Prop := edgeBoxesUptoRow.holds Try.pinned (OpenSpec.upto edgeBoxesSpec)

end Rows
end Go.Proofs.Ytbhgebflknafbaa
