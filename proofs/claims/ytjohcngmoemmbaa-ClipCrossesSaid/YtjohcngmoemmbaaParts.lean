/-
  DERIVED. A part of a function's code by the number of its block: a long walk can be laid apart, and said once for all rounds.
-/
import Derived.Test.YtjohcngmoemmbaaExt
namespace Go.Proofs.Ytjohcngmoemmbaa
open Go.RowKit

/-- what stands in block n -/
def findBlock (n : Nat) : Code → Option Code
  | .block m c => if m = n then some c else findBlock n c
  | .seq a b => match findBlock n a with | some x => some x | none => findBlock n b
  | .cond _ a b => match findBlock n a with | some x => some x | none => findBlock n b
  | .loop c => findBlock n c
  | .scope c => findBlock n c
  | _ => none
def blockOf (f : Func) (n : Nat) : Code := ((f.body.bind (findBlock n))).getD .skip
/-- region n -/
def findRegion (n : Nat) : Code → Option Code
  | .region m ops b => if m = n then some (.region m ops b) else none
  | .block _ c => findRegion n c
  | .seq a b => match findRegion n a with | some x => some x | none => findRegion n b
  | .cond _ a b => match findRegion n a with | some x => some x | none => findRegion n b
  | .loop c => findRegion n c
  | .scope c => findRegion n c
  | _ => none
def regionOf (f : Func) (n : Nat) : Code := ((f.body.bind (findRegion n))).getD .skip

end Go.Proofs.Ytjohcngmoemmbaa
