/-
  DERIVED. THE WALKS of layer 3 (edge), all of them.
-/
import Derived.Test.YtbhgebflknafbaaEdgeCovers
import Derived.Test.YtbhgebflknafbaaEdgeBox
namespace Go.Proofs.Ytbhgebflknafbaa
end Go.Proofs.Ytbhgebflknafbaa
