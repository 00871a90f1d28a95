/-
  DERIVED. Go's max and min of two numbers, as the walk meets them: folded, so that the walk does not part on them.
-/
import Derived.Test.YtjohcngmoemmbaaFixWalks
namespace Go.Proofs.Ytjohcngmoemmbaa

def maxI (x y : Int) : Int := if x < y then y else x
def minI (x y : Int) : Int := if y < x then y else x
theorem maxI_fold (x y : Int) : (if x < y then y else x) = maxI x y := rfl
theorem minI_fold (x y : Int) : (if y < x then y else x) = minI x y := rfl
theorem maxI_eq (x y : Int) : maxI x y = max x y := by unfold maxI; omega
theorem minI_eq (x y : Int) : minI x y = min x y := by unfold minI; omega

end Go.Proofs.Ytjohcngmoemmbaa
