/-
  DERIVED. Layer 9's law texts: Small's State.
-/
import Derived.Test.YtbbfmlehddfneaaPkSmA
import Derived.Test.YtbbfmlehddfneaaPkSmB
import Derived.Test.YtbbfmlehddfneaaPkSmC
import Derived.Test.YtbbfmlehddfneaaPkSmD
namespace Go.Proofs.Ytbbfmlehddfneaa
open Go.RowKit
set_option linter.unusedVariables false
theorem small9_any (s : Sm9) (hs : s.ok) (w : World) : Calls Try.prog 12 #[.agg s.v] w fun e w' => e = .returned (.agg s.st.v) ∧ Ext w w' := by
  obtain ⟨h0, h1, h2, h3, h4, h5, h6, h7, h8, h9, k0, k1, k2, k3⟩ := hs
  obtain ⟨dep, ste, ref, msk, fai, hid, pas, ble, cha, cul, wr, ez, q0, q1, q2, q3⟩ := s
  cases ez
  · by_cases hq : q0 % 3 = 0
    · exact small9_A dep ste ref msk fai hid pas ble cha cul wr q0 q1 q2 q3 h0 h1 h2 h3 h4 h5 h6 h7 h8 h9 k0 k1 k2 k3 hq w
    · exact small9_B dep ste ref msk fai hid pas ble cha cul wr q0 q1 q2 q3 h0 h1 h2 h3 h4 h5 h6 h7 h8 h9 k0 k1 k2 k3 hq w
  · by_cases hq : q0 % 3 = 0
    · exact small9_C dep ste ref msk fai hid pas ble cha cul wr q0 q1 q2 q3 h0 h1 h2 h3 h4 h5 h6 h7 h8 h9 k0 k1 k2 k3 hq w
    · exact small9_D dep ste ref msk fai hid pas ble cha cul wr q0 q1 q2 q3 h0 h1 h2 h3 h4 h5 h6 h7 h8 h9 k0 k1 k2 k3 hq w
end Go.Proofs.Ytbbfmlehddfneaa

