/-
  DERIVED. Vertices in plain numbers: places and colours; the law's own small ones.
-/
import Derived.Test.YtjohcngmoemmbaaGs
namespace Go.Proofs.Ytjohcngmoemmbaa
set_option linter.unusedVariables false
/-- a vertex: its place, its colour -/
structure V8 where
  (p0 p1 p2 p3 c0 c1 c2 c3 : Int)
  deriving DecidableEq
instance : Inhabited V8 := ⟨⟨0, 0, 0, 0, 0, 0, 0, 0⟩⟩
abbrev V8.l (v : V8) : List Value := [.int .i64 v.p0, .int .i64 v.p1, .int .i64 v.p2, .int .i64 v.p3, .int .i64 v.c0, .int .i64 v.c1, .int .i64 v.c2, .int .i64 v.c3]
/-- the law's vertex, by small numbers -/
structure VSm where
  (x y z w r g b a : Int)
  far : Bool
instance : Inhabited VSm := ⟨⟨0, 0, 0, 0, 0, 0, 0, 0, false⟩⟩
abbrev VSm.l (v : VSm) : List Value := [.int .i16 v.x, .int .i16 v.y, .int .i16 v.z, .int .i16 v.w, .int .u8 v.r, .int .u8 v.g, .int .u8 v.b, .int .u8 v.a, .bool v.far]
def VSm.ok (v : VSm) : Prop := (-32768 ≤ v.x ∧ v.x ≤ 32767) ∧ (-32768 ≤ v.y ∧ v.y ≤ 32767) ∧ (-32768 ≤ v.z ∧ v.z ≤ 32767) ∧ (-32768 ≤ v.w ∧ v.w ≤ 32767) ∧ (0 ≤ v.r ∧ v.r ≤ 255) ∧ (0 ≤ v.g ∧ v.g ≤ 255) ∧ (0 ≤ v.b ∧ v.b ≤ 255) ∧ (0 ≤ v.a ∧ v.a ≤ 255)
def vxF (v : VSm) : V8 := ⟨v.x * 3, v.y * 3, max (v.z * 2) (-9000), if v.far then v.w * 4 else 65536 + v.w, v.r * 257, v.g * 257, v.b * 257, v.a * 257⟩
end Go.Proofs.Ytjohcngmoemmbaa
