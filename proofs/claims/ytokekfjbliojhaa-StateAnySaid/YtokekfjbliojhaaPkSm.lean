/-
  DERIVED. Layer 9's law texts: Small's State. · Two regions of the law StateBack, walked apart (made by mkstback.py).
-/
import Derived.Test.YtokekfjbliojhaaPkSmA
import Derived.Test.YtokekfjbliojhaaPkSmB
import Derived.Test.YtokekfjbliojhaaPkSmC
import Derived.Test.YtokekfjbliojhaaPkSmD
import Derived.Test.YtokekfjbliojhaaPkFix
namespace Go.Proofs.Ytokekfjbliojhaa
open Go.RowKit
set_option linter.unusedVariables false
theorem small9_any (s : Sm9) (hs : s.ok) (w : World) : Calls Try.prog 12 #[.agg s.v] w fun e w' => e = .returned (.agg s.st.v) ∧ Ext w w' := by
  obtain ⟨h0, h1, h2, h3, h4, h5, h6, h7, h8, h9, k0, k1, k2, k3⟩ := hs
  obtain ⟨dep, ste, ref, msk, fai, hid, pas, ble, cha, cul, wr, ez, q0, q1, q2, q3⟩ := s
  cases ez
  · by_cases hq : q0 % 3 = 0
    · exact small9_A dep ste ref msk fai hid pas ble cha cul wr q0 q1 q2 q3 h0 h1 h2 h3 h4 h5 h6 h7 h8 h9 k0 k1 k2 k3 hq w
    · exact small9_B dep ste ref msk fai hid pas ble cha cul wr q0 q1 q2 q3 h0 h1 h2 h3 h4 h5 h6 h7 h8 h9 k0 k1 k2 k3 hq w
  · by_cases hq : q0 % 3 = 0
    · exact small9_C dep ste ref msk fai hid pas ble cha cul wr q0 q1 q2 q3 h0 h1 h2 h3 h4 h5 h6 h7 h8 h9 k0 k1 k2 k3 hq w
    · exact small9_D dep ste ref msk fai hid pas ble cha cul wr q0 q1 q2 q3 h0 h1 h2 h3 h4 h5 h6 h7 h8 h9 k0 k1 k2 k3 hq w
end Go.Proofs.Ytokekfjbliojhaa

namespace Go.Proofs.Ytokekfjbliojhaa
open Go.RowKit
set_option linter.unusedVariables false
set_option maxRecDepth 100000 in
set_option maxHeartbeats 4000000 in
theorem stback_r7 (f0 f1 f2 f4 f5 f6 f7 f8 f9 f10 f11 f12 f13 f14 f15 f16 f17 f18 f19 f20 f21 f22 f23 f24 f25 f26 f27 f28 f29 f30 f31 f32 f33 f34 f35 f36 f37 f38 f39 f40 f41 f42 f43 f44 f45 f46 f47 f48 f49 f50 f51 f52 f53 f54 f55 f56 f57 f58 f59 f60 f61 f62 f63 f64 f65 f66 f67 f68 f69 f70 f71 f72 f73 f74 : Value) (b3 : Nat) (s : Stt) (w : World) (hB : Blk w b3 s.v 38) {Q : Exit → Act → World → Prop}
    (hQ : ∀ (c19 c20 c21 c22 c23 c24 c25 c26 c27 c28 c29 c30 c31 c32 c33 c34 c35 c36 c37 c38 c39 c40 c41 : Value) (b : Bool), b = s.late → Q .normal ⟨(f0 :: f1 :: f2 :: Value.pointer (some ⟨b3, 0, none⟩) :: f4 :: f5 :: Value.bool b :: f7 :: f8 :: f9 :: f10 :: f11 :: f12 :: f13 :: f14 :: f15 :: f16 :: f17 :: f18 :: c19 :: c20 :: c21 :: c22 :: c23 :: c24 :: c25 :: c26 :: c27 :: c28 :: c29 :: c30 :: c31 :: c32 :: c33 :: c34 :: c35 :: c36 :: c37 :: c38 :: c39 :: c40 :: c41 :: f42 :: f43 :: f44 :: f45 :: f46 :: f47 :: f48 :: f49 :: f50 :: f51 :: f52 :: f53 :: f54 :: f55 :: f56 :: f57 :: f58 :: f59 :: f60 :: f61 :: f62 :: f63 :: f64 :: f65 :: f66 :: f67 :: f68 :: f69 :: f70 :: f71 :: f72 :: f73 :: f74 :: List.nil).toArray, []⟩ w) : Code.wp Try.prog (regionOf Try.f4 7) Q ⟨(f0 :: f1 :: f2 :: Value.pointer (some ⟨b3, 0, none⟩) :: f4 :: f5 :: f6 :: f7 :: f8 :: f9 :: f10 :: f11 :: f12 :: f13 :: f14 :: f15 :: f16 :: f17 :: f18 :: f19 :: f20 :: f21 :: f22 :: f23 :: f24 :: f25 :: f26 :: f27 :: f28 :: f29 :: f30 :: f31 :: f32 :: f33 :: f34 :: f35 :: f36 :: f37 :: f38 :: f39 :: f40 :: f41 :: f42 :: f43 :: f44 :: f45 :: f46 :: f47 :: f48 :: f49 :: f50 :: f51 :: f52 :: f53 :: f54 :: f55 :: f56 :: f57 :: f58 :: f59 :: f60 :: f61 :: f62 :: f63 :: f64 :: f65 :: f66 :: f67 :: f68 :: f69 :: f70 :: f71 :: f72 :: f73 :: f74 :: List.nil).toArray, []⟩ w := by
  have HQ := Lib.hid hQ
  clear hQ
  change Code.wp Try.prog (Code.region _ _ false) _ _ _
  obtain ⟨dep, wr, ste, ref, msk, fai, hid, pas, ble, cha, cul, x0, y0, x1, y1⟩ := s
  unfold Stt.late at HQ
  dsimp only at HQ
  by_cases h1 : ste = 7
  · subst h1
    by_cases h2 : hid = 0
    · subst h2
      by_cases h3 : pas = 0
      · subst h3
        by_cases h4 : ble = 0
        · subst h4
          have cB := hB.cell
          go_wp2
          exact HQ.out _ _ _ _ _ _ _ _ _ _ _ _ _ _ _ _ _ _ _ _ _ _ _ _ (by simp only [decide_true, Bool.and_self, Bool.true_and]; rfl)
        · have cB := hB.cell
          go_wp2
          exact HQ.out _ _ _ _ _ _ _ _ _ _ _ _ _ _ _ _ _ _ _ _ _ _ _ _ (by simp [h4])
      · have cB := hB.cell
        go_wp2
        exact HQ.out _ _ _ _ _ _ _ _ _ _ _ _ _ _ _ _ _ _ _ _ _ _ _ _ (by simp [h3])
    · have cB := hB.cell
      go_wp2
      exact HQ.out _ _ _ _ _ _ _ _ _ _ _ _ _ _ _ _ _ _ _ _ _ _ _ _ (by simp [h2])
  · have cB := hB.cell
    go_wp2
    exact HQ.out _ _ _ _ _ _ _ _ _ _ _ _ _ _ _ _ _ _ _ _ _ _ _ _ (by simp [h1])
theorem take9_back {s t : Stt} {k' : Nat} {err' : Int} (hk : s.chk = 0) (h : Take9 s.enc 0 0 t k' err') : err' = 0 ∧ s = t ∧ k' = 15 := by
  rcases h with ⟨_, rfl, rfl, _, _, h2⟩ | ⟨_, _, h2⟩
  · rw [List.drop_zero] at h2
    exact ⟨rfl, (Stt.enc_inj (r := []) (by rw [List.append_nil]; exact h2)).1, rfl⟩
  · rcases h2 with h2 | h2
    · exact absurd rfl h2
    · exact absurd (by simp) (h2 s [] hk)
end Go.Proofs.Ytokekfjbliojhaa

