/-
  DERIVED. Region 8 of the law StateBack, walked apart (made by mkstback.py).
-/
import Derived.Test.YtokekfjbliojhaaPkSm
import Derived.Test.YtokekfjbliojhaaPkFix
namespace Go.Proofs.Ytokekfjbliojhaa
open Go.RowKit
set_option linter.unusedVariables false
set_option maxRecDepth 100000 in
set_option maxHeartbeats 4000000 in
theorem stback_r8f (f0 f2 f7 f8 f9 f10 f11 f12 f13 f14 f15 f16 f17 f18 f19 f20 f21 f22 f23 f24 f25 f26 f27 f28 f29 f30 f31 f32 f33 f34 f35 f36 f37 f38 f39 f40 f41 f42 f43 f44 f45 f46 f47 f48 f49 f50 f51 f52 f53 f54 f55 f56 f57 f58 f59 f60 f61 f62 f63 f64 f65 f66 f67 f68 f69 f70 f71 f72 f73 f74 : Value) (b1 b3 pp pr bw br : Nat) (z1 : Array Value) (hz1 : z1[11]? = some (.bool false)) (s : Stt) (hs : s.byt) (hk : s.chk = 0)  (Fw Fr : List Nat) (w : World) (hB1 : Blk w b1 z1 32) (hB3 : Blk w b3 s.v 38) (hP : Pen w bw pp s.enc Fw) (hR : Rdr w br pr s.enc 0 0 Fr) (n1 : b1 ∉ Fr) (n3 : b3 ∉ Fr) (nw : ∀ b ∈ Fw, b ∉ Fr) {Q : Exit → Act → World → Prop}
    (hQ : ∀ (c42 c43 c44 c45 c46 c47 c48 c49 c50 c51 c52 c53 c54 c55 c56 c57 c58 c59 c60 c61 c62 c63 c64 c65 c66 c67 c68 c69 c70 c71 c72 c73 c74 : Value) (wx : World), Calm Fr w wx → Q .normal ⟨(f0 :: Value.pointer (some ⟨b1, 0, none⟩) :: Value.bool true :: Value.pointer (some ⟨b3, 0, none⟩) :: Value.pointer (some ⟨pp, 0, none⟩) :: Value.pointer (some ⟨pr, 0, none⟩) :: Value.bool s.late :: f7 :: f8 :: f9 :: f10 :: f11 :: f12 :: f13 :: f14 :: f15 :: f16 :: f17 :: f18 :: f19 :: f20 :: f21 :: f22 :: f23 :: f24 :: f25 :: f26 :: f27 :: f28 :: f29 :: f30 :: f31 :: f32 :: f33 :: f34 :: f35 :: f36 :: f37 :: f38 :: f39 :: f40 :: f41 :: c42 :: c43 :: c44 :: c45 :: c46 :: c47 :: c48 :: c49 :: c50 :: c51 :: c52 :: c53 :: c54 :: c55 :: c56 :: c57 :: c58 :: c59 :: c60 :: c61 :: c62 :: c63 :: c64 :: c65 :: c66 :: c67 :: c68 :: c69 :: c70 :: c71 :: c72 :: c73 :: c74 :: List.nil).toArray, []⟩ wx) : Code.wp Try.prog (regionOf Try.f4 8) Q ⟨(f0 :: Value.pointer (some ⟨b1, 0, none⟩) :: f2 :: Value.pointer (some ⟨b3, 0, none⟩) :: Value.pointer (some ⟨pp, 0, none⟩) :: Value.pointer (some ⟨pr, 0, none⟩) :: Value.bool s.late :: f7 :: f8 :: f9 :: f10 :: f11 :: f12 :: f13 :: f14 :: f15 :: f16 :: f17 :: f18 :: f19 :: f20 :: f21 :: f22 :: f23 :: f24 :: f25 :: f26 :: f27 :: f28 :: f29 :: f30 :: f31 :: f32 :: f33 :: f34 :: f35 :: f36 :: f37 :: f38 :: f39 :: f40 :: f41 :: f42 :: f43 :: f44 :: f45 :: f46 :: f47 :: f48 :: f49 :: f50 :: f51 :: f52 :: f53 :: f54 :: f55 :: f56 :: f57 :: f58 :: f59 :: f60 :: f61 :: f62 :: f63 :: f64 :: f65 :: f66 :: f67 :: f68 :: f69 :: f70 :: f71 :: f72 :: f73 :: f74 :: List.nil).toArray, []⟩ w := by
  have HQ := Lib.hid hQ
  clear hQ
  change Code.wp Try.prog (Code.region _ _ true) _ _ _
  have hE := eqS s
  have hchk : ∀ u, Calls Try.prog 16 #[.agg s.v] u fun e w' => e = .returned (.int .i64 0) ∧ Ext u w' := fun u => by rw [← hk]; exact check_any s u
  have hlen : ∀ u, Pen u bw pp s.enc Fw → Calls Try.prog 17 #[.pointer (some ⟨pp, 0, none⟩)] u fun e w' => e = .returned (.int .i64 15) ∧ u = w' := fun u h => pen_len u bw pp s.enc Fw h (by simp [Stt.enc])
  have HK := Lib.hid hk
  have hlate := late_any s
  clear hk
  generalize hla : s.late = la at *
  apply wp_region_known 34 [none, none, none, none, none, none, none, none, none, none, some (.agg s.v), none, none, none, none, none, some (.int .i64 0), none, none, none, none, none, none, none, none, none, none, none, none, none, none, none, none, none] Fr _ (by kernel_rfl) (by kernel_rfl)
  case H =>
    intro x hx
    have hne : Nonempty (Wx x) := ⟨⟨x, Ext.refl x⟩⟩
    have q1 := fun (y : Wx x) => (((hB1.calm hx n1).ext y.ext).cell 11).trans hz1
    have q3 := fun (y : Wx x) => ((hB3.calm hx n3).ext y.ext).cell
    have qP := fun (y : Wx x) => (hP.kept hx nw).ext y.ext
    simp only [replM]
    repeat (go_big_quiet_step (first | (go_at_call 16; exact calm_of (hchk _)) | (go_at_call 17; exact calm_eq (hlen _ (qP _))) | (go_at_call 20; exact calm_of (hlate _))))
    exact wpQuiet_nil rfl
  case hG => kernel_rfl
  case T =>
    change knownW _ _ _ _ _ [_, _] _
    refine fun u x hc => gives_enter (f := 18) (args := #[.pointer (some ⟨pr, 0, none⟩)]) (by simp [go_sem]) (take9_any u _ _ _ _ _ _ (hR.ext x)) ?_
    rintro e w7 ⟨s7, k7, err7, rfl, R7, S7, T7⟩
    obtain ⟨rfl, rfl, rfl⟩ := take9_back HK.out T7
    refine ⟨_, rfl, rfl, hc.trans S7.1, fun u2 x2 hc2 => ?_⟩
    refine gives_enter (f := 19) (args := #[.pointer (some ⟨pr, 0, none⟩)]) (by simp [go_sem]) (rd_end u2 _ _ _ _ _ _ (R7.ext x2)) ?_
    rintro e w8 ⟨rfl, q8⟩
    refine ⟨_, rfl, by rw [if_neg (by simp [Stt.enc])], hc2.trans (((Ext.refl u2).qt q8).calm Fr), fun u3 x3 hc3 => ?_⟩
    exact HQ.out _ _ _ _ _ _ _ _ _ _ _ _ _ _ _ _ _ _ _ _ _ _ _ _ _ _ _ _ _ _ _ _ _ u3 hc3
end Go.Proofs.Ytokekfjbliojhaa

