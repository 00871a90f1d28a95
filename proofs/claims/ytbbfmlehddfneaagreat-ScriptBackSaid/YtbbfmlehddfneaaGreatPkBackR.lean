/-
  DERIVED. Region 8 of ScriptBack (made by mkscrback.py).
-/
import Derived.Test.YtbbfmlehddfneaaGreatPkMix
import Derived.Test.YtbbfmlehddfneaaGreatPkBytes
import Derived.Test.YtbbfmlehddfneaaGreatPkSameD
import Derived.Test.YtbbfmlehddfneaaGreatPkAid
namespace Go.Proofs.YtbbfmlehddfneaaGreat
open Go.RowKit
set_option linter.unusedVariables false
set_option maxRecDepth 100000 in
set_option maxHeartbeats 4000000 in
theorem scrback_r8 (f0 f1 f2 f8 f9 f10 f11 f12 f13 f14 f15 f16 f17 f18 f19 f20 f21 f22 f23 f24 f25 f26 f27 f28 f29 f30 f31 f32 f33 f34 f35 f36 f37 f38 f39 f40 f41 f42 f43 f44 f45 f46 f47 f48 : Value) (b3 b6 lo : Nat) (vb : Value) (z z2 : Array Value) (hz : z.size = 22) (hz2 : z2.size = 22) (bs : List Int) (w : World) (B3 : Blk w b3 z 38) (B6 : Blk w b6 z2 38) (o4 : Own w lo vb bs)
    (hC : ∀ u, Ext w u → Calls Tryz.prog 10 #[.agg z] u fun e w' => e = .returned (.int .i64 0) ∧ Ext u w')
    (hBy : ∀ u, Ext w u → Calls Tryz.prog 11 #[.agg z] u fun e w' => ∃ v, e = .returned v ∧ Own w' u.heap.size v bs ∧ Ext u w')
    (hSa : ∀ u, Ext w u → Calls Tryz.prog 12 #[.agg z, .agg z2] u fun e w' => e = .returned (.bool true) ∧ Ext u w') {Q : Exit → Act → World → Prop}
    (hQ : ∀ (c25 c26 c27 c28 c29 c30 c31 c32 c33 c34 c35 c36 c37 c38 c39 c40 c41 c42 c43 c44 c45 c46 c47 c48 : Value) (wx : World), Ext w wx → Q .normal ⟨(f0 :: f1 :: Value.bool true :: Value.pointer (some ⟨b3, 0, none⟩) :: vb :: Value.int .i64 0 :: Value.pointer (some ⟨b6, 0, none⟩) :: Value.int .i64 0 :: f8 :: f9 :: f10 :: f11 :: f12 :: f13 :: f14 :: f15 :: f16 :: f17 :: f18 :: f19 :: f20 :: f21 :: f22 :: f23 :: f24 :: c25 :: c26 :: c27 :: c28 :: c29 :: c30 :: c31 :: c32 :: c33 :: c34 :: c35 :: c36 :: c37 :: c38 :: c39 :: c40 :: c41 :: c42 :: c43 :: c44 :: c45 :: c46 :: c47 :: c48 :: List.nil).toArray, []⟩ wx) :
    Code.wp Tryz.prog (regionOf Tryz.f3 8) Q ⟨(f0 :: f1 :: f2 :: Value.pointer (some ⟨b3, 0, none⟩) :: vb :: Value.int .i64 0 :: Value.pointer (some ⟨b6, 0, none⟩) :: Value.int .i64 0 :: f8 :: f9 :: f10 :: f11 :: f12 :: f13 :: f14 :: f15 :: f16 :: f17 :: f18 :: f19 :: f20 :: f21 :: f22 :: f23 :: f24 :: f25 :: f26 :: f27 :: f28 :: f29 :: f30 :: f31 :: f32 :: f33 :: f34 :: f35 :: f36 :: f37 :: f38 :: f39 :: f40 :: f41 :: f42 :: f43 :: f44 :: f45 :: f46 :: f47 :: f48 :: List.nil).toArray, []⟩ w := by
  have HQ := Lib.hid hQ
  clear hQ
  change Code.wp Tryz.prog (Code.region _ _ true) _ _ _
  apply wp_region_mix 30 [none, none, none, none, none, none, none, none, none, none, none, some undef, some (.string (strOfNums bs)), none, none, none, none, none, none, none, none, none, none, none, none] [36] [] _ [11, 12] 2 (by kernel_rfl) (by kernel_rfl) (by kernel_rfl) rfl
  case H =>
    intro y0 hy0
    have hne : Nonempty (Wx y0) := ⟨⟨y0, Ext.refl y0⟩⟩
    have e0 := fun (y : Wx y0) => hy0.ext.trans y.ext
    have qs := fun (y : Wx y0) => (o4.ext (e0 y)).str
    have q3 := fun (y : Wx y0) => B3.ext (e0 y)
    have q6 := fun (y : Wx y0) => B6.ext (e0 y)
    simp only [replM]
    repeat (first
      | (go_big_quiet_want; (with_reducible refine quiet_load_blk (op := ⟨some 25, _, _, _, _, _⟩) 38 (.tmp 3) ?_ b3 ?_ (z := z) (T := 38) ?_ Tryz.underlying38 ?_ ?_ ?_); rfl; rfl; exact (fun u hu => by obtain ⟨y, rfl⟩ := hu; exact q3 y); rfl; (rw [hz]; kernel_rfl); simp only [Act.put, List.setIfInBounds_toArray, List.set_cons_succ, List.set_cons_zero]; go_big_quiet_on)
      | (go_big_quiet_want; (with_reducible refine quiet_load_blk (op := ⟨some 35, _, _, _, _, _⟩) 38 (.tmp 3) ?_ b3 ?_ (z := z) (T := 38) ?_ Tryz.underlying38 ?_ ?_ ?_); rfl; rfl; exact (fun u hu => by obtain ⟨y, rfl⟩ := hu; exact q3 y); rfl; (rw [hz]; kernel_rfl); simp only [Act.put, List.setIfInBounds_toArray, List.set_cons_succ, List.set_cons_zero]; go_big_quiet_on)
      | (go_big_quiet_want; (with_reducible refine quiet_load_blk (op := ⟨some 45, _, _, _, _, _⟩) 38 (.tmp 3) ?_ b3 ?_ (z := z) (T := 38) ?_ Tryz.underlying38 ?_ ?_ ?_); rfl; rfl; exact (fun u hu => by obtain ⟨y, rfl⟩ := hu; exact q3 y); rfl; (rw [hz]; kernel_rfl); simp only [Act.put, List.setIfInBounds_toArray, List.set_cons_succ, List.set_cons_zero]; go_big_quiet_on)
      | (go_big_quiet_want; (with_reducible refine quiet_load_blk (op := ⟨some 46, _, _, _, _, _⟩) 38 (.tmp 6) ?_ b6 ?_ (z := z2) (T := 38) ?_ Tryz.underlying38 ?_ ?_ ?_); rfl; rfl; exact (fun u hu => by obtain ⟨y, rfl⟩ := hu; exact q6 y); rfl; (rw [hz2]; kernel_rfl); simp only [Act.put, List.setIfInBounds_toArray, List.set_cons_succ, List.set_cons_zero]; go_big_quiet_on)
      | go_big_quiet_step (first | (go_at_call 10; exact calm_of (hC _ (e0 _))) | (go_at_call 12; exact calm_of (hSa _ (e0 _)))))
    exact wpQuiet_nil rfl
  case hG => kernel_rfl
  case T =>
    refine tailX_new 11 _ 36 (by kernel_rfl) rfl rfl rfl rfl fun u x hc => gives_enter (f := 11) (args := #[.agg z]) (by simp [go_sem]) (hBy u x) ?_
    rintro e w6 ⟨v, rfl, ob, x6⟩
    refine ⟨v, rfl, hc.trans (x6.calm _), ?_⟩
    refine tailX_known 12 _ (.string (strOfNums bs)) (by kernel_rfl) rfl rfl rfl fun u2 x2 hc2 => ?_
    have hstr := (ob.ext x2).str
    refine gives_value (u' := u2) (v := .string (strOfNums bs)) (by simp [go_sem, hstr]) ⟨rfl, hc2, fun u3 x3 hc3 => ?_⟩
    exact HQ.out _ _ _ _ _ _ _ _ _ _ _ _ _ _ _ _ _ _ _ _ _ _ _ _ u3 hc3.ext
end Go.Proofs.YtbbfmlehddfneaaGreat

