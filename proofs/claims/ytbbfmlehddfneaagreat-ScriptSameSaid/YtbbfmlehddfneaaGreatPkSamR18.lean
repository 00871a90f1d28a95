/-
  DERIVED. Region 18 of ScriptSame: what is the same, what is not (made by mkscrsamelaw.py).
-/
import Derived.Test.YtbbfmlehddfneaaGreatPkIn
import Derived.Test.YtbbfmlehddfneaaGreatPkMix
namespace Go.Proofs.YtbbfmlehddfneaaGreat
open Go.RowKit
set_option linter.unusedVariables false
set_option maxRecDepth 100000 in
set_option maxHeartbeats 4000000 in
theorem scrsame_r18 (f0 f1 f2 f4 f5 f6 f10 f11 f12 f13 f14 f15 f16 f17 f18 f19 f20 f21 f22 f23 f24 f25 f26 f27 f28 f29 f30 f31 f32 f33 f34 f35 f36 f37 f38 f39 f40 f41 f42 f43 f44 f45 f46 f47 f48 f49 f50 f51 f52 f53 f54 f55 f56 f57 f58 f59 f60 f61 f62 f63 f64 f65 f66 f67 f68 f69 f70 f71 f72 f73 f74 f75 f76 f77 f78 f79 f80 f81 f82 f83 f84 f85 f86 f87 f88 f89 f90 f91 f92 f93 f94 f95 f96 f97 f98 : Value) (b3 b7 b8 b9 : Nat) (z z1 z2 z3 : Array Value) (hz : z.size = 10) (hz1 : z1.size = 22) (hz2 : z2.size = 22) (hz3 : z3.size = 22) (ba bb : List Int) (sm : Bool) (hsm : ((strOfNums ba).toList == (strOfNums bb).toList) = sm) (w : World) (B3 : Blk w b3 z 28) (B7 : Blk w b7 z1 38) (B8 : Blk w b8 z2 38) (B9 : Blk w b9 z3 38)
    (hS : ∀ u, Ext w u → Calls Tryz.prog 7 #[.agg z] u fun e w' => ∃ m : ScrM, e = .returned (.agg m.l.toArray) ∧ (∀ u', Ext w' u' → Calls Tryz.prog 12 #[.agg z1, .agg m.l.toArray] u' fun e w'' => e = .returned (.bool true) ∧ Ext u' w'') ∧ Ext u w')
    (hAC : ∀ u, Ext w u → Calls Tryz.prog 12 #[.agg z1, .agg z3] u fun e w' => e = .returned (.bool false) ∧ Ext u w')
    (hAB : ∀ u, Ext w u → Calls Tryz.prog 12 #[.agg z1, .agg z2] u fun e w' => e = .returned (.bool sm) ∧ Ext u w')
    (hBa : ∀ u, Ext w u → Calls Tryz.prog 11 #[.agg z1] u fun e w' => ∃ v, e = .returned v ∧ Own w' u.heap.size v ba ∧ Ext u w')
    (hBb : ∀ u, Ext w u → Calls Tryz.prog 11 #[.agg z2] u fun e w' => ∃ v, e = .returned v ∧ Own w' u.heap.size v bb ∧ Ext u w') {Q : Exit → Act → World → Prop}
    (hQ : ∀ (c76 c77 c78 c79 c80 c81 c82 c83 c84 c85 c86 c87 c88 c89 c90 c91 c92 c93 c94 c95 c96 c97 c98 : Value) (wx : World), Ext w wx → Q .normal ⟨(f0 :: f1 :: f2 :: Value.pointer (some ⟨b3, 0, none⟩) :: f4 :: f5 :: Value.bool true :: Value.pointer (some ⟨b7, 0, none⟩) :: Value.pointer (some ⟨b8, 0, none⟩) :: Value.pointer (some ⟨b9, 0, none⟩) :: f10 :: f11 :: f12 :: f13 :: f14 :: f15 :: f16 :: f17 :: f18 :: f19 :: f20 :: f21 :: f22 :: f23 :: f24 :: f25 :: f26 :: f27 :: f28 :: f29 :: f30 :: f31 :: f32 :: f33 :: f34 :: f35 :: f36 :: f37 :: f38 :: f39 :: f40 :: f41 :: f42 :: f43 :: f44 :: f45 :: f46 :: f47 :: f48 :: f49 :: f50 :: f51 :: f52 :: f53 :: f54 :: f55 :: f56 :: f57 :: f58 :: f59 :: f60 :: f61 :: f62 :: f63 :: f64 :: f65 :: f66 :: f67 :: f68 :: f69 :: f70 :: f71 :: f72 :: f73 :: f74 :: f75 :: c76 :: c77 :: c78 :: c79 :: c80 :: c81 :: c82 :: c83 :: c84 :: c85 :: c86 :: c87 :: c88 :: c89 :: c90 :: c91 :: c92 :: c93 :: c94 :: c95 :: c96 :: c97 :: c98 :: List.nil).toArray, []⟩ wx) :
    Code.wp Tryz.prog (regionOf Tryz.f4 18) Q ⟨(f0 :: f1 :: f2 :: Value.pointer (some ⟨b3, 0, none⟩) :: f4 :: f5 :: f6 :: Value.pointer (some ⟨b7, 0, none⟩) :: Value.pointer (some ⟨b8, 0, none⟩) :: Value.pointer (some ⟨b9, 0, none⟩) :: f10 :: f11 :: f12 :: f13 :: f14 :: f15 :: f16 :: f17 :: f18 :: f19 :: f20 :: f21 :: f22 :: f23 :: f24 :: f25 :: f26 :: f27 :: f28 :: f29 :: f30 :: f31 :: f32 :: f33 :: f34 :: f35 :: f36 :: f37 :: f38 :: f39 :: f40 :: f41 :: f42 :: f43 :: f44 :: f45 :: f46 :: f47 :: f48 :: f49 :: f50 :: f51 :: f52 :: f53 :: f54 :: f55 :: f56 :: f57 :: f58 :: f59 :: f60 :: f61 :: f62 :: f63 :: f64 :: f65 :: f66 :: f67 :: f68 :: f69 :: f70 :: f71 :: f72 :: f73 :: f74 :: f75 :: f76 :: f77 :: f78 :: f79 :: f80 :: f81 :: f82 :: f83 :: f84 :: f85 :: f86 :: f87 :: f88 :: f89 :: f90 :: f91 :: f92 :: f93 :: f94 :: f95 :: f96 :: f97 :: f98 :: List.nil).toArray, []⟩ w := by
  have HQ := Lib.hid hQ
  clear hQ
  change Code.wp Tryz.prog (Code.region _ _ true) _ _ _
  apply wp_region_mix 30 [none, none, some undef, some (.bool true), none, none, none, none, none, none, none, none, none, none, none, some undef, some (.string (strOfNums ba)), none, some undef, some (.string (strOfNums bb)), none, none, none, none] [78, 91, 94] [] _ [2, 3, 15, 16, 18, 19] 6 (by kernel_rfl) (by kernel_rfl) (by kernel_rfl) rfl
  case H =>
    intro y0 hy0
    have hne : Nonempty (Wx y0) := ⟨⟨y0, Ext.refl y0⟩⟩
    have e0 := fun (y : Wx y0) => hy0.ext.trans y.ext
    have q3 := fun (y : Wx y0) => B3.ext (e0 y)
    have q7 := fun (y : Wx y0) => B7.ext (e0 y)
    have q8 := fun (y : Wx y0) => B8.ext (e0 y)
    have q9 := fun (y : Wx y0) => B9.ext (e0 y)
    simp only [replM]
    repeat (first
      | (go_big_quiet_want; (with_reducible refine quiet_load_blk (op := ⟨some 76, _, _, _, _, _⟩) 38 (.tmp 7) ?_ b7 ?_ (z := z1) (T := 38) ?_ Tryz.underlying38 ?_ ?_ ?_); rfl; rfl; exact (fun u hu => by obtain ⟨y, rfl⟩ := hu; exact q7 y); rfl; (rw [hz1]; kernel_rfl); simp only [Act.put, List.setIfInBounds_toArray, List.set_cons_succ, List.set_cons_zero]; go_big_quiet_on)
      | (go_big_quiet_want; (with_reducible refine quiet_load_blk (op := ⟨some 77, _, _, _, _, _⟩) 28 (.tmp 3) ?_ b3 ?_ (z := z) (T := 28) ?_ Tryz.underlying28 ?_ ?_ ?_); rfl; rfl; exact (fun u hu => by obtain ⟨y, rfl⟩ := hu; exact q3 y); rfl; (rw [hz]; kernel_rfl); simp only [Act.put, List.setIfInBounds_toArray, List.set_cons_succ, List.set_cons_zero]; go_big_quiet_on)
      | (go_big_quiet_want; (with_reducible refine quiet_load_blk (op := ⟨some 81, _, _, _, _, _⟩) 38 (.tmp 7) ?_ b7 ?_ (z := z1) (T := 38) ?_ Tryz.underlying38 ?_ ?_ ?_); rfl; rfl; exact (fun u hu => by obtain ⟨y, rfl⟩ := hu; exact q7 y); rfl; (rw [hz1]; kernel_rfl); simp only [Act.put, List.setIfInBounds_toArray, List.set_cons_succ, List.set_cons_zero]; go_big_quiet_on)
      | (go_big_quiet_want; (with_reducible refine quiet_load_blk (op := ⟨some 82, _, _, _, _, _⟩) 38 (.tmp 9) ?_ b9 ?_ (z := z3) (T := 38) ?_ Tryz.underlying38 ?_ ?_ ?_); rfl; rfl; exact (fun u hu => by obtain ⟨y, rfl⟩ := hu; exact q9 y); rfl; (rw [hz3]; kernel_rfl); simp only [Act.put, List.setIfInBounds_toArray, List.set_cons_succ, List.set_cons_zero]; go_big_quiet_on)
      | (go_big_quiet_want; (with_reducible refine quiet_load_blk (op := ⟨some 87, _, _, _, _, _⟩) 38 (.tmp 7) ?_ b7 ?_ (z := z1) (T := 38) ?_ Tryz.underlying38 ?_ ?_ ?_); rfl; rfl; exact (fun u hu => by obtain ⟨y, rfl⟩ := hu; exact q7 y); rfl; (rw [hz1]; kernel_rfl); simp only [Act.put, List.setIfInBounds_toArray, List.set_cons_succ, List.set_cons_zero]; go_big_quiet_on)
      | (go_big_quiet_want; (with_reducible refine quiet_load_blk (op := ⟨some 88, _, _, _, _, _⟩) 38 (.tmp 8) ?_ b8 ?_ (z := z2) (T := 38) ?_ Tryz.underlying38 ?_ ?_ ?_); rfl; rfl; exact (fun u hu => by obtain ⟨y, rfl⟩ := hu; exact q8 y); rfl; (rw [hz2]; kernel_rfl); simp only [Act.put, List.setIfInBounds_toArray, List.set_cons_succ, List.set_cons_zero]; go_big_quiet_on)
      | (go_big_quiet_want; (with_reducible refine quiet_load_blk (op := ⟨some 90, _, _, _, _, _⟩) 38 (.tmp 7) ?_ b7 ?_ (z := z1) (T := 38) ?_ Tryz.underlying38 ?_ ?_ ?_); rfl; rfl; exact (fun u hu => by obtain ⟨y, rfl⟩ := hu; exact q7 y); rfl; (rw [hz1]; kernel_rfl); simp only [Act.put, List.setIfInBounds_toArray, List.set_cons_succ, List.set_cons_zero]; go_big_quiet_on)
      | (go_big_quiet_want; (with_reducible refine quiet_load_blk (op := ⟨some 93, _, _, _, _, _⟩) 38 (.tmp 8) ?_ b8 ?_ (z := z2) (T := 38) ?_ Tryz.underlying38 ?_ ?_ ?_); rfl; rfl; exact (fun u hu => by obtain ⟨y, rfl⟩ := hu; exact q8 y); rfl; (rw [hz2]; kernel_rfl); simp only [Act.put, List.setIfInBounds_toArray, List.set_cons_succ, List.set_cons_zero]; go_big_quiet_on)
      | go_big_quiet_step (first | (go_at_call 12; first | (with_reducible exact calm_of (hAC _ (e0 _))) | (with_reducible exact calm_of (hAB _ (e0 _))))))
    first
      | exact wpQuiet_nil rfl
      | (simp only [hsm, beq_self_eq_true]; exact wpQuiet_nil rfl)
  case hG => kernel_rfl
  case T =>
    refine tailX_new 2 _ 78 (by kernel_rfl) rfl rfl rfl rfl fun u x hc => gives_enter (f := 7) (args := #[.agg z]) (by simp [go_sem]) (hS u hc.ext) ?_
    rintro e w6 ⟨m, rfl, hm, x6⟩
    refine ⟨_, rfl, hc.trans (x6.calm _), ?_⟩
    refine tailX_known 3 _ (.bool true) (by kernel_rfl) rfl rfl rfl fun u3 x3 hc3 => gives_enter (f := 12) (args := #[.agg z1, .agg m.l.toArray]) (by simp [go_sem]) (hm u3 x3) ?_
    rintro e w7 ⟨rfl, x7⟩
    refine ⟨_, rfl, rfl, hc3.trans (x7.calm _), ?_⟩
    refine tailX_new 15 _ 91 (by kernel_rfl) rfl rfl rfl rfl fun u4 x4 hc4 => gives_enter (f := 11) (args := #[.agg z1]) (by simp [go_sem]) (hBa u4 hc4.ext) ?_
    rintro e w8 ⟨v8, rfl, o8, x8⟩
    refine ⟨_, rfl, hc4.trans (x8.calm _), ?_⟩
    have HB := hBb
    refine tailX_pair 16 18 (by kernel_rfl) (fun o ho u5 x5 hc5 => ?_) (fun o ho u5 x5 hc5 => ?_)
    · obtain rfl := (Option.some.inj ho).symm
      have s5 := (o8.ext x5).str
      refine gives_value (u' := u5) (v := .string (strOfNums ba)) (by simp [go_sem, s5]) ⟨hc5, .inr rfl, ?_⟩
      refine tailX_new 18 _ 94 (by kernel_rfl) rfl rfl rfl rfl fun u6 x6' hc6 => gives_enter (f := 11) (args := #[.agg z2]) (by simp [go_sem]) (HB u6 hc6.ext) ?_
      rintro e w9 ⟨v9, rfl, o9, x9⟩
      refine ⟨_, rfl, hc6.trans (x9.calm _), ?_⟩
      refine tailX_known 19 _ (.string (strOfNums bb)) (by kernel_rfl) rfl rfl rfl fun u7 x7' hc7 => ?_
      have s7 := (o9.ext x7').str
      refine gives_value (u' := u7) (v := .string (strOfNums bb)) (by simp [go_sem, s7]) ⟨rfl, hc7, fun u8 x8' hc8 => ?_⟩
      exact HQ.out _ _ _ _ _ _ _ _ _ _ _ _ _ _ _ _ _ _ _ _ _ _ _ u8 hc8.ext
    · obtain rfl := (Option.some.inj ho).symm
      refine gives_enter (f := 11) (args := #[.agg z2]) (by simp [go_sem]) (HB u5 hc5.ext) ?_
      rintro e w9 ⟨v9, rfl, o9, x9⟩
      have hc9 := hc5.trans (x9.calm [])
      have x89 := x5.trans x9
      refine ⟨_, rfl, hc9, .inl ⟨94, rfl, rfl⟩, ?_⟩
      refine tailX_pair 16 19 (by kernel_rfl) (fun o ho u6 x6' hc6 => ?_) (fun o ho u6 x6' hc6 => ?_)
      · obtain rfl := (Option.some.inj ho).symm
        have s5 := (o8.ext (x89.trans x6')).str
        refine gives_value (u' := u6) (v := .string (strOfNums ba)) (by simp [go_sem, s5]) ⟨hc6, .inr rfl, ?_⟩
        refine tailX_known 19 _ (.string (strOfNums bb)) (by kernel_rfl) rfl rfl rfl fun u7 x7' hc7 => ?_
        have s7 := (o9.ext (x6'.trans x7')).str
        refine gives_value (u' := u7) (v := .string (strOfNums bb)) (by simp [go_sem, s7]) ⟨rfl, hc7, fun u8 x8' hc8 => ?_⟩
        exact HQ.out _ _ _ _ _ _ _ _ _ _ _ _ _ _ _ _ _ _ _ _ _ _ _ u8 hc8.ext
      · obtain rfl := (Option.some.inj ho).symm
        have s7 := (o9.ext x6').str
        refine gives_value (u' := u6) (v := .string (strOfNums bb)) (by simp [go_sem, s7]) ⟨hc6, .inr rfl, ?_⟩
        refine tailX_known 16 _ (.string (strOfNums ba)) (by kernel_rfl) rfl rfl rfl fun u7 x7' hc7 => ?_
        have s5 := (o8.ext ((x89.trans x6').trans x7')).str
        refine gives_value (u' := u7) (v := .string (strOfNums ba)) (by simp [go_sem, s5]) ⟨rfl, hc7, fun u8 x8' hc8 => ?_⟩
        exact HQ.out _ _ _ _ _ _ _ _ _ _ _ _ _ _ _ _ _ _ _ _ _ _ _ u8 hc8.ext
end Go.Proofs.YtbbfmlehddfneaaGreat

