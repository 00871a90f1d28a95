/-
  DERIVED. Layer 11's law: what of Script is walked apart (made by mkscr2.py).
-/
import Derived.Test.YtbbfmlehddfneaaPkPart
import Derived.Test.YtbbfmlehddfneaaPkGs
namespace Go.Proofs.Ytbbfmlehddfneaa
open Go.RowKit
set_option linter.unusedVariables false
set_option maxRecDepth 100000 in
set_option maxHeartbeats 4000000 in
theorem scr_r21 (f0 f1 f2 f4 f5 f6 f7 f8 f9 f11 f12 f13 f14 f15 f16 f17 f18 f19 f20 f21 f22 f23 f24 f25 f26 f27 f28 f29 f30 f31 f32 f33 f34 f35 f36 f37 f38 f39 f40 f41 f42 f43 f44 f45 f46 f47 f48 f49 f50 f51 f52 f53 f54 f55 f56 f57 f58 f59 f60 f61 f62 f63 f64 f65 f66 f67 f68 f69 f70 f71 f72 f73 f74 f75 f76 f77 f78 f79 f80 f81 f82 f83 f84 f85 f86 f87 f88 f89 f90 f91 f92 f93 f94 f95 f96 f97 f98 f99 f100 f101 f102 f103 f104 f105 f106 f107 f108 f109 f110 : Value) (bx b10 j dvC lo : Nat) (dvA : Option Addr) (z0 z1 z2 z3 z4 z5 z6 z7 z8 z9 z10 z11 z12 z13 z14 z15 z16 z17 u1 u2 u3 : Value) (x : DSm) (dd : Dr) (dms : List DrM) (w : World) (Bs : Blk w b10 x.l.toArray 79) (G5 : Blk w bx #[z0, z1, z2, z3, z4, z5, z6, z7, z8, z9, z10, z11, z12, z13, z14, z15, z16, z17, u1, u2, u3, .slice dvA j dvC] 42) (oD5 : OwnG LD w lo (.slice dvA j dvC) dms) (apD : ∀ m ∈ dms, ∀ k, m.ix.v.ownBlock = some k → (Value.slice dvA j dvC).ownBlock ≠ some k) (hpD : ∀ m ∈ dms, ∀ k, m.ix.v.ownBlock = some k → lo ≤ k ∧ k < w.heap.size) (hlo : bx < lo) (hlw : lo ≤ w.heap.size) (hj : dms.length = j) (hj5 : j ≤ 40) (hb10o : ∀ k, (Value.slice dvA j dvC).ownBlock = some k → k ≠ b10) (hD2 : ∀ u, Ext w u → Calls Try.prog 16 #[.agg x.l.toArray, .agg #[z0, z1, z2, z3, z4, z5, z6, z7, z8, z9, z10, z11, z12, z13, z14, z15, z16, z17, u1, u2, u3, .slice dvA j dvC]] u fun e w' => ∃ m : DrM, e = .returned (.agg m.l.toArray) ∧ m.is dd ∧ OwnI w' u.heap.size m.ix.v dd.idx ∧ Ext u w') {Q : Exit → Act → World → Prop}
    (hQ : ∀ (c101 c102 c103 c104 c105 c106 c107 c108 : Value) (m6 : DrM) (ao8 : Option Addr) (c8 : Nat) (wx : World), OwnG LD wx lo (.slice ao8 (j + 1) c8) (dms ++ [m6]) → m6.is dd → OwnI wx w.heap.size m6.ix.v dd.idx → (∀ m ∈ dms ++ [m6], ∀ k, m.ix.v.ownBlock = some k → (Value.slice ao8 (j + 1) c8).ownBlock ≠ some k) → Blk wx bx #[z0, z1, z2, z3, z4, z5, z6, z7, z8, z9, z10, z11, z12, z13, z14, z15, z16, z17, u1, u2, u3, .slice ao8 (j + 1) c8] 42 → Calm (bx :: (Value.slice dvA j dvC).ownBlock.toList) w wx → Q .normal ⟨(f0 :: f1 :: f2 :: Value.pointer (some ⟨bx, 0, none⟩) :: f4 :: f5 :: f6 :: f7 :: f8 :: f9 :: Value.pointer (some ⟨b10, 0, none⟩) :: f11 :: f12 :: f13 :: f14 :: f15 :: f16 :: f17 :: f18 :: f19 :: f20 :: f21 :: f22 :: f23 :: f24 :: f25 :: f26 :: f27 :: f28 :: f29 :: f30 :: f31 :: f32 :: f33 :: f34 :: f35 :: f36 :: f37 :: f38 :: f39 :: f40 :: f41 :: f42 :: f43 :: f44 :: f45 :: f46 :: f47 :: f48 :: f49 :: f50 :: f51 :: f52 :: f53 :: f54 :: f55 :: f56 :: f57 :: f58 :: f59 :: f60 :: f61 :: f62 :: f63 :: f64 :: f65 :: f66 :: f67 :: f68 :: f69 :: f70 :: f71 :: f72 :: f73 :: f74 :: f75 :: f76 :: f77 :: f78 :: f79 :: f80 :: f81 :: f82 :: f83 :: f84 :: f85 :: f86 :: f87 :: f88 :: f89 :: f90 :: f91 :: f92 :: f93 :: f94 :: f95 :: f96 :: f97 :: f98 :: f99 :: f100 :: c101 :: c102 :: c103 :: c104 :: c105 :: c106 :: c107 :: c108 :: f109 :: f110 :: List.nil).toArray, []⟩ wx) : Code.wp Try.prog (regionOf Try.f8 21) Q ⟨(f0 :: f1 :: f2 :: Value.pointer (some ⟨bx, 0, none⟩) :: f4 :: f5 :: f6 :: f7 :: f8 :: f9 :: Value.pointer (some ⟨b10, 0, none⟩) :: f11 :: f12 :: f13 :: f14 :: f15 :: f16 :: f17 :: f18 :: f19 :: f20 :: f21 :: f22 :: f23 :: f24 :: f25 :: f26 :: f27 :: f28 :: f29 :: f30 :: f31 :: f32 :: f33 :: f34 :: f35 :: f36 :: f37 :: f38 :: f39 :: f40 :: f41 :: f42 :: f43 :: f44 :: f45 :: f46 :: f47 :: f48 :: f49 :: f50 :: f51 :: f52 :: f53 :: f54 :: f55 :: f56 :: f57 :: f58 :: f59 :: f60 :: f61 :: f62 :: f63 :: f64 :: f65 :: f66 :: f67 :: f68 :: f69 :: f70 :: f71 :: f72 :: f73 :: f74 :: f75 :: f76 :: f77 :: f78 :: f79 :: f80 :: f81 :: f82 :: f83 :: f84 :: f85 :: f86 :: f87 :: f88 :: f89 :: f90 :: f91 :: f92 :: f93 :: f94 :: f95 :: f96 :: f97 :: f98 :: f99 :: f100 :: f101 :: f102 :: f103 :: f104 :: f105 :: f106 :: f107 :: f108 :: f109 :: f110 :: List.nil).toArray, []⟩ w := by
  have HQ := Lib.hid hQ
  clear hQ
  change Code.wp Try.prog (Code.region _ _ true) _ _ _
  have hDlt := oD5.lt
  have hbx := G5.lt
  have hb10 := Bs.lt
  have nb : bx ∉ (Value.slice dvA j dvC).ownBlock.toList := fun h => by have := (hDlt _ (Option.mem_toList.1 h)).1; omega
  have n10 : b10 ∉ (Value.slice dvA j dvC).ownBlock.toList := fun h => hb10o _ (Option.mem_toList.1 h) rfl
  have hzl : x.l.toArray.size = 26 := rfl
  apply wp_region_last 6 [false, false, false, false, true, true, true, false, true] [105, 106, 107] (Value.slice dvA j dvC).ownBlock.toList (bx :: (Value.slice dvA j dvC).ownBlock.toList) _ (by kernel_rfl) (by kernel_rfl) (by kernel_rfl) (by kernel_rfl)
  case H =>
    intro w0 hx0
    have hne : Nonempty (Wx w0) := ⟨⟨w0, Ext.refl w0⟩⟩
    have qB := fun (y : Wx w0) => (G5.calm hx0 nb).ext y.ext
    have qX := fun (y : Wx w0) => (Bs.calm hx0 n10).ext y.ext
    have q0 := fun (y : Wx w0) => (qB y).cell
    simp only [eraseM]
    repeat (first
      | (go_big_quiet_want; (with_reducible refine quiet_load_blk (op := ⟨some 103, _, _, _, _, _⟩) 79 (.tmp 10) ?_ b10 ?_ (z := x.l.toArray) (T := 79) ?_ Try.underlying79 ?_ ?_ ?_); rfl; rfl; exact (fun u hu => by obtain ⟨y, rfl⟩ := hu; exact qX y); rfl; (rw [hzl]; kernel_rfl); simp only [Act.put, List.setIfInBounds_toArray, List.set_cons_succ, List.set_cons_zero]; go_big_quiet_on)
      | (go_big_quiet_want; (with_reducible refine quiet_load_blk (op := ⟨some 104, _, _, _, _, _⟩) 42 (.tmp 3) ?_ bx ?_ (z := #[z0, z1, z2, z3, z4, z5, z6, z7, z8, z9, z10, z11, z12, z13, z14, z15, z16, z17, u1, u2, u3, .slice dvA j dvC]) (T := 42) ?_ Try.underlying42 ?_ ?_ ?_); rfl; rfl; exact (fun u hu => by obtain ⟨y, rfl⟩ := hu; exact qB y); rfl; kernel_rfl; simp only [Act.put, List.setIfInBounds_toArray, List.set_cons_succ, List.set_cons_zero]; go_big_quiet_on)
      | go_big_quiet_step (fail))
    exact wpQuiet_nil rfl
  case hF => rfl
  case T =>
    change tailL _ _ _ _ _ [_, _, _, _] _ _
    refine fun u x0 hc => gives_enter (f := 16) (args := #[.agg x.l.toArray, .agg #[z0, z1, z2, z3, z4, z5, z6, z7, z8, z9, z10, z11, z12, z13, z14, z15, z16, z17, u1, u2, u3, .slice dvA j dvC]]) (by simp [go_sem]) (hD2 u x0) ?_
    rintro e w6 ⟨m6, rfl, hm6, oX6, x6⟩
    have hc6 := hc.trans (x6.calm _)
    refine ⟨.agg m6.l.toArray, rfl, hc6.sub (fun b hb => List.mem_cons_of_mem _ hb), fun _ => hc6, fun u2 x2 hc2 => ?_⟩
    have K2 := hc2.trans (((Ext.refl u2).alloc m6.l.toArray 67).calm _)
    refine gives_value (u' := u2.alloc (.cells m6.l.toArray 67)) (v := .slice (some ⟨u2.heap.size, 0, none⟩) 1 1) ?_ ⟨K2.sub (fun b hb => List.mem_cons_of_mem _ hb), fun _ => K2, fun u3 x3 hc3 => ?_⟩
    · simp [go_sem]
    have x03 : Ext w u3 := (((x0.trans x6).trans x2).alloc _ _).trans x3
    have o3 := oD5.ext x03
    have hcn : ∀ i t, (LD.cells m6)[i]? = some t → u3.cell? ⟨u2.heap.size, i, none⟩ = some t := fun i t ht => by
      rw [((Blk.new u2 _ _).ext x3).cell]
      have hu' : (m6.l.toArray : Array Value).toList[i]? = some t := ht
      simpa using hu'
    have hz3 := x03.size
    refine gives_append_g1 LD (.tmp 102) (.tmp 106) rfl lo _ _ rfl o3 u2.heap.size 1 m6 rfl hcn (by omega) (by omega) ?_
    intro v4 w4 o4 A4 hk4
    obtain ⟨ao8, c8, rfl, -, -⟩ := o4.slice
    have K4 := hc3.trans A4
    refine ⟨K4.sub (fun b hb => List.mem_cons_of_mem _ hb), fun _ => K4, fun u5 x5 hc5 => ?_⟩
    have G5' := G5.calm hc5 nb
    have cG := G5'.cell
    have fG := G5'.frozen
    refine gives_skip (u' := u5.setCell ⟨bx, 21, none⟩ (.slice ao8 (dms ++ [m6]).length c8)) (by simp [go_sem, cG, fG]) ⟨(hc5.sub (fun b hb => List.mem_cons_of_mem _ hb)).trans ((calm_setP u5 bx 21 _).sub (fun b hb => by simp at hb; simp [hb])), fun h => absurd rfl h, fun u6 x6' hc6' => ?_⟩
    have hXl : ∀ k, m6.ix.v.ownBlock = some k → u.heap.size ≤ k ∧ k < w6.heap.size := fun k hk => oX6.lt k hk
    have z0 := x0.size
    have z2 := x2.size
    have z3 := x3.size
    rw [World.size_alloc] at z3
    have ap4 : ∀ m ∈ dms ++ [m6], ∀ k, m.ix.v.ownBlock = some k → (Value.slice ao8 (dms ++ [m6]).length c8).ownBlock ≠ some k := fun m hm k hk hv => by
      rcases hk4 k hv with h1 | h1
      · rcases List.mem_append.1 hm with h2 | h2
        · exact apD m h2 k hk h1
        · rw [List.mem_singleton.1 h2] at hk
          have h3 := (hDlt k h1).2
          have h4 := (hXl k hk).1
          omega
      · rcases List.mem_append.1 hm with h2 | h2
        · have := (hpD m h2 k hk).2
          omega
        · rw [List.mem_singleton.1 h2] at hk
          have := (hXl k hk).2
          omega
    have oX4 := ((((oX6.ext x2).ext ((Ext.refl u2).alloc m6.l.toArray 67)).ext x3).calm A4 (fun k hk hin => by
      have h1 := (hDlt k (Option.mem_toList.1 hin)).2
      have h2 := (hXl k hk).1
      omega)).ext x5
    have kS := calm_setP u5 bx 21 (.slice ao8 (dms ++ [m6]).length c8)
    have oX5 := (oX4.calm kS (fun k hk hin => by
      have h1 := (hXl k hk).1
      simp at hin
      omega)).ext x6'
    have o5 := ((o4.ext x5).calm kS (fun k hk hin => by
      have h1 := (o4.lt k hk).1
      simp at hin
      omega)).ext x6'
    have G9 := (G5'.set 21 (.slice ao8 (dms ++ [m6]).length c8)).ext x6'
    have hlen : (dms ++ [m6]).length = j + 1 := by simp [hj]
    rw [hlen] at o5 ap4 G9
    simp only [List.setIfInBounds_toArray, List.set_cons_succ, List.set_cons_zero] at G9
    have oX6' := oX5.mono z0
    simp only [Act.put, List.setIfInBounds_toArray, List.set_cons_succ, List.set_cons_zero]
    exact HQ.out _ _ _ _ _ _ _ _ m6 ao8 c8 _ o5 hm6 oX6' ap4 G9 hc6'
end Go.Proofs.Ytbbfmlehddfneaa

