/-
  DERIVED. Layer 11's law: what of Script is walked apart (made by mkscr2.py).
-/
import Derived.Test.YtbbfmlehddfneaaPkScrB
import Derived.Test.YtbbfmlehddfneaaPkVec
import Derived.Test.YtbbfmlehddfneaaPkFix
import Derived.RegionTactic
import Derived.Deep.RegionLaw
import Derived.Deep.RegionHeld3
namespace Go.Proofs.Ytbbfmlehddfneaa
open Go.RowKit
set_option linter.unusedVariables false

def padV (n : Nat) : VSm := if n = 0 then ⟨-20000, 0, 9000, 3000, 200, 90, 0, 255, false⟩ else if n = 1 then ⟨0, 15000, 9000, 3000, 200, 90, 100, 255, false⟩ else ⟨20000, 0, 9000, 3000, 200, 90, 200, 255, false⟩
def pad3 (l : List V8) : List V8 := if l.length = 0 then l ++ [vxF (padV 0), vxF (padV 1), vxF (padV 2)] else if l.length = 1 then l ++ [vxF (padV 1), vxF (padV 2)] else if l.length = 2 then l ++ [vxF (padV 2)] else l
/-- programs whose blocks all lie from lo on and below hi -/
def PB (w : World) (lo hi : Nat) (v : Value) (P : List (List In)) : Prop := ∃ svs, OwnG LP w lo v svs ∧ ProgsAt w lo svs P ∧ (∀ s ∈ svs, ∀ k, s.v.ownBlock = some k → v.ownBlock ≠ some k) ∧ (∀ k, v.ownBlock = some k → k < hi) ∧ ∀ s ∈ svs, ∀ k, s.v.ownBlock = some k → k < hi
theorem PB.calm {w w' : World} {lo hi : Nat} {v : Value} {P : List (List In)} {O : List Nat} (h : PB w lo hi v P) (x : Calm O w w') (hO : ∀ b ∈ O, b < lo ∨ hi ≤ b) : PB w' lo hi v P := by
  obtain ⟨svs, h1, h2, h3, h4, h5⟩ := h
  refine ⟨svs, h1.calm x (fun k hk hin => ?_), h2.calm x (fun s hs k hk hin => ?_), h3, h4, h5⟩
  · have a := h4 k hk
    have b := (h1.lt k hk).1
    rcases hO k hin with c | c <;> omega
  · have a := h5 s hs k hk
    have b := (h2.lt s hs k hk).1
    rcases hO k hin with c | c <;> omega
theorem PB.ext {w w' : World} {lo hi : Nat} {v : Value} {P : List (List In)} (h : PB w lo hi v P) (x : Ext w w') : PB w' lo hi v P := h.calm (x.calm []) (fun b hb => by simp at hb)
theorem PB.of {w : World} {lo : Nat} {v : Value} {svs : List SlV} {P : List (List In)} (h1 : OwnG LP w lo v svs) (h2 : ProgsAt w lo svs P) (h3 : ∀ s ∈ svs, ∀ k, s.v.ownBlock = some k → v.ownBlock ≠ some k) : PB w lo w.heap.size v P :=
  ⟨svs, h1, h2, h3, fun k hk => (h1.lt k hk).2, fun s hs k hk => (h2.lt s hs k hk).2⟩
/-- draws, one behind the other, and their indices -/
def DrawsAt (w : World) (lo : Nat) (dms : List DrM) (Ds : List Dr) : Prop := dms.length = Ds.length ∧ ∀ (i : Nat) (m : DrM), dms[i]? = some m → ∃ d, Ds[i]? = some d ∧ m.is d ∧ OwnI w lo m.ix.v d.idx
theorem DrawsAt.calm {w w' : World} {lo : Nat} {dms : List DrM} {Ds : List Dr} {O : List Nat} (h : DrawsAt w lo dms Ds) (x : Calm O w w') (hO : ∀ m ∈ dms, ∀ k, m.ix.v.ownBlock = some k → k ∉ O) : DrawsAt w' lo dms Ds :=
  ⟨h.1, fun i m hm => by obtain ⟨d, e1, e2, e3⟩ := h.2 i m hm; exact ⟨d, e1, e2, e3.calm x (hO m (List.mem_of_getElem? hm))⟩⟩
theorem DrawsAt.ext {w w' : World} {lo : Nat} {dms : List DrM} {Ds : List Dr} (h : DrawsAt w lo dms Ds) (x : Ext w w') : DrawsAt w' lo dms Ds := h.calm (x.calm []) (fun m hm k hk => by simp)
theorem DrawsAt.lt {w : World} {lo : Nat} {dms : List DrM} {Ds : List Dr} (h : DrawsAt w lo dms Ds) : ∀ m ∈ dms, ∀ k, m.ix.v.ownBlock = some k → lo ≤ k ∧ k < w.heap.size := fun m hm k hk => by
  obtain ⟨i, hi, e⟩ := List.mem_iff_getElem.1 hm
  obtain ⟨d, _, _, e3⟩ := h.2 i m (by rw [List.getElem?_eq_getElem hi, e])
  exact e3.lt k hk
theorem DrawsAt.snoc {w : World} {lo : Nat} {dms : List DrM} {Ds : List Dr} (h : DrawsAt w lo dms Ds) {m : DrM} {d : Dr} (h1 : m.is d) (h2 : OwnI w lo m.ix.v d.idx) : DrawsAt w lo (dms ++ [m]) (Ds ++ [d]) := by
  refine ⟨by simp [h.1], fun i t ht => ?_⟩
  rcases Nat.lt_or_ge i dms.length with hi | hi
  · rw [List.getElem?_append_left hi] at ht
    obtain ⟨ys, e1, e2⟩ := h.2 i t ht
    exact ⟨ys, by rw [List.getElem?_append_left (by rw [← h.1]; exact hi)]; exact e1, e2⟩
  · rw [List.getElem?_append_right hi] at ht
    have hi2 : i = dms.length := by
      have := (List.getElem?_eq_some_iff.1 ht).1
      simp at this
      omega
    subst hi2
    simp at ht
    subst ht
    exact ⟨d, by rw [h.1]; simp, h1, h2⟩
/-- what lies behind small draws -/
def DConts (w : World) (ds : List DSm) (LX : List (List Int)) : Prop := ds.length = LX.length ∧ ∀ (i : Nat) (d : DSm), ds[i]? = some d → ∃ xs, LX[i]? = some xs ∧ d.ok ∧ Arr w .u8 d.ix.v xs
theorem dconts_of {w : World} {ds : List DSm} (h : ∀ a ∈ ds, a.Q w) : ∃ LX, DConts w ds LX := by
  induction ds with
  | nil => exact ⟨[], rfl, fun i s hs => by simp at hs⟩
  | cons a r ih =>
    obtain ⟨L, h1, h2⟩ := ih (fun x hx => h x (List.mem_cons_of_mem _ hx))
    obtain ⟨hok, xs, hx⟩ := h a (List.mem_cons_self ..)
    refine ⟨xs :: L, by simp [h1], fun i s hs => ?_⟩
    cases i with
    | zero => simp at hs; subst hs; exact ⟨xs, rfl, hok, hx⟩
    | succ i => simp at hs; obtain ⟨ys, e1, e2⟩ := h2 i s hs; exact ⟨ys, by simpa using e1, e2⟩
def drawsF (ds : List DSm) (LX : List (List Int)) (nv ns np : Nat) : List Dr := List.zipWith (fun d xs => drawF d xs nv ns np) ds LX
theorem drawsF_snoc {ds : List DSm} {LX : List (List Int)} {nv ns np j : Nat} {d : DSm} {xs : List Int} (h5 : j < 5) (hd : ds[j]? = some d) (hx : LX[j]? = some xs) : ((drawsF ds LX nv ns np).take 5).take (j + 1) = ((drawsF ds LX nv ns np).take 5).take j ++ [drawF d xs nv ns np] := by
  rw [List.take_take, List.take_take, show min (j + 1) 5 = j + 1 by omega, show min j 5 = j by omega, List.take_add_one]
  simp [drawsF, List.getElem?_zipWith, hd, hx]
theorem PB.bound {w : World} {lo hi n c : Nat} {ao : Option Addr} {P : List (List In)} (h : PB w lo hi (.slice ao n c) P) (h1 : 1 ≤ P.length) (h2 : P.length ≤ 100) : 1 ≤ n ∧ n ≤ 100 := by
  obtain ⟨svs, k1, k2, _⟩ := h
  obtain ⟨_, _, e, -, -⟩ := k1.slice
  cases e
  rw [k2.1]
  exact ⟨h1, h2⟩
theorem pad3_step {l : List V8} {m : Nat} (h : l.length = m) (hm : m < 3) : pad3 (l ++ [vxF (padV m)]) = pad3 l := by
  rcases (by omega : m = 0 ∨ m = 1 ∨ m = 2) with rfl | rfl | rfl
  · simp [pad3, h]
  · simp [pad3, h]
  · simp [pad3, h]
theorem pad3_done {l : List V8} (h : 3 ≤ l.length) : pad3 l = l := by
  unfold pad3
  rw [if_neg (by omega), if_neg (by omega), if_neg (by omega)]
theorem idx4i (x0 x1 x2 x3 : Value) (w : World) :
    (Instr.index 23 (.agg #[x0, x1, x2, x3]) (.int .i64 0)).run Try.prog w = .ok x0 w ∧ (Instr.index 23 (.agg #[x0, x1, x2, x3]) (.int .i64 1)).run Try.prog w = .ok x1 w ∧
    (Instr.index 23 (.agg #[x0, x1, x2, x3]) (.int .i64 2)).run Try.prog w = .ok x2 w ∧ (Instr.index 23 (.agg #[x0, x1, x2, x3]) (.int .i64 3)).run Try.prog w = .ok x3 w := by
  refine ⟨?_, ?_, ?_, ?_⟩ <;> simp [Instr.index, asIntOf, run_underlying Try.underlying23, go_sem, part]
theorem mkScr (u : World) : (Instr.alloc 42 true (.tuple #[])).run Try.prog u = .ok (.pointer (some ⟨u.heap.size, 0, none⟩)) (u.alloc (.cells #[.int .i64 0, .int .i64 0, .int .i64 0, .int .i64 0, .int .i64 0, .int .i64 0, .int .i64 0, .int .i64 0, .int .i64 0, .int .i64 0, .int .i64 0, .int .i64 0, .int .i64 0, .int .i64 0, .int .i64 0, .int .i64 0, .int .i64 0, .int .i64 0, .slice none 0 0, .slice none 0 0, .slice none 0 0, .slice none 0 0] 42)) := by
  simp [go_sem]
theorem Calm.sub {O O' : List Nat} {w w' : World} (h : Calm O w w') (hs : ∀ b ∈ O, b ∈ O') : Calm O' w w' := ⟨h.os, h.tape, h.output, h.size, fun k hk hn => h.block k hk (fun hin => hn (hs k hin))⟩
set_option maxRecDepth 100000 in
set_option maxHeartbeats 4000000 in
theorem scr_r11 (f0 f1 f2 f4 f5 f6 f8 f9 f10 f11 f12 f13 f14 f15 f16 f17 f18 f19 f20 f21 f22 f23 f24 f25 f26 f27 f28 f29 f30 f31 f32 f33 f34 f35 f36 f37 f38 f39 f40 f41 f42 f43 f44 f45 f46 f47 f48 f49 f50 f51 f52 f53 f54 f55 f56 f57 f58 f59 f60 f61 f62 f63 f64 f65 f66 f67 f68 f69 f70 f71 f72 f73 f74 f75 f76 f77 f78 f79 f80 f81 f82 f83 f84 f85 f86 f87 f88 f89 f90 f91 f92 f93 f94 f95 f96 f97 f98 f99 f100 f101 f102 f103 f104 f105 f106 f107 f108 f109 f110 : Value) (bx b7 j pc0 lo : Nat) (pa0 : Option Addr) (z0 z1 z2 z3 z4 z5 z6 z7 z8 z9 z10 z11 z12 z13 z14 z15 z16 z17 u2 u3 u4 : Value) (li : List V8) (x : VSm) (q : V8) (w : World) (G5 : Blk w bx #[z0, z1, z2, z3, z4, z5, z6, z7, z8, z9, z10, z11, z12, z13, z14, z15, z16, z17, .slice pa0 j pc0, u2, u3, u4] 42) (o5 : OwnG LV w lo (.slice pa0 j pc0) li) (hlo : bx < lo) (hlw : lo ≤ w.heap.size) (hj : li.length = j) (hj12 : j ≤ 40) (Bs : Blk w b7 x.l.toArray 82) (hV : ∀ u, Calls Try.prog 14 #[.agg x.l.toArray] u fun e w' => e = .returned (.agg q.l.toArray) ∧ Ext u w') {Q : Exit → Act → World → Prop}
    (hQ : ∀ (c49 c50 c51 c52 c53 c54 c55 : Value) (ao8 : Option Addr) (c8 : Nat) (wx : World), OwnG LV wx lo (.slice ao8 (j + 1) c8) (li ++ [q]) → Blk wx bx #[z0, z1, z2, z3, z4, z5, z6, z7, z8, z9, z10, z11, z12, z13, z14, z15, z16, z17, .slice ao8 (j + 1) c8, u2, u3, u4] 42 → Calm (bx :: (Value.slice pa0 j pc0).ownBlock.toList) w wx → Q .normal ⟨(f0 :: f1 :: f2 :: Value.pointer (some ⟨bx, 0, none⟩) :: f4 :: f5 :: f6 :: Value.pointer (some ⟨b7, 0, none⟩) :: f8 :: f9 :: f10 :: f11 :: f12 :: f13 :: f14 :: f15 :: f16 :: f17 :: f18 :: f19 :: f20 :: f21 :: f22 :: f23 :: f24 :: f25 :: f26 :: f27 :: f28 :: f29 :: f30 :: f31 :: f32 :: f33 :: f34 :: f35 :: f36 :: f37 :: f38 :: f39 :: f40 :: f41 :: f42 :: f43 :: f44 :: f45 :: f46 :: f47 :: f48 :: c49 :: c50 :: c51 :: c52 :: c53 :: c54 :: c55 :: f56 :: f57 :: f58 :: f59 :: f60 :: f61 :: f62 :: f63 :: f64 :: f65 :: f66 :: f67 :: f68 :: f69 :: f70 :: f71 :: f72 :: f73 :: f74 :: f75 :: f76 :: f77 :: f78 :: f79 :: f80 :: f81 :: f82 :: f83 :: f84 :: f85 :: f86 :: f87 :: f88 :: f89 :: f90 :: f91 :: f92 :: f93 :: f94 :: f95 :: f96 :: f97 :: f98 :: f99 :: f100 :: f101 :: f102 :: f103 :: f104 :: f105 :: f106 :: f107 :: f108 :: f109 :: f110 :: List.nil).toArray, []⟩ wx) : Code.wp Try.prog (regionOf Try.f8 11) Q ⟨(f0 :: f1 :: f2 :: Value.pointer (some ⟨bx, 0, none⟩) :: f4 :: f5 :: f6 :: Value.pointer (some ⟨b7, 0, none⟩) :: f8 :: f9 :: f10 :: f11 :: f12 :: f13 :: f14 :: f15 :: f16 :: f17 :: f18 :: f19 :: f20 :: f21 :: f22 :: f23 :: f24 :: f25 :: f26 :: f27 :: f28 :: f29 :: f30 :: f31 :: f32 :: f33 :: f34 :: f35 :: f36 :: f37 :: f38 :: f39 :: f40 :: f41 :: f42 :: f43 :: f44 :: f45 :: f46 :: f47 :: f48 :: f49 :: f50 :: f51 :: f52 :: f53 :: f54 :: f55 :: f56 :: f57 :: f58 :: f59 :: f60 :: f61 :: f62 :: f63 :: f64 :: f65 :: f66 :: f67 :: f68 :: f69 :: f70 :: f71 :: f72 :: f73 :: f74 :: f75 :: f76 :: f77 :: f78 :: f79 :: f80 :: f81 :: f82 :: f83 :: f84 :: f85 :: f86 :: f87 :: f88 :: f89 :: f90 :: f91 :: f92 :: f93 :: f94 :: f95 :: f96 :: f97 :: f98 :: f99 :: f100 :: f101 :: f102 :: f103 :: f104 :: f105 :: f106 :: f107 :: f108 :: f109 :: f110 :: List.nil).toArray, []⟩ w := by
  have HQ := Lib.hid hQ
  clear hQ
  change Code.wp Try.prog (Code.region _ _ true) _ _ _
  have cG5 := G5.cell
  have cB7 := Bs.cell
  obtain ⟨xx0, xy0, xz0, xw0, xr0, xg0, xb0, xa0, xf0⟩ := x
  have hln := hj
  refine wp_region_noPanic ?_
  go_region_law (first
    | (refine step_append_g1 LV rfl (.tmp 50) (.tmp 53) rfl lo _ _ rfl o6 w6.heap.size 1 q rfl hcn (by omega) (by simp; omega) ?_; intro v8 w8 o8 A8 hk8; have K8 : Calm (bx :: (Value.slice pa0 j pc0).ownBlock.toList) w w8 := (x6'.calm _).trans (A8.sub (fun b hb => List.mem_cons_of_mem _ hb)); have G8 := G6.calm A8 (fun h => by have := (o6.lt _ (Option.mem_toList.1 h)).1; omega); have cG8 := G8.cell; have fG8 := G8.frozen; obtain ⟨ao8, c8, rfl, -, -⟩ := o8.slice; clear o6 G6 hcn cG6b A8 hk8)
    | (go_simp; go_at_call 14; refine (hV _).mono ?_; rintro e w6 ⟨rfl, x6⟩; have x6' := ((Ext.refl w).drew.trans x6).alloc q.l.toArray 69; have o6 := o5.ext x6'; have G6 := G5.ext x6'; have hcn : ∀ i u, (LV.cells q)[i]? = some u → (w6.alloc (.cells q.l.toArray 69)).cell? ⟨w6.heap.size, i, none⟩ = some u := (fun i u hu => by rw [(Blk.new w6 _ _).cell]; simpa [LV] using hu); have cG6 := (G5.ext ((Ext.refl w).drew.trans x6)).cell; have cG6b := G6.cell; have hsz6 : w.heap.size ≤ w6.heap.size := x6.size))
  all_goals go_wp2
  all_goals
    have h5 := o8
    simp only [List.length_append, hln, List.length_singleton] at h5
    have h6 := h5.calm (calm_setP w8 bx 18 (.slice ao8 (j + 1) c8)) (fun k hk hin => by have := (h5.lt k hk).1; simp at hin; omega)
    have G9 := G8.set 18 (.slice ao8 (j + 1) c8)
    simp only [List.setIfInBounds_toArray, List.set_cons_succ, List.set_cons_zero] at G9
    exact NoPanic.normal (HQ.out _ _ _ _ _ _ _ ao8 c8 _ h6 G9 (K8.trans ((calm_setP w8 bx 18 (.slice ao8 (j + 1) c8)).sub (fun b hb => by simp at hb; simp [hb]))))
set_option maxRecDepth 100000 in
set_option maxHeartbeats 4000000 in
theorem scr_r15_0 (f0 f1 f2 f4 f5 f6 f7 f9 f10 f11 f12 f13 f14 f15 f16 f17 f18 f19 f20 f21 f22 f23 f24 f25 f26 f27 f28 f29 f30 f31 f32 f33 f34 f35 f36 f37 f38 f39 f40 f41 f42 f43 f44 f45 f46 f47 f48 f49 f50 f51 f52 f53 f54 f55 f56 f57 f58 f59 f60 f61 f62 f63 f64 f65 f66 f67 f68 f69 f70 f71 f72 f73 f74 f75 f76 f77 f78 f79 f80 f81 f82 f83 f84 f85 f86 f87 f88 f89 f90 f91 f92 f93 f94 f95 f96 f97 f98 f99 f100 f101 f102 f103 f104 f105 f106 f107 f108 f109 f110 : Value) (bx  j pc0 lo : Nat) (pa0 : Option Addr) (z0 z1 z2 z3 z4 z5 z6 z7 z8 z9 z10 z11 z12 z13 z14 z15 z16 z17 u2 u3 u4 : Value) (li : List V8) (x : VSm) (q : V8) (w : World) (G5 : Blk w bx #[z0, z1, z2, z3, z4, z5, z6, z7, z8, z9, z10, z11, z12, z13, z14, z15, z16, z17, .slice pa0 j pc0, u2, u3, u4] 42) (o5 : OwnG LV w lo (.slice pa0 j pc0) li) (hlo : bx < lo) (hlw : lo ≤ w.heap.size) (hj : li.length = j) (hj12 : j ≤ 40) (hV : ∀ u, Calls Try.prog 14 #[.agg #[.int .i16 (-20000), .int .i16 0, .int .i16 9000, .int .i16 3000, .int .u8 200, .int .u8 90, .int .u8 0, .int .u8 255, .bool false]] u fun e w' => e = .returned (.agg q.l.toArray) ∧ Ext u w') {Q : Exit → Act → World → Prop}
    (hQ : ∀ (c64 c65 c66 c67 c68 c69 c70 c71 c72 c73 c74 c75 c76 c77 c78 c79 c80 c81 c82 : Value) (ao8 : Option Addr) (c8 : Nat) (wx : World), OwnG LV wx lo (.slice ao8 (j + 1) c8) (li ++ [q]) → Blk wx bx #[z0, z1, z2, z3, z4, z5, z6, z7, z8, z9, z10, z11, z12, z13, z14, z15, z16, z17, .slice ao8 (j + 1) c8, u2, u3, u4] 42 → Calm (bx :: (Value.slice pa0 j pc0).ownBlock.toList) w wx → Q .normal ⟨(f0 :: f1 :: f2 :: Value.pointer (some ⟨bx, 0, none⟩) :: f4 :: f5 :: f6 :: f7 :: Value.int .i64 0 :: f9 :: f10 :: f11 :: f12 :: f13 :: f14 :: f15 :: f16 :: f17 :: f18 :: f19 :: f20 :: f21 :: f22 :: f23 :: f24 :: f25 :: f26 :: f27 :: f28 :: f29 :: f30 :: f31 :: f32 :: f33 :: f34 :: f35 :: f36 :: f37 :: f38 :: f39 :: f40 :: f41 :: f42 :: f43 :: f44 :: f45 :: f46 :: f47 :: f48 :: f49 :: f50 :: f51 :: f52 :: f53 :: f54 :: f55 :: f56 :: f57 :: f58 :: f59 :: f60 :: f61 :: f62 :: f63 :: c64 :: c65 :: c66 :: c67 :: c68 :: c69 :: c70 :: c71 :: c72 :: c73 :: c74 :: c75 :: c76 :: c77 :: c78 :: c79 :: c80 :: c81 :: c82 :: f83 :: f84 :: f85 :: f86 :: f87 :: f88 :: f89 :: f90 :: f91 :: f92 :: f93 :: f94 :: f95 :: f96 :: f97 :: f98 :: f99 :: f100 :: f101 :: f102 :: f103 :: f104 :: f105 :: f106 :: f107 :: f108 :: f109 :: f110 :: List.nil).toArray, []⟩ wx) : Code.wp Try.prog (regionOf Try.f8 15) Q ⟨(f0 :: f1 :: f2 :: Value.pointer (some ⟨bx, 0, none⟩) :: f4 :: f5 :: f6 :: f7 :: Value.int .i64 0 :: f9 :: f10 :: f11 :: f12 :: f13 :: f14 :: f15 :: f16 :: f17 :: f18 :: f19 :: f20 :: f21 :: f22 :: f23 :: f24 :: f25 :: f26 :: f27 :: f28 :: f29 :: f30 :: f31 :: f32 :: f33 :: f34 :: f35 :: f36 :: f37 :: f38 :: f39 :: f40 :: f41 :: f42 :: f43 :: f44 :: f45 :: f46 :: f47 :: f48 :: f49 :: f50 :: f51 :: f52 :: f53 :: f54 :: f55 :: f56 :: f57 :: f58 :: f59 :: f60 :: f61 :: f62 :: f63 :: f64 :: f65 :: f66 :: f67 :: f68 :: f69 :: f70 :: f71 :: f72 :: f73 :: f74 :: f75 :: f76 :: f77 :: f78 :: f79 :: f80 :: f81 :: f82 :: f83 :: f84 :: f85 :: f86 :: f87 :: f88 :: f89 :: f90 :: f91 :: f92 :: f93 :: f94 :: f95 :: f96 :: f97 :: f98 :: f99 :: f100 :: f101 :: f102 :: f103 :: f104 :: f105 :: f106 :: f107 :: f108 :: f109 :: f110 :: List.nil).toArray, []⟩ w := by
  have HQ := Lib.hid hQ
  clear hQ
  change Code.wp Try.prog (Code.region _ _ true) _ _ _
  have cG5 := G5.cell
  skip
  skip
  have hln := hj
  refine wp_region_noPanic ?_
  go_region_law (first
    | (refine step_append_g1 LV rfl (.tmp 65) (.tmp 80) rfl lo _ _ rfl o6 w6.heap.size 1 q rfl hcn (by omega) (by simp; omega) ?_; intro v8 w8 o8 A8 hk8; have K8 : Calm (bx :: (Value.slice pa0 j pc0).ownBlock.toList) w w8 := (x6'.calm _).trans (A8.sub (fun b hb => List.mem_cons_of_mem _ hb)); have G8 := G6.calm A8 (fun h => by have := (o6.lt _ (Option.mem_toList.1 h)).1; omega); have cG8 := G8.cell; have fG8 := G8.frozen; obtain ⟨ao8, c8, rfl, -, -⟩ := o8.slice; clear o6 G6 hcn cG6b A8 hk8)
    | (go_simp; go_at_call 14; refine (hV _).mono ?_; rintro e w6 ⟨rfl, x6⟩; have x6' := ((Ext.refl w).drew.trans x6).alloc q.l.toArray 69; have o6 := o5.ext x6'; have G6 := G5.ext x6'; have hcn : ∀ i u, (LV.cells q)[i]? = some u → (w6.alloc (.cells q.l.toArray 69)).cell? ⟨w6.heap.size, i, none⟩ = some u := (fun i u hu => by rw [(Blk.new w6 _ _).cell]; simpa [LV] using hu); have cG6 := (G5.ext ((Ext.refl w).drew.trans x6)).cell; have cG6b := G6.cell; have hsz6 : w.heap.size ≤ w6.heap.size := x6.size))
  all_goals go_wp2
  all_goals
    have h5 := o8
    simp only [List.length_append, hln, List.length_singleton] at h5
    have h6 := h5.calm (calm_setP w8 bx 18 (.slice ao8 (j + 1) c8)) (fun k hk hin => by have := (h5.lt k hk).1; simp at hin; omega)
    have G9 := G8.set 18 (.slice ao8 (j + 1) c8)
    simp only [List.setIfInBounds_toArray, List.set_cons_succ, List.set_cons_zero] at G9
    exact NoPanic.normal (HQ.out _ _ _ _ _ _ _ _ _ _ _ _ _ _ _ _ _ _ _ ao8 c8 _ h6 G9 (K8.trans ((calm_setP w8 bx 18 (.slice ao8 (j + 1) c8)).sub (fun b hb => by simp at hb; simp [hb]))))
set_option maxRecDepth 100000 in
set_option maxHeartbeats 4000000 in
theorem scr_r15_1 (f0 f1 f2 f4 f5 f6 f7 f9 f10 f11 f12 f13 f14 f15 f16 f17 f18 f19 f20 f21 f22 f23 f24 f25 f26 f27 f28 f29 f30 f31 f32 f33 f34 f35 f36 f37 f38 f39 f40 f41 f42 f43 f44 f45 f46 f47 f48 f49 f50 f51 f52 f53 f54 f55 f56 f57 f58 f59 f60 f61 f62 f63 f64 f65 f66 f67 f68 f69 f70 f71 f72 f73 f74 f75 f76 f77 f78 f79 f80 f81 f82 f83 f84 f85 f86 f87 f88 f89 f90 f91 f92 f93 f94 f95 f96 f97 f98 f99 f100 f101 f102 f103 f104 f105 f106 f107 f108 f109 f110 : Value) (bx  j pc0 lo : Nat) (pa0 : Option Addr) (z0 z1 z2 z3 z4 z5 z6 z7 z8 z9 z10 z11 z12 z13 z14 z15 z16 z17 u2 u3 u4 : Value) (li : List V8) (x : VSm) (q : V8) (w : World) (G5 : Blk w bx #[z0, z1, z2, z3, z4, z5, z6, z7, z8, z9, z10, z11, z12, z13, z14, z15, z16, z17, .slice pa0 j pc0, u2, u3, u4] 42) (o5 : OwnG LV w lo (.slice pa0 j pc0) li) (hlo : bx < lo) (hlw : lo ≤ w.heap.size) (hj : li.length = j) (hj12 : j ≤ 40) (hV : ∀ u, Calls Try.prog 14 #[.agg #[.int .i16 0, .int .i16 15000, .int .i16 9000, .int .i16 3000, .int .u8 200, .int .u8 90, .int .u8 100, .int .u8 255, .bool false]] u fun e w' => e = .returned (.agg q.l.toArray) ∧ Ext u w') {Q : Exit → Act → World → Prop}
    (hQ : ∀ (c64 c65 c66 c67 c68 c69 c70 c71 c72 c73 c74 c75 c76 c77 c78 c79 c80 c81 c82 : Value) (ao8 : Option Addr) (c8 : Nat) (wx : World), OwnG LV wx lo (.slice ao8 (j + 1) c8) (li ++ [q]) → Blk wx bx #[z0, z1, z2, z3, z4, z5, z6, z7, z8, z9, z10, z11, z12, z13, z14, z15, z16, z17, .slice ao8 (j + 1) c8, u2, u3, u4] 42 → Calm (bx :: (Value.slice pa0 j pc0).ownBlock.toList) w wx → Q .normal ⟨(f0 :: f1 :: f2 :: Value.pointer (some ⟨bx, 0, none⟩) :: f4 :: f5 :: f6 :: f7 :: Value.int .i64 1 :: f9 :: f10 :: f11 :: f12 :: f13 :: f14 :: f15 :: f16 :: f17 :: f18 :: f19 :: f20 :: f21 :: f22 :: f23 :: f24 :: f25 :: f26 :: f27 :: f28 :: f29 :: f30 :: f31 :: f32 :: f33 :: f34 :: f35 :: f36 :: f37 :: f38 :: f39 :: f40 :: f41 :: f42 :: f43 :: f44 :: f45 :: f46 :: f47 :: f48 :: f49 :: f50 :: f51 :: f52 :: f53 :: f54 :: f55 :: f56 :: f57 :: f58 :: f59 :: f60 :: f61 :: f62 :: f63 :: c64 :: c65 :: c66 :: c67 :: c68 :: c69 :: c70 :: c71 :: c72 :: c73 :: c74 :: c75 :: c76 :: c77 :: c78 :: c79 :: c80 :: c81 :: c82 :: f83 :: f84 :: f85 :: f86 :: f87 :: f88 :: f89 :: f90 :: f91 :: f92 :: f93 :: f94 :: f95 :: f96 :: f97 :: f98 :: f99 :: f100 :: f101 :: f102 :: f103 :: f104 :: f105 :: f106 :: f107 :: f108 :: f109 :: f110 :: List.nil).toArray, []⟩ wx) : Code.wp Try.prog (regionOf Try.f8 15) Q ⟨(f0 :: f1 :: f2 :: Value.pointer (some ⟨bx, 0, none⟩) :: f4 :: f5 :: f6 :: f7 :: Value.int .i64 1 :: f9 :: f10 :: f11 :: f12 :: f13 :: f14 :: f15 :: f16 :: f17 :: f18 :: f19 :: f20 :: f21 :: f22 :: f23 :: f24 :: f25 :: f26 :: f27 :: f28 :: f29 :: f30 :: f31 :: f32 :: f33 :: f34 :: f35 :: f36 :: f37 :: f38 :: f39 :: f40 :: f41 :: f42 :: f43 :: f44 :: f45 :: f46 :: f47 :: f48 :: f49 :: f50 :: f51 :: f52 :: f53 :: f54 :: f55 :: f56 :: f57 :: f58 :: f59 :: f60 :: f61 :: f62 :: f63 :: f64 :: f65 :: f66 :: f67 :: f68 :: f69 :: f70 :: f71 :: f72 :: f73 :: f74 :: f75 :: f76 :: f77 :: f78 :: f79 :: f80 :: f81 :: f82 :: f83 :: f84 :: f85 :: f86 :: f87 :: f88 :: f89 :: f90 :: f91 :: f92 :: f93 :: f94 :: f95 :: f96 :: f97 :: f98 :: f99 :: f100 :: f101 :: f102 :: f103 :: f104 :: f105 :: f106 :: f107 :: f108 :: f109 :: f110 :: List.nil).toArray, []⟩ w := by
  have HQ := Lib.hid hQ
  clear hQ
  change Code.wp Try.prog (Code.region _ _ true) _ _ _
  have cG5 := G5.cell
  skip
  skip
  have hln := hj
  refine wp_region_noPanic ?_
  go_region_law (first
    | (refine step_append_g1 LV rfl (.tmp 65) (.tmp 80) rfl lo _ _ rfl o6 w6.heap.size 1 q rfl hcn (by omega) (by simp; omega) ?_; intro v8 w8 o8 A8 hk8; have K8 : Calm (bx :: (Value.slice pa0 j pc0).ownBlock.toList) w w8 := (x6'.calm _).trans (A8.sub (fun b hb => List.mem_cons_of_mem _ hb)); have G8 := G6.calm A8 (fun h => by have := (o6.lt _ (Option.mem_toList.1 h)).1; omega); have cG8 := G8.cell; have fG8 := G8.frozen; obtain ⟨ao8, c8, rfl, -, -⟩ := o8.slice; clear o6 G6 hcn cG6b A8 hk8)
    | (go_simp; go_at_call 14; refine (hV _).mono ?_; rintro e w6 ⟨rfl, x6⟩; have x6' := ((Ext.refl w).drew.trans x6).alloc q.l.toArray 69; have o6 := o5.ext x6'; have G6 := G5.ext x6'; have hcn : ∀ i u, (LV.cells q)[i]? = some u → (w6.alloc (.cells q.l.toArray 69)).cell? ⟨w6.heap.size, i, none⟩ = some u := (fun i u hu => by rw [(Blk.new w6 _ _).cell]; simpa [LV] using hu); have cG6 := (G5.ext ((Ext.refl w).drew.trans x6)).cell; have cG6b := G6.cell; have hsz6 : w.heap.size ≤ w6.heap.size := x6.size))
  all_goals go_wp2
  all_goals
    have h5 := o8
    simp only [List.length_append, hln, List.length_singleton] at h5
    have h6 := h5.calm (calm_setP w8 bx 18 (.slice ao8 (j + 1) c8)) (fun k hk hin => by have := (h5.lt k hk).1; simp at hin; omega)
    have G9 := G8.set 18 (.slice ao8 (j + 1) c8)
    simp only [List.setIfInBounds_toArray, List.set_cons_succ, List.set_cons_zero] at G9
    exact NoPanic.normal (HQ.out _ _ _ _ _ _ _ _ _ _ _ _ _ _ _ _ _ _ _ ao8 c8 _ h6 G9 (K8.trans ((calm_setP w8 bx 18 (.slice ao8 (j + 1) c8)).sub (fun b hb => by simp at hb; simp [hb]))))
set_option maxRecDepth 100000 in
set_option maxHeartbeats 4000000 in
theorem scr_r15_2 (f0 f1 f2 f4 f5 f6 f7 f9 f10 f11 f12 f13 f14 f15 f16 f17 f18 f19 f20 f21 f22 f23 f24 f25 f26 f27 f28 f29 f30 f31 f32 f33 f34 f35 f36 f37 f38 f39 f40 f41 f42 f43 f44 f45 f46 f47 f48 f49 f50 f51 f52 f53 f54 f55 f56 f57 f58 f59 f60 f61 f62 f63 f64 f65 f66 f67 f68 f69 f70 f71 f72 f73 f74 f75 f76 f77 f78 f79 f80 f81 f82 f83 f84 f85 f86 f87 f88 f89 f90 f91 f92 f93 f94 f95 f96 f97 f98 f99 f100 f101 f102 f103 f104 f105 f106 f107 f108 f109 f110 : Value) (bx  j pc0 lo : Nat) (pa0 : Option Addr) (z0 z1 z2 z3 z4 z5 z6 z7 z8 z9 z10 z11 z12 z13 z14 z15 z16 z17 u2 u3 u4 : Value) (li : List V8) (x : VSm) (q : V8) (w : World) (G5 : Blk w bx #[z0, z1, z2, z3, z4, z5, z6, z7, z8, z9, z10, z11, z12, z13, z14, z15, z16, z17, .slice pa0 j pc0, u2, u3, u4] 42) (o5 : OwnG LV w lo (.slice pa0 j pc0) li) (hlo : bx < lo) (hlw : lo ≤ w.heap.size) (hj : li.length = j) (hj12 : j ≤ 40) (hV : ∀ u, Calls Try.prog 14 #[.agg #[.int .i16 20000, .int .i16 0, .int .i16 9000, .int .i16 3000, .int .u8 200, .int .u8 90, .int .u8 200, .int .u8 255, .bool false]] u fun e w' => e = .returned (.agg q.l.toArray) ∧ Ext u w') {Q : Exit → Act → World → Prop}
    (hQ : ∀ (c64 c65 c66 c67 c68 c69 c70 c71 c72 c73 c74 c75 c76 c77 c78 c79 c80 c81 c82 : Value) (ao8 : Option Addr) (c8 : Nat) (wx : World), OwnG LV wx lo (.slice ao8 (j + 1) c8) (li ++ [q]) → Blk wx bx #[z0, z1, z2, z3, z4, z5, z6, z7, z8, z9, z10, z11, z12, z13, z14, z15, z16, z17, .slice ao8 (j + 1) c8, u2, u3, u4] 42 → Calm (bx :: (Value.slice pa0 j pc0).ownBlock.toList) w wx → Q .normal ⟨(f0 :: f1 :: f2 :: Value.pointer (some ⟨bx, 0, none⟩) :: f4 :: f5 :: f6 :: f7 :: Value.int .i64 2 :: f9 :: f10 :: f11 :: f12 :: f13 :: f14 :: f15 :: f16 :: f17 :: f18 :: f19 :: f20 :: f21 :: f22 :: f23 :: f24 :: f25 :: f26 :: f27 :: f28 :: f29 :: f30 :: f31 :: f32 :: f33 :: f34 :: f35 :: f36 :: f37 :: f38 :: f39 :: f40 :: f41 :: f42 :: f43 :: f44 :: f45 :: f46 :: f47 :: f48 :: f49 :: f50 :: f51 :: f52 :: f53 :: f54 :: f55 :: f56 :: f57 :: f58 :: f59 :: f60 :: f61 :: f62 :: f63 :: c64 :: c65 :: c66 :: c67 :: c68 :: c69 :: c70 :: c71 :: c72 :: c73 :: c74 :: c75 :: c76 :: c77 :: c78 :: c79 :: c80 :: c81 :: c82 :: f83 :: f84 :: f85 :: f86 :: f87 :: f88 :: f89 :: f90 :: f91 :: f92 :: f93 :: f94 :: f95 :: f96 :: f97 :: f98 :: f99 :: f100 :: f101 :: f102 :: f103 :: f104 :: f105 :: f106 :: f107 :: f108 :: f109 :: f110 :: List.nil).toArray, []⟩ wx) : Code.wp Try.prog (regionOf Try.f8 15) Q ⟨(f0 :: f1 :: f2 :: Value.pointer (some ⟨bx, 0, none⟩) :: f4 :: f5 :: f6 :: f7 :: Value.int .i64 2 :: f9 :: f10 :: f11 :: f12 :: f13 :: f14 :: f15 :: f16 :: f17 :: f18 :: f19 :: f20 :: f21 :: f22 :: f23 :: f24 :: f25 :: f26 :: f27 :: f28 :: f29 :: f30 :: f31 :: f32 :: f33 :: f34 :: f35 :: f36 :: f37 :: f38 :: f39 :: f40 :: f41 :: f42 :: f43 :: f44 :: f45 :: f46 :: f47 :: f48 :: f49 :: f50 :: f51 :: f52 :: f53 :: f54 :: f55 :: f56 :: f57 :: f58 :: f59 :: f60 :: f61 :: f62 :: f63 :: f64 :: f65 :: f66 :: f67 :: f68 :: f69 :: f70 :: f71 :: f72 :: f73 :: f74 :: f75 :: f76 :: f77 :: f78 :: f79 :: f80 :: f81 :: f82 :: f83 :: f84 :: f85 :: f86 :: f87 :: f88 :: f89 :: f90 :: f91 :: f92 :: f93 :: f94 :: f95 :: f96 :: f97 :: f98 :: f99 :: f100 :: f101 :: f102 :: f103 :: f104 :: f105 :: f106 :: f107 :: f108 :: f109 :: f110 :: List.nil).toArray, []⟩ w := by
  have HQ := Lib.hid hQ
  clear hQ
  change Code.wp Try.prog (Code.region _ _ true) _ _ _
  have cG5 := G5.cell
  skip
  skip
  have hln := hj
  refine wp_region_noPanic ?_
  go_region_law (first
    | (refine step_append_g1 LV rfl (.tmp 65) (.tmp 80) rfl lo _ _ rfl o6 w6.heap.size 1 q rfl hcn (by omega) (by simp; omega) ?_; intro v8 w8 o8 A8 hk8; have K8 : Calm (bx :: (Value.slice pa0 j pc0).ownBlock.toList) w w8 := (x6'.calm _).trans (A8.sub (fun b hb => List.mem_cons_of_mem _ hb)); have G8 := G6.calm A8 (fun h => by have := (o6.lt _ (Option.mem_toList.1 h)).1; omega); have cG8 := G8.cell; have fG8 := G8.frozen; obtain ⟨ao8, c8, rfl, -, -⟩ := o8.slice; clear o6 G6 hcn cG6b A8 hk8)
    | (go_simp; go_at_call 14; refine (hV _).mono ?_; rintro e w6 ⟨rfl, x6⟩; have x6' := ((Ext.refl w).drew.trans x6).alloc q.l.toArray 69; have o6 := o5.ext x6'; have G6 := G5.ext x6'; have hcn : ∀ i u, (LV.cells q)[i]? = some u → (w6.alloc (.cells q.l.toArray 69)).cell? ⟨w6.heap.size, i, none⟩ = some u := (fun i u hu => by rw [(Blk.new w6 _ _).cell]; simpa [LV] using hu); have cG6 := (G5.ext ((Ext.refl w).drew.trans x6)).cell; have cG6b := G6.cell; have hsz6 : w.heap.size ≤ w6.heap.size := x6.size))
  all_goals go_wp2
  all_goals
    have h5 := o8
    simp only [List.length_append, hln, List.length_singleton] at h5
    have h6 := h5.calm (calm_setP w8 bx 18 (.slice ao8 (j + 1) c8)) (fun k hk hin => by have := (h5.lt k hk).1; simp at hin; omega)
    have G9 := G8.set 18 (.slice ao8 (j + 1) c8)
    simp only [List.setIfInBounds_toArray, List.set_cons_succ, List.set_cons_zero] at G9
    exact NoPanic.normal (HQ.out _ _ _ _ _ _ _ _ _ _ _ _ _ _ _ _ _ _ _ ao8 c8 _ h6 G9 (K8.trans ((calm_setP w8 bx 18 (.slice ao8 (j + 1) c8)).sub (fun b hb => by simp at hb; simp [hb]))))
end Go.Proofs.Ytbbfmlehddfneaa

