/-
  DERIVED. A round of ScriptAny's loop: whatever bytes (made by mkscrany.py). · A byte of a slice of the call's own: read, stored. · The first cells of a slice that can be read. · THE WALK of ScriptAny (made by mkscrany.py).
-/
import Derived.Test.YtbbfmlehddfneaaPkAid
import Derived.Test.YtbbfmlehddfneaaPkWire
import Derived.Test.YtbbfmlehddfneaaPkFix
import Derived.Lib.Hide
import Derived.Deep.CutBlock
import Derived.Test.YtbbfmlehddfneaaPkAnyA
import Derived.Lib.EndianBits
namespace Go.Proofs.Ytbbfmlehddfneaa
open Go.RowKit
set_option linter.unusedVariables false
theorem ScrM.ones (m : ScrM) : m.l.toArray.all (·.oneCell') = true := by
  simp only [List.all_toArray, List.all_eq_true]
  intro u hu
  simp [ScrM.l] at hu
  rcases hu with rfl | rfl | ⟨y, _, rfl⟩ | rfl | rfl | rfl | rfl <;> rfl
set_option maxRecDepth 100000 in
set_option maxHeartbeats 4000000 in
theorem scrany_round (f0 f1 f2 f3 f4 f5 f6 f7 f8 f9 f10 f11 f12 f13 f14 f15 f16 f17 f18 f19 f20 f21 f22 f23 f24 f25 f26 f27 f28 f29 f30 f31 f32 f33 f34 f35 f36 f37 f38 f39 f40 f41 f42 f43 f44 f45 f46 f47 f48 f49 f50 f51 f52 f53 f54 f55 f56 f57 f58 f59 f60 f61 f62 f63 f64 f65 f66 f67 f68 f69 f71 f73 f74 f75 f76 f77 f78 f79 f80 f81 f82 f83 f84 f85 f86 f87 f88 f89 f90 f91 f92 f93 f94 f95 f96 f97 f98 f99 f100 f101 f102 f103 f104 f105 f106 f107 f108 f109 f110 f111 f112 f113 : Value) (g7 j xc : Nat) (xa : Option Addr) (lx : List Int) (w : World) (cx : w.cell? ⟨g7, j, none⟩ = some (.slice xa lx.length xc)) (hA : Arr w .u8 (.slice xa lx.length xc) lx) (hj : j < 5) (hlx : lx.length ≤ 100000) {Q : Exit → Act → World → Prop}
    (hQ : ∀ (c15 c16 c17 c18 c19 c74 c75 c76 c77 c78 c79 c80 c81 c82 c83 c84 c85 c86 c87 c88 c89 c90 c91 c92 c93 c94 c95 c96 c97 c98 c99 c100 c101 c102 c103 c104 c105 c106 c107 c108 c109 c110 c111 c112 : Value) (wx : World), Ext w wx → Q .normal ⟨(f0 :: f1 :: f2 :: f3 :: f4 :: f5 :: f6 :: f7 :: f8 :: f9 :: f10 :: f11 :: f12 :: f13 :: f14 :: c15 :: c16 :: c17 :: c18 :: c19 :: f20 :: f21 :: f22 :: f23 :: f24 :: f25 :: f26 :: f27 :: f28 :: f29 :: f30 :: f31 :: f32 :: f33 :: f34 :: f35 :: f36 :: f37 :: f38 :: f39 :: f40 :: f41 :: f42 :: f43 :: f44 :: f45 :: f46 :: f47 :: f48 :: f49 :: f50 :: f51 :: f52 :: f53 :: f54 :: f55 :: f56 :: f57 :: f58 :: f59 :: f60 :: f61 :: f62 :: f63 :: f64 :: f65 :: f66 :: f67 :: f68 :: f69 :: Value.slice (some ⟨g7, 0, none⟩) 5 5 :: f71 :: Value.int .i64 (j : Int) :: f73 :: c74 :: c75 :: c76 :: c77 :: c78 :: c79 :: c80 :: c81 :: c82 :: c83 :: c84 :: c85 :: c86 :: c87 :: c88 :: c89 :: c90 :: c91 :: c92 :: c93 :: c94 :: c95 :: c96 :: c97 :: c98 :: c99 :: c100 :: c101 :: c102 :: c103 :: c104 :: c105 :: c106 :: c107 :: c108 :: c109 :: c110 :: c111 :: c112 :: f113 :: List.nil).toArray, []⟩ wx) :
    Code.wp Try.prog (.block 1 (blockOf Try.f3 1)) Q ⟨(f0 :: f1 :: f2 :: f3 :: f4 :: f5 :: f6 :: f7 :: f8 :: f9 :: f10 :: f11 :: f12 :: f13 :: f14 :: f15 :: f16 :: f17 :: f18 :: f19 :: f20 :: f21 :: f22 :: f23 :: f24 :: f25 :: f26 :: f27 :: f28 :: f29 :: f30 :: f31 :: f32 :: f33 :: f34 :: f35 :: f36 :: f37 :: f38 :: f39 :: f40 :: f41 :: f42 :: f43 :: f44 :: f45 :: f46 :: f47 :: f48 :: f49 :: f50 :: f51 :: f52 :: f53 :: f54 :: f55 :: f56 :: f57 :: f58 :: f59 :: f60 :: f61 :: f62 :: f63 :: f64 :: f65 :: f66 :: f67 :: f68 :: f69 :: Value.slice (some ⟨g7, 0, none⟩) 5 5 :: f71 :: Value.int .i64 (j : Int) :: f73 :: f74 :: f75 :: f76 :: f77 :: f78 :: f79 :: f80 :: f81 :: f82 :: f83 :: f84 :: f85 :: f86 :: f87 :: f88 :: f89 :: f90 :: f91 :: f92 :: f93 :: f94 :: f95 :: f96 :: f97 :: f98 :: f99 :: f100 :: f101 :: f102 :: f103 :: f104 :: f105 :: f106 :: f107 :: f108 :: f109 :: f110 :: f111 :: f112 :: f113 :: List.nil).toArray, []⟩ w := by
  have HQ := Lib.hid hQ
  clear hQ
  have hjI : (j : Int) < 5 := by omega
  have HA := Lib.hid hA
  clear hA
  change Code.wp Try.prog (.block 1 (Code.seq _ _)) _ _ _
  go_wp2_with fail
  refine (take11_any _ _ lx HA.out hlx).mono ?_
  rintro e w2 ⟨s, x, err, rfl, x2, hr⟩
  have hl22 : s.l.length = 22 := by
    rcases hr with ⟨_, h, hrd, _⟩ | ⟨_, h, _⟩
    · simp [ScrM.l, h.m, hrd.r0.fit.m16]
    · rw [h]; rfl
  have hone := s.ones
  have Bz := Blk.new w2 #[.int .i64 0, .int .i64 0, .int .i64 0, .int .i64 0, .int .i64 0, .int .i64 0, .int .i64 0, .int .i64 0, .int .i64 0, .int .i64 0, .int .i64 0, .int .i64 0, .int .i64 0, .int .i64 0, .int .i64 0, .int .i64 0, .int .i64 0, .int .i64 0, .slice none 0 0, .slice none 0 0, .slice none 0 0, .slice none 0 0] 42
  have X6 := Bz.setRow s.l.toArray
  have y6 : Ext w2 ((w2.alloc (.cells #[.int .i64 0, .int .i64 0, .int .i64 0, .int .i64 0, .int .i64 0, .int .i64 0, .int .i64 0, .int .i64 0, .int .i64 0, .int .i64 0, .int .i64 0, .int .i64 0, .int .i64 0, .int .i64 0, .int .i64 0, .int .i64 0, .int .i64 0, .int .i64 0, .slice none 0 0, .slice none 0 0, .slice none 0 0, .slice none 0 0] 42)).setRow w2.heap.size s.l.toArray) := ((Ext.refl w2).alloc _ _).setRow (Nat.le_refl _) _
  go_upto_region 14 with (first
    | ((with_reducible refine wpList_store_blk (op := ⟨none, .store 42 (.tmp 16) (.tmp 79), _, _, _, _⟩) ?_ 42 (.tmp 16) (.tmp 79) ?_ w2.heap.size ?_ (cs := s.l.toArray) ?_ (z := #[.int .i64 0, .int .i64 0, .int .i64 0, .int .i64 0, .int .i64 0, .int .i64 0, .int .i64 0, .int .i64 0, .int .i64 0, .int .i64 0, .int .i64 0, .int .i64 0, .int .i64 0, .int .i64 0, .int .i64 0, .int .i64 0, .int .i64 0, .int .i64 0, .slice none 0 0, .slice none 0 0, .slice none 0 0, .slice none 0 0]) (T := 42) ?_ ?_ ?_ ?_ ?_); rfl; rfl; rfl; rfl; exact Bz; (rw [List.size_toArray, hl22]; kernel_rfl); exact hone; (simp [hl22]))
    | fail)
  have E6 := x2.trans y6
  clear Bz x2
  generalize hw6 : (w2.alloc (.cells #[.int .i64 0, .int .i64 0, .int .i64 0, .int .i64 0, .int .i64 0, .int .i64 0, .int .i64 0, .int .i64 0, .int .i64 0, .int .i64 0, .int .i64 0, .int .i64 0, .int .i64 0, .int .i64 0, .int .i64 0, .int .i64 0, .int .i64 0, .int .i64 0, .slice none 0 0, .slice none 0 0, .slice none 0 0, .slice none 0 0] 42)).setRow w2.heap.size s.l.toArray = w6 at *
  clear hw6
  generalize w2.heap.size = b16 at *
  rcases hr with ⟨rfl, SA, hrd, hchk, hlx2, -⟩ | ⟨hne, rfl, -⟩
  · subst hlx2
    have hfit := hrd.r0.fit
    have SR6 := (SA.rd hrd.r0.wf).ext y6
    clear SA y6
    have hP := fun u (hu : Ext w6 u) => put11_any s x u (SR6.ext hu) hfit
    have hC := fun u (hu : Ext w6 u) => checkS_any s x u (SR6.ext hu) hfit
    rw [hchk] at hP hC
    have HP := Lib.hid hP
    have HC := Lib.hid hC
    clear hP hC hchk SR6
    go_wp2_with (first
      | ((with_reducible refine wpList_load_blk (op := ⟨some 95, _, _, _, _, _⟩) ?_ 42 (.tmp 16) ?_ b16 ?_ (z := _) (T := 42) X6 Try.underlying42 ?_ ?_ ?_); rfl; rfl; rfl; rfl; (rw [List.size_toArray, hl22]; kernel_rfl))
      | fail)
    refine (HP.out _ (Ext.refl w6)).mono ?_
    rintro e w7 ⟨vb, rfl, o7, -, x7⟩
    have o7 := o7 trivial
    have X7 := X6.ext x7
    clear X6
    obtain ⟨ao, c, rfl, -, -⟩ := id o7.slice
    go_wp2_with (first
      | ((with_reducible refine wpList_load_blk (op := ⟨some 99, _, _, _, _, _⟩) ?_ 42 (.tmp 16) ?_ b16 ?_ (z := _) (T := 42) X7 Try.underlying42 ?_ ?_ ?_); rfl; rfl; rfl; rfl; (rw [List.size_toArray, hl22]; kernel_rfl))
      | fail)
    refine (HC.out _ x7).mono ?_
    rintro e w8 ⟨rfl, x8⟩
    have E8 := (E6.trans x7).trans x8
    have s1 := (o7.ext x8).str
    have s2 := (HA.out.ext E8).str
    clear o7 X7 HP HC
    go_wp2
    exact HQ.out _ _ _ _ _ _ _ _ _ _ _ _ _ _ _ _ _ _ _ _ _ _ _ _ _ _ _ _ _ _ _ _ _ _ _ _ _ _ _ _ _ _ _ _ _ E8
  · have X6 : Blk w6 b16 #[.int .i64 0, .int .i64 0, .int .i64 0, .int .i64 0, .int .i64 0, .int .i64 0, .int .i64 0, .int .i64 0, .int .i64 0, .int .i64 0, .int .i64 0, .int .i64 0, .int .i64 0, .int .i64 0, .int .i64 0, .int .i64 0, .int .i64 0, .int .i64 0, .slice none 0 0, .slice none 0 0, .slice none 0 0, .slice none 0 0] 42 := X6
    have c6 := X6.cell
    have hb : (err == 0) = false := by simpa using hne
    have hb2 : (err != 0) = true := by simpa using hne
    go_wp2
    exact HQ.out _ _ _ _ _ _ _ _ _ _ _ _ _ _ _ _ _ _ _ _ _ _ _ _ _ _ _ _ _ _ _ _ _ _ _ _ _ _ _ _ _ _ _ _ _ E6
end Go.Proofs.Ytbbfmlehddfneaa

namespace Go.Proofs.Ytbbfmlehddfneaa
open Go.RowKit
set_option linter.unusedVariables false

theorem Own.at {w : World} {base g c n : Nat} {L : List Int} (h : Own w base (.slice (some ⟨g, 0, none⟩) n c) L) (hn : n = L.length) {j : Nat} {y : Int} (hj : L[j]? = some y) : w.cell? ⟨g, j, none⟩ = some (.int .u8 y) := by
  subst hn
  exact h.cell j y hj
theorem Own.thaw {w : World} {base g c n : Nat} {L : List Int} (h : Own w base (.slice (some ⟨g, 0, none⟩) n c) L) (hn : n = L.length) (j : Nat) : w.frozen? ⟨g, j, none⟩ = false := by
  subst hn
  exact World.ownsRow.frozenAt h j
theorem Own.put {w : World} {base g c n : Nat} {L : List Int} (h : Own w base (.slice (some ⟨g, 0, none⟩) n c) L) (hn : n = L.length) (j : Nat) (y : Int) : Own (w.setCell ⟨g, j, none⟩ (.int .u8 y)) base (.slice (some ⟨g, 0, none⟩) n c) (L.set j y) := by
  subst hn
  have := (World.ownsRow.stored h j (.int .u8 y)).1
  unfold Own
  rw [List.length_set, show bytesV (L.set j y) = (bytesV L).set j (.int .u8 y) by unfold bytesV; rw [List.map_set]]
  exact this

end Go.Proofs.Ytbbfmlehddfneaa

namespace Go.Proofs.Ytbbfmlehddfneaa
open Go.RowKit
set_option linter.unusedVariables false
theorem Arr.upto {w : World} {k : IntKind} {ao : Option Addr} {n c : Nat} {l : List Int} (h : Arr w k (.slice ao n c) l) (j : Nat) (hj : j ≤ l.length) : Arr w k (.slice ao j c) (l.take j) := by
  obtain ⟨⟨ao', c', e, h1, h2, h3⟩, h4, h5⟩ := h
  cases e
  have hl : (l.take j).length = j := by simp; omega
  refine ⟨⟨ao, c, by rw [hl], by omega, fun hne => ?_, h3⟩, by omega, fun n hn => h5 n (List.mem_of_mem_take hn)⟩
  obtain ⟨b, off, rfl, hc⟩ := h2 (fun e => hne (by rw [e]; simp))
  refine ⟨b, off, rfl, fun i hi => ?_⟩
  rw [hc i (by omega)]
  have : i < j := by omega
  simp [List.getD, this]
end Go.Proofs.Ytbbfmlehddfneaa

namespace Go.Proofs.Ytbbfmlehddfneaa
open Go.RowKit
set_option linter.unusedVariables false
theorem Own.some2 {w : World} {base : Nat} {v : Value} {l : List Int} (h : Own w base v l) (hn : 0 < l.length) : ∃ g c, v = .slice (some ⟨g, 0, none⟩) l.length c ∧ ∀ j y, l[j]? = some y → w.cell? ⟨g, 0 + j, none⟩ = some (.int .u8 y) := by
  obtain ⟨bo, bc, rfl, h0, ha⟩ := h.slice
  obtain ⟨g, rfl⟩ : ∃ g, bo = some ⟨g, 0, none⟩ := by
    cases bo with
    | none => have := (h0 rfl).1; rw [this] at hn; simp at hn
    | some a => exact ⟨a.block, by rw [← ha a rfl]⟩
  exact ⟨g, bc, rfl, fun j y hj => by rw [Nat.zero_add]; exact h.cell j y hj⟩
theorem Arr.len {w : World} {k : IntKind} {ao : Option Addr} {n c : Nat} {xs : List Int} (h : Arr w k (.slice ao n c) xs) : n = xs.length := by
  obtain ⟨⟨_, _, e, -⟩, _, _⟩ := h
  cases e
  rfl
def xorI (x y : Int) : Int := ((x.toNat ^^^ y.toNat : Nat) : Int)
theorem xorI_u8 (x y : Int) (hx : 0 ≤ x ∧ x ≤ 255) (hy : 0 ≤ y ∧ y ≤ 255) : bits .xor .u8 x y = xorI x y := u8_xor x y hx.1 (by omega) hy.1 (by omega)
theorem xorI_bd (x y : Int) (hx : 0 ≤ x ∧ x ≤ 255) (hy : 0 ≤ y ∧ y ≤ 255) : 0 ≤ xorI x y ∧ xorI x y ≤ 255 := by
  have := Nat.xor_lt_two_pow (n := 8) (x := x.toNat) (y := y.toNat) (by omega) (by omega)
  unfold xorI
  omega
set_option maxRecDepth 100000 in
set_option maxHeartbeats 4000000 in
theorem scriptAny_main (w : World) (s : SScr) (vs : List VSm) (sh pa : List SlV) (ds : List DSm) (Q : SScrQ w s vs sh pa ds) (v : Value) (lb : List Int) (hb : Arr w .u8 v lb) (at' by' cut : Int) (hat : 0 ≤ at' ∧ at' ≤ 65535) (hby : 0 ≤ by' ∧ by' ≤ 255) (hcut : 0 ≤ cut ∧ cut ≤ 65535) : Calls Try.prog 3 #[.agg s.v, v, .int .u16 at', .int .u8 by', .int .u16 cut] w fun e w' => e = .returned (.bool true) ∧ Ext w w' := by
  have hlbb : ∀ y ∈ lb, 0 ≤ y ∧ y ≤ 255 := fun y hy => by
    have := hb.wf y hy
    exact bounds_u8 this
  have hL := fun u (hu : Ext w u) => light_any u s vs sh pa ds (Q.ext hu)
  have hS := fun u (hu : Ext w u) hl Ls Lp hs hp LX hd => script11_any u s vs sh pa ds (Q.ext hu) hl Ls Lp hs hp LX hd
  obtain ⟨Ls, hCs⟩ := conts_of Q.sq
  obtain ⟨Lp, hCp⟩ := conts_of Q.pq
  obtain ⟨LX, hCd⟩ := dconts_of Q.dq
  have SG := scriptF_ok Q hCs hCp hCd
  have hS := fun u (hu : Ext w u) hl => hS u hu hl Ls Lp (hCs.ext hu) (hCp.ext hu) LX (hCd.ext hu)
  generalize scriptF s vs Ls Lp ds LX = x at *
  clear hCs hCp hCd Q
  obtain ⟨⟨ba, bc, rfl, hbc, hb3, hb4⟩, hb5, hb6⟩ := id hb
  clear hbc hb3 hb4 hb5 hb6
  have HBA := Lib.hid hb
  have HLBB := Lib.hid hlbb
  clear hb hlbb
  obtain ⟨wd, ht, t0, t1, t2, t3, ⟨va, vn, vc⟩, ⟨sa, sn, sc⟩, ⟨pa', pn, pc⟩, ⟨da, dn, dc⟩⟩ := s
  have x1 := (Ext.refl w).alloc #[.int .u8 wd, .int .u8 ht, .int .i16 t0, .int .i16 t1, .int .i16 t2, .int .i16 t3, .slice va vn vc, .slice sa sn sc, .slice pa' pn pc, .slice da dn dc] 28
  have B1 := Blk.new w #[.int .u8 wd, .int .u8 ht, .int .i16 t0, .int .i16 t1, .int .i16 t2, .int .i16 t3, .slice va vn vc, .slice sa sn sc, .slice pa' pn pc, .slice da dn dc] 28
  go_enter Try.func3, Try.ntmps3
  go_upto_region 1 with fail
  generalize w.alloc (.cells #[.int .u8 wd, .int .u8 ht, .int .i16 t0, .int .i16 t1, .int .i16 t2, .int .i16 t3, .slice va vn vc, .slice sa sn sc, .slice pa' pn pc, .slice da dn dc] 28) = w1 at *
  generalize hb0 : w.heap.size = b0 at *
  go_wp2_with fail
  refine (awake11_any _).mono ?_
  rintro e w2 ⟨rfl, x2⟩
  have B2 := B1.ext x2
  have E2 := x1.trans x2
  clear B1 x1 x2
  go_wp2_with (first
    | ((with_reducible refine wpList_load_blk (op := ⟨some 22, _, _, _, _, _⟩) ?_ 28 (.tmp 5) ?_ b0 ?_ (z := _) (T := 28) B2 Try.underlying28 ?_ ?_ ?_); rfl; rfl; rfl; rfl; kernel_rfl)
    | fail)
  refine (hL _ E2).mono ?_
  rintro e w3 ⟨rfl, x3⟩
  have B3 := B2.ext x3
  have E3 := E2.trans x3
  clear B2 E2 x3 hL
  cases hl : lightB vs sh pa ds
  · go_wp2
    go_ret
    exact ⟨rfl, by first | exact E3 | (rw [hb0]; exact E3)⟩
  have hS := hS _ E3 hl
  clear hl
  by_cases hlen : 200 < lb.length
  · have hlI : (200 : Int) < (lb.length : Int) := by omega
    go_wp2
    go_ret
    exact ⟨rfl, by first | exact E3 | (rw [hb0]; exact E3)⟩
  have hlI : (lb.length : Int) ≤ 200 := by omega
  go_wp2_with (first
    | ((with_reducible refine wpList_load_blk (op := ⟨some 31, _, _, _, _, _⟩) ?_ 28 (.tmp 5) ?_ b0 ?_ (z := _) (T := 28) B3 Try.underlying28 ?_ ?_ ?_); rfl; rfl; rfl; rfl; kernel_rfl)
    | fail)
  refine hS.mono ?_
  rintro e w5 ⟨m, rfl, SA, x5⟩
  have E5 := E3.trans x5
  clear hS B3 E3 x5
  have hfit := SG.rd.r0.fit
  have hchk := SG.chk
  have hP := put11_any m x w5 (SA.rd SG.rd.r0.wf) hfit
  rw [hchk] at hP
  have HP := Lib.hid hP
  clear hP
  go_wp2_with fail
  refine HP.out.mono ?_
  rintro e w6 ⟨vg, rfl, o6, -, x6⟩
  have o6 := o6 trivial
  have E6 := E5.trans x6
  have hgB := encS_bytes hfit (chkS_good hchk)
  have hfew := SG.few
  have hpos : 0 < (encS x).length := by simp [encS]
  clear HP SA E5 x6 hfit hchk
  generalize encS x = good at *
  obtain ⟨gg, gc, rfl, hcell⟩ := Own.some2 o6 hpos
  have hgc : good.length ≤ gc := by
    obtain ⟨⟨_, _, e, h, -⟩, _, _⟩ := o6.arr hgB
    cases e
    exact h
  have y7 : Ext w6 (w6.alloc (.cells #[] 5)) := (Ext.refl w6).alloc _ _
  have hz6 := E6.size
  have hz7 := y7.size
  obtain ⟨gl, hgl⟩ : ∃ gl, good.length = gl := ⟨_, rfl⟩
  rw [hgl] at hpos hgc hfew ⊢
  have HGL := Lib.hid hgl
  have HCL := Lib.hid (fun j y h => y7.old (hcell j y h))
  have HC6 := Lib.hid hcell
  have HO6 := Lib.hid o6
  have HGB := Lib.hid hgB
  clear hgl hcell o6 hgB
  go_upto_region 8 with fail
  go_wp2_with (at_builtin; refine wpList_append_const rfl _ _ rfl w.heap.size w6.heap.size 0 [] rfl (fun j y h => by simp at h) 0 gg gc good (by rw [HGL.out]; rfl) HCL.out (by rw [HGL.out]; simp; omega) (by rw [HGL.out]; simp; omega) (by omega) ?_)
  intro v8 w8 o8 x8 hk8
  have hpos' : 0 < good.length := by rw [HGL.out]; exact hpos
  obtain ⟨gt, tc, rfl, hcell8⟩ := Own.some2 o8 hpos'
  obtain ⟨p, hp⟩ : ∃ p : Nat, at' % (gl : Int) = (p : Int) := ⟨(at' % (gl : Int)).toNat, by have := Int.emod_nonneg at' (show (gl : Int) ≠ 0 by omega); omega⟩
  have hpl : p < gl := by have := Int.emod_lt_of_pos at' (show (0 : Int) < (gl : Int) by omega); omega
  have hplI : (p : Int) < (gl : Int) := by omega
  have hgI : (gl : Int) ≠ 0 := by omega
  have hyp : good[p]? = some (good.getD p 0) := by
    have : p < good.length := by rw [HGL.out]; exact hpl
    simp [List.getD, this]
  have hyb := HGB.out _ (List.mem_of_getElem? hyp)
  have cy := hcell8 p _ hyp
  rw [Nat.zero_add] at cy
  have fy : w8.frozen? ⟨gt, p, none⟩ = false := Own.thaw o8 rfl p
  have o8' : Own (w8.setCell ⟨gt, p, none⟩ (.int .u8 (xorI (good.getD p 0) by'))) b0 (.slice (some ⟨gt, 0, none⟩) good.length tc) (good.set p (xorI (good.getD p 0) by')) := o8.put rfl p _
  have hxb := xorI_bd _ _ hyb hby
  have hxo := xorI_u8 _ _ hyb hby
  have hgt := o8.lt gt rfl
  have E8 := (E6.trans y7).trans x8
  have E9 : Ext w (w8.setCell ⟨gt, p, none⟩ (.int .u8 (xorI (good.getD p 0) by'))) := E8.setCell (by show w.heap.size ≤ gt; rw [hb0]; exact hgt.1) _
  have x69 : Calm [gt] w6 (w8.setCell ⟨gt, p, none⟩ (.int .u8 (xorI (good.getD p 0) by'))) := ((y7.trans x8).calm _).trans (calm_setP w8 gt p _)
  have hgt6 : w6.heap.size ≤ gt := by
    have e := Option.some.inj hk8
    simp at e
    omega
  have hne6 : ∀ k, (Value.slice (some ⟨gg, 0, none⟩) good.length gc).ownBlock = some k → k ∉ [gt] := fun k hk hin => by
    have h1 := (HO6.out.lt k hk).2
    have h2 := List.mem_singleton.1 hin
    omega
  have o69 := HO6.out.calm x69 hne6
  generalize good.getD p 0 = yv at *
  have HO8 := Lib.hid o8'
  have HO69 := Lib.hid o69
  clear o8 o8' o69 hcell8 hyp x69 hne6 hk8 x8 y7 HCL HC6 HO6
  rw [HGL.out]
  go_upto_region 10 with fail
  generalize w8.setCell ⟨gt, p, none⟩ (.int .u8 (xorI yv by')) = w9 at *
  obtain ⟨k, hk⟩ : ∃ k : Nat, cut % (gl : Int) = (k : Int) := ⟨(cut % (gl : Int)).toNat, by have := Int.emod_nonneg cut hgI; omega⟩
  have hkl : k < gl := by have := Int.emod_lt_of_pos cut (show (0 : Int) < (gl : Int) by omega); omega
  have hgA := HO69.out.arr HGB.out
  have hgbl : ∀ y ∈ good ++ lb, 0 ≤ y ∧ y ≤ 255 := fun y hy => by
    rcases List.mem_append.1 hy with h | h
    · exact HGB.out y h
    · exact HLBB.out y h
  refine scrany_r10 _ _ _ _ _ _ _ _ _ _ _ _ _ _ _ _ _ _ _ _ _ _ _ _ _ _ _ _ _ _ _ _ _ _ _ _ _ _ _ _ _ _ _ _ _ _ _ _ _ _ _ _ _ _ _ _ _ _ _ _ _ _ _ _ _ _ _ _ _ _ _ _ _ _ _ _ _ _ _ _ _ _ _ _ _ _ _ _ _ _ _ _ _ _ _ _ _ _ _ _ _ _ _ _ _ _ _ _ _ _ ba lb.length bc gg gl gc gt gl tc k 0 cut good lb w9 HGL.out.symm (fun j y h => (by rw [Nat.zero_add]; exact HO69.out.cell j y h)) (HBA.out.ext E9) (by rw [HGL.out]; exact hpos) (by rw [HGL.out]; omega) (by omega) hgbl HLBB.out hk hkl hgc hcut ?_
  intro c52 c53 c54 c55 c56 c57 c58 c59 c60 c61 c62 c63 c64 c65 c66 c67 c68 c69 g7 a5 L5 c5 a9 L9 c9 w10 x10 B7 A5 A9
  have E10 := E9.trans x10
  have hl5 := A5.len
  have hl9 := A9.len
  have hEl : ∀ j, j < 5 → ∃ (xa : Option Addr) (lx : List Int) (xc : Nat), w10.cell? ⟨g7, j, none⟩ = some (.slice xa lx.length xc) ∧ Arr w10 .u8 (.slice xa lx.length xc) lx ∧ lx.length ≤ 100000 := fun j hj => by
    have cB := B7.cell
    match j, hj with
    | 0, _ => exact ⟨ba, lb, bc, by rw [cB]; rfl, HBA.out.ext E10, by omega⟩
    | 1, _ =>
      have hset : (good.set p (xorI yv by')).length = gl := by rw [List.length_set, HGL.out]
      have hA1 := (HO8.out.ext x10).arr (fun y hy => by
        rcases List.mem_or_eq_of_mem_set hy with h | h
        · exact HGB.out y h
        · rw [h]; exact hxb)
      rw [HGL.out] at hA1
      exact ⟨some ⟨gt, 0, none⟩, good.set p (xorI yv by'), tc, by rw [cB, hset]; rfl, by rw [hset]; exact hA1, by rw [hset]; omega⟩
    | 2, _ =>
      have htk : (good.take k).length = k := by rw [List.length_take, HGL.out]; omega
      have hA2 := (hgA.ext x10).upto k (by rw [HGL.out]; omega)
      exact ⟨some ⟨gg, 0, none⟩, good.take k, gc, by rw [cB, htk]; rfl, by rw [htk]; exact hA2, by rw [htk]; omega⟩
    | 3, _ => exact ⟨a5, good ++ lb, c5, by rw [cB, ← hl5]; rfl, by rw [← hl5]; exact A5, by rw [List.length_append, HGL.out]; omega⟩
    | 4, _ => exact ⟨a9, [65, 90, 8, 8] ++ lb, c9, by rw [cB, ← hl9]; rfl, by rw [← hl9]; exact A9, by simp; omega⟩
    | j + 5, hj => omega
  clear B7 A5 A9 hgA hl5 hl9 hk hp hxo hxb hyb cy fy hgbl x10 E9 E8 hgt hgt6 HO8 HO69
  have HEL := Lib.hid hEl
  clear hEl
  go_wp2_with fail
  go_loopg [72] 5 (fun n0 iv wx => ∃ j : Nat, j + n0 = 5 ∧ iv = .int .i64 j ∧ Ext w10 wx)
  case atStart => exact ⟨0, by omega, by simp, Ext.refl _⟩
  case round =>
    obtain ⟨j, hjk, rfl, xr⟩ := hrel
    by_cases hj : j < 5
    · have hjI : (j : Int) < 5 := by omega
      obtain ⟨xa, lx, xc, e1, e2, e3⟩ := HEL.out j hj
      go_upto_block 1 with fail
      refine scrany_round _ _ _ _ _ _ _ _ _ _ _ _ _ _ _ _ _ _ _ _ _ _ _ _ _ _ _ _ _ _ _ _ _ _ _ _ _ _ _ _ _ _ _ _ _ _ _ _ _ _ _ _ _ _ _ _ _ _ _ _ _ _ _ _ _ _ _ _ _ _ _ _ _ _ _ _ _ _ _ _ _ _ _ _ _ _ _ _ _ _ _ _ _ _ _ _ _ _ _ _ _ _ _ _ _ _ _ _ _ _ _ _ g7 j xc xa lx _ (xr.old e1) (e2.ext xr) hj e3 ?_
      intro r15 r16 r17 r18 r19 r74 r75 r76 r77 r78 r79 r80 r81 r82 r83 r84 r85 r86 r87 r88 r89 r90 r91 r92 r93 r94 r95 r96 r97 r98 r99 r100 r101 r102 r103 r104 r105 r106 r107 r108 r109 r110 r111 r112 wn xn
      go_wp2
      go_roundg (gk - 1)
      case measure => omega
      case rel => exact ⟨j + 1, by omega, by simp, xr.trans xn⟩
    · obtain rfl : j = 5 := by omega
      have Ef := E10.trans xr
      go_wp2
      go_ret
      exact ⟨rfl, by first | exact Ef | (rw [hb0]; exact Ef)⟩
theorem scriptAny_row {w : World} (s : SScr) (vs : List VSm) (sh pa : List SlV) (ds : List DSm) (v : Value) (lb : List Int) (z2 z3 z4 : Int) (Q : SScrQ w s vs sh pa ds) (hb : Arr w .u8 v lb) (h2 : 0 ≤ z2 ∧ z2 ≤ 65535) (h3 : 0 ≤ z3 ∧ z3 ≤ 255) (h4 : 0 ≤ z4 ∧ z4 ≤ 65535) : Calls Try.prog 3 #[.agg s.v, v, .int .u16 z2, .int .u8 z3, .int .u16 z4] w fun e w' => e = .returned (.bool true) ∧ Ext w w' := scriptAny_main w s vs sh pa ds Q v lb hb z2 z3 z4 h2 h3 h4
end Go.Proofs.Ytbbfmlehddfneaa

