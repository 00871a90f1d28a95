/-
  DERIVED. Layer 11's law: a script that may be, by small numbers (made by mkscr2.py).
-/
import Derived.Test.YtbbfmlehddfneaaPkAt
import Derived.Test.YtbbfmlehddfneaaPkPartB
import Derived.Test.YtbbfmlehddfneaaPkPartC
import Derived.Test.YtbbfmlehddfneaaPkDraw
namespace Go.Proofs.Ytbbfmlehddfneaa
open Go.RowKit
set_option linter.unusedVariables false
theorem calm_low {a b c : World} {bx : Nat} {O : List Nat} (h : Calm [bx] a b) (k : Calm O b c) (hO : ∀ g ∈ O, g = bx ∨ a.heap.size ≤ g) : Calm [bx] a c :=
  ⟨k.os.trans h.os, k.tape.trans h.tape, k.output.trans h.output, Nat.le_trans h.size k.size, fun g hg hn => (k.block g (Nat.lt_of_lt_of_le hg h.size) (fun hin => by
    rcases hO g hin with h1 | h1
    · exact hn (by simp [h1])
    · omega)).trans (h.block g hg hn)⟩

set_option maxRecDepth 100000 in
set_option maxHeartbeats 4000000 in
theorem script11_a (w : World) (wd ht t0 t1 t2 t3 : Int) (va sa pa' da : Option Addr) (vc sc pc dc : Nat) (vs : List VSm) (sh pa : List SlV) (ds : List DSm) (Q : SScrQ w ⟨wd, ht, t0, t1, t2, t3, ⟨va, vs.length, vc⟩, ⟨sa, sh.length, sc⟩, ⟨pa', pa.length, pc⟩, ⟨da, ds.length, dc⟩⟩ vs sh pa ds) (hl : lightB vs sh pa ds = true) (Ls Lp : List (List Sm)) (hCs : Conts w sh Ls) (hCp : Conts w pa Lp) (LX : List (List Int)) (hCd : DConts w ds LX):
    Calls Try.prog 8 #[.agg #[.int .u8 wd, .int .u8 ht, .int .i16 t0, .int .i16 t1, .int .i16 t2, .int .i16 t3, .slice va vs.length vc, .slice sa sh.length sc, .slice pa' pa.length pc, .slice da ds.length dc]] w fun e w' => ∃ m : ScrM, e = .returned (.agg m.l.toArray) ∧ ScrAt w' w.heap.size m (scriptF ⟨wd, ht, t0, t1, t2, t3, ⟨va, vs.length, vc⟩, ⟨sa, sh.length, sc⟩, ⟨pa', pa.length, pc⟩, ⟨da, ds.length, dc⟩⟩ vs Ls Lp ds LX) ∧ Ext w w' := by
  obtain ⟨⟨k0, k1, k2, k3, k4, k5⟩, QV, qv1, -, QS, qs1, -, QP, qp1, -, QD, qd1, -⟩ := Q
  dsimp only [SlV.v] at k0 k1 k2 k3 k4 k5 QV QS QP QD
  have B0 := Blk.new w #[.int .u8 wd, .int .u8 ht, .int .i16 t0, .int .i16 t1, .int .i16 t2, .int .i16 t3, .slice va vs.length vc, .slice sa sh.length sc, .slice pa' pa.length pc, .slice da ds.length dc] 28
  have B1 := Blk.new' (w := w.alloc (.cells #[.int .u8 wd, .int .u8 ht, .int .i16 t0, .int .i16 t1, .int .i16 t2, .int .i16 t3, .slice va vs.length vc, .slice sa sh.length sc, .slice pa' pa.length pc, .slice da ds.length dc] 28)) (b := w.heap.size + 1) (by simp) #[.int .i64 0, .int .i64 0, .int .i64 0, .int .i64 0, .int .i64 0, .int .i64 0, .int .i64 0, .int .i64 0, .int .i64 0, .int .i64 0, .int .i64 0, .int .i64 0, .int .i64 0, .int .i64 0, .int .i64 0, .int .i64 0, .int .i64 0, .int .i64 0, .slice none 0 0, .slice none 0 0, .slice none 0 0, .slice none 0 0] 42
  have x1 := ((Ext.refl w).alloc #[.int .u8 wd, .int .u8 ht, .int .i16 t0, .int .i16 t1, .int .i16 t2, .int .i16 t3, .slice va vs.length vc, .slice sa sh.length sc, .slice pa' pa.length pc, .slice da ds.length dc] 28).alloc #[.int .i64 0, .int .i64 0, .int .i64 0, .int .i64 0, .int .i64 0, .int .i64 0, .int .i64 0, .int .i64 0, .int .i64 0, .int .i64 0, .int .i64 0, .int .i64 0, .int .i64 0, .int .i64 0, .int .i64 0, .int .i64 0, .int .i64 0, .int .i64 0, .slice none 0 0, .slice none 0 0, .slice none 0 0, .slice none 0 0] 42
  have C0 := B0.alloc (.cells #[.int .i64 0, .int .i64 0, .int .i64 0, .int .i64 0, .int .i64 0, .int .i64 0, .int .i64 0, .int .i64 0, .int .i64 0, .int .i64 0, .int .i64 0, .int .i64 0, .int .i64 0, .int .i64 0, .int .i64 0, .int .i64 0, .int .i64 0, .int .i64 0, .slice none 0 0, .slice none 0 0, .slice none 0 0, .slice none 0 0] 42)
  have z1 : ((w.alloc (.cells #[.int .u8 wd, .int .u8 ht, .int .i16 t0, .int .i16 t1, .int .i16 t2, .int .i16 t3, .slice va vs.length vc, .slice sa sh.length sc, .slice pa' pa.length pc, .slice da ds.length dc] 28)).alloc (.cells #[.int .i64 0, .int .i64 0, .int .i64 0, .int .i64 0, .int .i64 0, .int .i64 0, .int .i64 0, .int .i64 0, .int .i64 0, .int .i64 0, .int .i64 0, .int .i64 0, .int .i64 0, .int .i64 0, .int .i64 0, .int .i64 0, .int .i64 0, .int .i64 0, .slice none 0 0, .slice none 0 0, .slice none 0 0, .slice none 0 0] 42)).heap.size = w.heap.size + 1 + 1 := by simp
  have hw24 : IntKind.i64.wrap (wd % 24) = wd % 24 := by rw [IntKind.wrap_i64]; omega
  have hh24 : IntKind.i64.wrap (ht % 24) = ht % 24 := by rw [IntKind.wrap_i64]; omega
  have hw25 : IntKind.i64.wrap (1 + wd % 24) = (1 + wd % 24) := by rw [IntKind.wrap_i64]; omega
  have hh25 : IntKind.i64.wrap (1 + ht % 24) = (1 + ht % 24) := by rw [IntKind.wrap_i64]; omega
  have hix := idx4i (.int .i16 t0) (.int .i16 t1) (.int .i16 t2) (.int .i16 t3)
  go_enter Try.func8, Try.ntmps8
  go_upto_region 1 with fail
  generalize (w.alloc (.cells #[.int .u8 wd, .int .u8 ht, .int .i16 t0, .int .i16 t1, .int .i16 t2, .int .i16 t3, .slice va vs.length vc, .slice sa sh.length sc, .slice pa' pa.length pc, .slice da ds.length dc] 28)).alloc (.cells #[.int .i64 0, .int .i64 0, .int .i64 0, .int .i64 0, .int .i64 0, .int .i64 0, .int .i64 0, .int .i64 0, .int .i64 0, .int .i64 0, .int .i64 0, .int .i64 0, .int .i64 0, .int .i64 0, .int .i64 0, .int .i64 0, .int .i64 0, .int .i64 0, .slice none 0 0, .slice none 0 0, .slice none 0 0, .slice none 0 0] 42) = w1 at *
  generalize hb0 : w.heap.size = b0 at *
  clear B0
  apply wp_region_vars [false, false, false, false, false, false, false, false, false, false, false, false, true, true] [] [⟨some 12, 3, 0, some 13, 42, #[.int .i64 0, .int .i64 0, .int .i64 0, .int .i64 0, .int .i64 0, .int .i64 0, .int .i64 0, .int .i64 0, .int .i64 0, .int .i64 0, .int .i64 0, .int .i64 0, .int .i64 0, .int .i64 0, .int .i64 0, .int .i64 0, .int .i64 0, .int .i64 0, .slice none 0 0, .slice none 0 0, .slice none 0 0, .slice none 0 0], #[.int .i64 (1 + wd % 24), .int .i64 (1 + ht % 24), .int .i64 65536, .int .i64 0, .int .i64 0, .int .i64 0, .int .i64 0, .int .i64 65536, .int .i64 0, .int .i64 0, .int .i64 0, .int .i64 0, .int .i64 65536, .int .i64 0, .int .i64 0, .int .i64 0, .int .i64 0, .int .i64 65536, .slice none 0 0, .slice none 0 0, .slice none 0 0, .slice none 0 0]⟩] _ (by kernel_rfl) (by kernel_rfl) (by kernel_rfl)
  case H =>
    intro x hx
    have hne : Nonempty (Wx x) := ⟨⟨x, Ext.refl x⟩⟩
    have q0 := fun (y : Wx x) => ((C0.calm hx (by simp)).ext y.ext).cell
    simp only [eraseM]
    repeat (go_big_quiet_step ((go_at_call 13; exact calm_of (vunit_any _))))
    exact wpQuiet_nil rfl
  case hok =>
    simp only [List.forall_mem_cons, List.not_mem_nil, false_implies, implies_true, and_true]
    exact tgt_fresh (by simp) rfl rfl mkScr rfl rfl rfl rfl (by kernel_rfl) (by kernel_rfl) rfl
  case hdis =>
    intro k k' t t' hk hk' _ ha
    exfalso
    have := List.mem_of_getElem? hk
    simp only [List.mem_cons, List.not_mem_nil, or_false] at this
    rcases this with rfl <;> cases ha
  rintro w2 f hw ⟨k0', l0, d0, -⟩
  have hx2 := hw.ext
  clear hw
  have D0 := C0.ext hx2
  have D1 := B1.ext hx2
  have X2 : Blk w2 (f 0) #[.int .i64 (1 + wd % 24), .int .i64 (1 + ht % 24), .int .i64 65536, .int .i64 0, .int .i64 0, .int .i64 0, .int .i64 0, .int .i64 65536, .int .i64 0, .int .i64 0, .int .i64 0, .int .i64 0, .int .i64 65536, .int .i64 0, .int .i64 0, .int .i64 0, .int .i64 0, .int .i64 65536, .slice none 0 0, .slice none 0 0, .slice none 0 0, .slice none 0 0] 42 := d0
  simp only [pairs, putAll, Option.isSome_some, if_true]
  have hbx0 : w1.heap.size ≤ f 0 := by simpa using k0'
  generalize f 0 = bx at *
  clear f C0 B1 d0
  have e2 := x1.trans hx2
  have hbx : b0 + 1 + 1 ≤ bx := by omega
  have hlx : w.heap.size ≤ bx := by omega
  clear x1 hx2 k0' hw24 hh24 hw25 hh25
  have cD0 := D0.cell
  have cX2 := X2.cell
  have fX2 := X2.frozen
  go_wp2_with fail
  refine wp_loop_rounds 5 ?_
  rw [rounds_succ]
  go_wp2
  rw [rounds_succ]
  go_wp2
  rw [rounds_succ]
  go_wp2
  rw [rounds_succ]
  go_wp2
  rw [rounds_succ]
  go_upto_region 7 with fail
  have X3 := (((X2.set 3 (.int .i64 t0)).set 8 (.int .i64 t1)).set 13 (.int .i64 t2)).set 14 (.int .i64 t3)
  simp only [List.setIfInBounds_toArray, List.set_cons_succ, List.set_cons_zero] at X3
  have E0 := (((D0.far (p := ⟨bx, 3, none⟩) (by simp; omega) (.int .i64 t0)).far (p := ⟨bx, 8, none⟩) (by simp; omega) (.int .i64 t1)).far (p := ⟨bx, 13, none⟩) (by simp; omega) (.int .i64 t2)).far (p := ⟨bx, 14, none⟩) (by simp; omega) (.int .i64 t3)
  have E1 := (((D1.far (p := ⟨bx, 3, none⟩) (by simp; omega) (.int .i64 t0)).far (p := ⟨bx, 8, none⟩) (by simp; omega) (.int .i64 t1)).far (p := ⟨bx, 13, none⟩) (by simp; omega) (.int .i64 t2)).far (p := ⟨bx, 14, none⟩) (by simp; omega) (.int .i64 t3)
  have e3 := (((e2.setCell (p := ⟨bx, 3, none⟩) hlx (.int .i64 t0)).setCell (p := ⟨bx, 8, none⟩) hlx (.int .i64 t1)).setCell (p := ⟨bx, 13, none⟩) hlx (.int .i64 t2)).setCell (p := ⟨bx, 14, none⟩) hlx (.int .i64 t3)
  clear D0 D1 X2 cD0 cX2 fX2 e2 hix
  generalize (((w2.setCell ⟨bx, 3, none⟩ (.int .i64 t0)).setCell ⟨bx, 8, none⟩ (.int .i64 t1)).setCell ⟨bx, 13, none⟩ (.int .i64 t2)).setCell ⟨bx, 14, none⟩ (.int .i64 t3) = w3 at *
  have cE0 := E0.cell
  have hvsl : vs.length ≤ 40 := by
    unfold lightB at hl
    simp at hl
    omega
  go_wp2_with fail
  go_loopg [42] vs.length (fun n0 iv wx => ∃ (j : Nat) (pv : SlV), j + n0 = vs.length ∧ iv = .int .i64 j ∧ OwnG LV wx (bx + 1) pv.v (((vs.take 12).take j).map vxF) ∧ Blk wx bx #[.int .i64 (1 + wd % 24), .int .i64 (1 + ht % 24), .int .i64 65536, .int .i64 t0, .int .i64 0, .int .i64 0, .int .i64 0, .int .i64 65536, .int .i64 t1, .int .i64 0, .int .i64 0, .int .i64 0, .int .i64 65536, .int .i64 t2, .int .i64 t3, .int .i64 0, .int .i64 0, .int .i64 65536, .slice pv.ao pv.n pv.c, .slice none 0 0, .slice none 0 0, .slice none 0 0] 42 ∧ Blk wx b0 #[.int .u8 wd, .int .u8 ht, .int .i16 t0, .int .i16 t1, .int .i16 t2, .int .i16 t3, .slice va vs.length vc, .slice sa sh.length sc, .slice pa' pa.length pc, .slice da ds.length dc] 28 ∧ Blk wx (b0 + 1) #[.int .i64 0, .int .i64 0, .int .i64 0, .int .i64 0, .int .i64 0, .int .i64 0, .int .i64 0, .int .i64 0, .int .i64 0, .int .i64 0, .int .i64 0, .int .i64 0, .int .i64 0, .int .i64 0, .int .i64 0, .int .i64 0, .int .i64 0, .int .i64 0, .slice none 0 0, .slice none 0 0, .slice none 0 0, .slice none 0 0] 42 ∧ Ext w wx ∧ bx < wx.heap.size)
  case atStart => exact ⟨0, SlV.nil, by omega, by simp, by simpa using OwnG.nil LV w3 (bx + 1), X3, E0, E1, e3, X3.lt⟩
  case round =>
    clear X3 E0 E1 e3 cE0
    obtain ⟨j, pv, hjk, rfl, o1, G1, K0, K1, e1, hb1⟩ := hrel
    by_cases hj : j < vs.length
    · have hjI : (j : Int) < (vs.length : Int) := by omega
      obtain ⟨g, off, x, e0, -, hx, hc⟩ := (QV.ext e1).nth j hj
      cases e0
      have hxok := qv1 x (List.mem_of_getElem? hx)
      have R3 : wr.rangeAt g (off + j * 9) x.l := hc
      have Bz := Blk.new wr #[.int .i16 0, .int .i16 0, .int .i16 0, .int .i16 0, .int .u8 0, .int .u8 0, .int .u8 0, .int .u8 0, .bool false] 82
      have Bs := Bz.setRow x.l.toArray
      have e2 : Ext w ((wr.alloc (.cells #[.int .i16 0, .int .i16 0, .int .i16 0, .int .i16 0, .int .u8 0, .int .u8 0, .int .u8 0, .int .u8 0, .bool false] 82)).setRow wr.heap.size x.l.toArray) := (e1.alloc _ _).setRow e1.size _
      have xx : Ext wr ((wr.alloc (.cells #[.int .i16 0, .int .i16 0, .int .i16 0, .int .i16 0, .int .u8 0, .int .u8 0, .int .u8 0, .int .u8 0, .bool false] 82)).setRow wr.heap.size x.l.toArray) := ((Ext.refl wr).alloc _ _).setRow (Nat.le_refl _) _
      have hone : x.l.toArray.all (·.oneCell') = true := by
        simp only [List.all_toArray, List.all_eq_true]
        exact LVS.one _
      have hzl : x.l.length = 9 := rfl
      clear hc
      by_cases h12 : j < 12
      · have h12I : (j : Int) < 12 := by omega
        have HS := Lib.hid (show ((vs.take 12).take (j + 1)).map vxF = ((vs.take 12).take j).map vxF ++ [vxF x] by
          rw [List.take_take, List.take_take, show min (j + 1) 12 = j + 1 by omega, show min j 12 = j by omega, List.take_add_one, hx]
          simp)
        have hlen : (((vs.take 12).take j).map vxF).length = j := by simp; omega
        clear hx
        generalize ((vs.take 12).take j).map vxF = li at *
        obtain ⟨pa0, pn0, pc0⟩ := pv
        have hpn : j = pn0 := by
          obtain ⟨_, _, e, -, -⟩ := o1.slice
          cases e
          exact hlen.symm
        subst hpn
        dsimp only [SlV.v] at o1 G1
        go_upto_region 11 with (first
          | refine wpList_load_mid rfl 82 (.tmp 45) rfl g (off + j * 9) rfl x.l _ R3 Try.underlying82 rfl (by kernel_rfl) ?_
          | ((with_reducible refine wpList_store_blk (op := ⟨none, .store 82 (.tmp 7) (.tmp 46), _, _, _, _⟩) ?_ 82 (.tmp 7) (.tmp 46) ?_ wr.heap.size ?_ (cs := x.l.toArray) ?_ (z := #[.int .i16 0, .int .i16 0, .int .i16 0, .int .i16 0, .int .u8 0, .int .u8 0, .int .u8 0, .int .u8 0, .bool false]) (T := 82) ?_ ?_ ?_ ?_ ?_); rfl; rfl; rfl; rfl; exact Bz; (rw [List.size_toArray, hzl]; kernel_rfl); exact hone; (simp [hzl]))
          | fail)
        have o5 := o1.ext xx
        have G5 := G1.ext xx
        have L0 := K0.ext xx
        have L1 := K1.ext xx
        have hV := vertex11_any x hxok
        have hb5 := G5.lt
        clear o1 G1 K0 K1 e1 Bz hone hzl R3 xx
        generalize (wr.alloc (.cells #[.int .i16 0, .int .i16 0, .int .i16 0, .int .i16 0, .int .u8 0, .int .u8 0, .int .u8 0, .int .u8 0, .bool false] 82)).setRow wr.heap.size x.l.toArray = w5 at *
        generalize wr.heap.size = b7 at *
        generalize vxF x = q at *
        obtain ⟨xx0, xy0, xz0, xw0, xr0, xg0, xb0, xa0, xf0⟩ := x
        have cB7 := Bs.cell
        have cG5 := G5.cell
        refine scr_r11 _ _ _ _ _ _ _ _ _ _ _ _ _ _ _ _ _ _ _ _ _ _ _ _ _ _ _ _ _ _ _ _ _ _ _ _ _ _ _ _ _ _ _ _ _ _ _ _ _ _ _ _ _ _ _ _ _ _ _ _ _ _ _ _ _ _ _ _ _ _ _ _ _ _ _ _ _ _ _ _ _ _ _ _ _ _ _ _ _ _ _ _ _ _ _ _ _ _ _ _ _ _ _ _ _ _ _ _ _ bx b7 j pc0 (bx + 1) pa0 _ _ _ _ _ _ _ _ _ _ _ _ _ _ _ _ _ _ _ _ _  li ⟨xx0, xy0, xz0, xw0, xr0, xg0, xb0, xa0, xf0⟩ q w5 G5 o5 (by omega) (by omega) hlen (by omega) Bs hV (fun _ _ _ _ _ _ _ ao8 c8 w9 o9 G9 K9 => ?_)
        have hOw : ∀ b ∈ (bx :: (Value.slice pa0 j pc0).ownBlock.toList), w.heap.size ≤ b := fun b hb => by
          rcases List.mem_cons.1 hb with h | h
          · omega
          · have := (o5.lt b (Option.mem_toList.1 h)).1
            omega
        have hOb : ∀ b, b < bx → b ∉ (bx :: (Value.slice pa0 j pc0).ownBlock.toList) := fun b hlt hb => by
          rcases List.mem_cons.1 hb with h | h
          · omega
          · have := (o5.lt b (Option.mem_toList.1 h)).1
            omega
        have M0' := L0.calm K9 (hOb _ (by omega))
        have M1' := L1.calm K9 (hOb _ (by omega))
        have e9 := Ext.calm_trans e2 K9 hOw
        clear K9 hOw hOb o5 G5 L0 L1 e2 hV
        go_wp2
        go_roundg (gk - 1)
        case measure => omega
        case rel => exact ⟨j + 1, ⟨ao8, j + 1, c8⟩, by omega, by simp, by rw [HS.out]; exact o9, G9, M0', M1', e9, G9.lt⟩
      · have h12I : ¬ (j : Int) < 12 := by omega
        have HS := Lib.hid (show ((vs.take 12).take (j + 1)).map vxF = ((vs.take 12).take j).map vxF by
          rw [List.take_take, List.take_take, show min (j + 1) 12 = 12 by omega, show min j 12 = 12 by omega])
        clear hx
        have o5 := o1.ext xx
        have G5 := G1.ext xx
        have L0 := K0.ext xx
        have L1 := K1.ext xx
        go_wp2_with (first
          | refine wpList_load_mid rfl 82 (.tmp 45) rfl g (off + j * 9) rfl x.l _ R3 Try.underlying82 rfl (by kernel_rfl) ?_
          | ((with_reducible refine wpList_store_blk (op := ⟨none, .store 82 (.tmp 7) (.tmp 46), _, _, _, _⟩) ?_ 82 (.tmp 7) (.tmp 46) ?_ wr.heap.size ?_ (cs := x.l.toArray) ?_ (z := #[.int .i16 0, .int .i16 0, .int .i16 0, .int .i16 0, .int .u8 0, .int .u8 0, .int .u8 0, .int .u8 0, .bool false]) (T := 82) ?_ ?_ ?_ ?_ ?_); rfl; rfl; rfl; rfl; exact Bz; (rw [List.size_toArray, hzl]; kernel_rfl); exact hone; (simp [hzl]))
          | fail)
        go_roundg (gk - 1)
        case measure => omega
        case rel => exact ⟨j + 1, pv, by omega, by simp, by rw [HS.out]; exact o5, G5, L0, L1, e2, G5.lt⟩
    · obtain rfl : j = vs.length := by omega
      have hall : (vs.take 12).take vs.length = vs.take 12 := List.take_of_length_le (by simp; omega)
      rw [hall] at o1
      generalize hL0 : (vs.take 12).map vxF = L0 at *
      have hL12 : L0.length ≤ 12 := by rw [← hL0]; simp; omega
      have cG1 := G1.cell
      have cK0 := K0.cell
      go_wp2_with fail
      go_loopg [8] (3 - L0.length) (fun n0 nv wx => ∃ (l : List V8) (pv : SlV), n0 = 3 - l.length ∧ OwnG LV wx (bx + 1) pv.v l ∧ pad3 l = pad3 L0 ∧ l.length ≤ 12 ∧ Blk wx bx #[.int .i64 (1 + wd % 24), .int .i64 (1 + ht % 24), .int .i64 65536, .int .i64 t0, .int .i64 0, .int .i64 0, .int .i64 0, .int .i64 65536, .int .i64 t1, .int .i64 0, .int .i64 0, .int .i64 0, .int .i64 65536, .int .i64 t2, .int .i64 t3, .int .i64 0, .int .i64 0, .int .i64 65536, .slice pv.ao pv.n pv.c, .slice none 0 0, .slice none 0 0, .slice none 0 0] 42 ∧ Blk wx b0 #[.int .u8 wd, .int .u8 ht, .int .i16 t0, .int .i16 t1, .int .i16 t2, .int .i16 t3, .slice va vs.length vc, .slice sa sh.length sc, .slice pa' pa.length pc, .slice da ds.length dc] 28 ∧ Blk wx (b0 + 1) #[.int .i64 0, .int .i64 0, .int .i64 0, .int .i64 0, .int .i64 0, .int .i64 0, .int .i64 0, .int .i64 0, .int .i64 0, .int .i64 0, .int .i64 0, .int .i64 0, .int .i64 0, .int .i64 0, .int .i64 0, .int .i64 0, .int .i64 0, .int .i64 0, .slice none 0 0, .slice none 0 0, .slice none 0 0, .slice none 0 0] 42 ∧ Ext w wx ∧ bx < wx.heap.size)
      case atStart => exact ⟨L0, pv, rfl, o1, rfl, hL12, G1, K0, K1, e1, hb1⟩
      case round =>
        clear o1 G1 K0 K1 e1 hb1 cG1 cK0
        generalize wr = wy at *
        obtain ⟨l, pv, hgk, o1, hpad, hl12, G1, K0, K1, e1, hb1⟩ := hrel
        obtain ⟨pa0, pn0, pc0⟩ := pv
        have hpn : pn0 = l.length := by
          obtain ⟨_, _, e, -, -⟩ := o1.slice
          cases e
          rfl
        dsimp only [SlV.v] at o1 G1
        rw [hpn] at o1 G1
        clear hpn
        rcases (by omega : l.length = 0 ∨ l.length = 1 ∨ l.length = 2 ∨ 3 ≤ l.length) with hm | hm | hm | hm
        · have HP := Lib.hid (pad3_step (l := l) (m := 0) hm (by omega))
          have hV : ∀ u, Calls Try.prog 14 #[.agg #[.int .i16 (-20000), .int .i16 0, .int .i16 9000, .int .i16 3000, .int .u8 200, .int .u8 90, .int .u8 0, .int .u8 255, .bool false]] u fun e w' => e = .returned (.agg (vxF (padV 0)).l.toArray) ∧ Ext u w' := fun u => vertex11_any ⟨-20000, 0, 9000, 3000, 200, 90, 0, 255, false⟩ (by simp [VSm.ok]) u
          generalize vxF (padV 0) = q at *
          rw [hm] at o1 G1
          have cG1 := G1.cell
          have hln : l.length = 0 := hm
          clear hm
          have hb5 := G1.lt
          go_upto_region 15 with fail
          refine scr_r15_0 _ _ _ _ _ _ _ _ _ _ _ _ _ _ _ _ _ _ _ _ _ _ _ _ _ _ _ _ _ _ _ _ _ _ _ _ _ _ _ _ _ _ _ _ _ _ _ _ _ _ _ _ _ _ _ _ _ _ _ _ _ _ _ _ _ _ _ _ _ _ _ _ _ _ _ _ _ _ _ _ _ _ _ _ _ _ _ _ _ _ _ _ _ _ _ _ _ _ _ _ _ _ _ _ _ _ _ _ _ bx 0 pc0 (bx + 1) pa0 _ _ _ _ _ _ _ _ _ _ _ _ _ _ _ _ _ _ _ _ _  l default q wy G1 o1 (by omega) (by omega) hln (by omega) hV (fun _ _ _ _ _ _ _ _ _ _ _ _ _ _ _ _ _ _ _ ao8 c8 w9 o9 G9 K9 => ?_)
          have hOw : ∀ b ∈ (bx :: (Value.slice pa0 0 pc0).ownBlock.toList), w.heap.size ≤ b := fun b hb => by
            rcases List.mem_cons.1 hb with h | h
            · omega
            · have := (o1.lt b (Option.mem_toList.1 h)).1
              omega
          have hOb : ∀ b, b < bx → b ∉ (bx :: (Value.slice pa0 0 pc0).ownBlock.toList) := fun b hlt hb => by
            rcases List.mem_cons.1 hb with h | h
            · omega
            · have := (o1.lt b (Option.mem_toList.1 h)).1
              omega
          have M0' := K0.calm K9 (hOb _ (by omega))
          have M1' := K1.calm K9 (hOb _ (by omega))
          have e9 := Ext.calm_trans e1 K9 hOw
          clear K9 hOw hOb o1 G1 K0 K1 e1 hV cG1
          go_wp2
          go_roundg 2
          case measure => omega
          case rel => exact ⟨l ++ [q], ⟨ao8, 1, c8⟩, by simp [hln], o9, HP.out.trans hpad, by simp; omega, G9, M0', M1', e9, G9.lt⟩
        · have HP := Lib.hid (pad3_step (l := l) (m := 1) hm (by omega))
          have hV : ∀ u, Calls Try.prog 14 #[.agg #[.int .i16 0, .int .i16 15000, .int .i16 9000, .int .i16 3000, .int .u8 200, .int .u8 90, .int .u8 100, .int .u8 255, .bool false]] u fun e w' => e = .returned (.agg (vxF (padV 1)).l.toArray) ∧ Ext u w' := fun u => vertex11_any ⟨0, 15000, 9000, 3000, 200, 90, 100, 255, false⟩ (by simp [VSm.ok]) u
          generalize vxF (padV 1) = q at *
          rw [hm] at o1 G1
          have cG1 := G1.cell
          have hln : l.length = 1 := hm
          clear hm
          have hb5 := G1.lt
          go_upto_region 15 with fail
          refine scr_r15_1 _ _ _ _ _ _ _ _ _ _ _ _ _ _ _ _ _ _ _ _ _ _ _ _ _ _ _ _ _ _ _ _ _ _ _ _ _ _ _ _ _ _ _ _ _ _ _ _ _ _ _ _ _ _ _ _ _ _ _ _ _ _ _ _ _ _ _ _ _ _ _ _ _ _ _ _ _ _ _ _ _ _ _ _ _ _ _ _ _ _ _ _ _ _ _ _ _ _ _ _ _ _ _ _ _ _ _ _ _ bx 1 pc0 (bx + 1) pa0 _ _ _ _ _ _ _ _ _ _ _ _ _ _ _ _ _ _ _ _ _  l default q wy G1 o1 (by omega) (by omega) hln (by omega) hV (fun _ _ _ _ _ _ _ _ _ _ _ _ _ _ _ _ _ _ _ ao8 c8 w9 o9 G9 K9 => ?_)
          have hOw : ∀ b ∈ (bx :: (Value.slice pa0 1 pc0).ownBlock.toList), w.heap.size ≤ b := fun b hb => by
            rcases List.mem_cons.1 hb with h | h
            · omega
            · have := (o1.lt b (Option.mem_toList.1 h)).1
              omega
          have hOb : ∀ b, b < bx → b ∉ (bx :: (Value.slice pa0 1 pc0).ownBlock.toList) := fun b hlt hb => by
            rcases List.mem_cons.1 hb with h | h
            · omega
            · have := (o1.lt b (Option.mem_toList.1 h)).1
              omega
          have M0' := K0.calm K9 (hOb _ (by omega))
          have M1' := K1.calm K9 (hOb _ (by omega))
          have e9 := Ext.calm_trans e1 K9 hOw
          clear K9 hOw hOb o1 G1 K0 K1 e1 hV cG1
          go_wp2
          go_roundg 1
          case measure => omega
          case rel => exact ⟨l ++ [q], ⟨ao8, 2, c8⟩, by simp [hln], o9, HP.out.trans hpad, by simp; omega, G9, M0', M1', e9, G9.lt⟩
        · have HP := Lib.hid (pad3_step (l := l) (m := 2) hm (by omega))
          have hV : ∀ u, Calls Try.prog 14 #[.agg #[.int .i16 20000, .int .i16 0, .int .i16 9000, .int .i16 3000, .int .u8 200, .int .u8 90, .int .u8 200, .int .u8 255, .bool false]] u fun e w' => e = .returned (.agg (vxF (padV 2)).l.toArray) ∧ Ext u w' := fun u => vertex11_any ⟨20000, 0, 9000, 3000, 200, 90, 200, 255, false⟩ (by simp [VSm.ok]) u
          generalize vxF (padV 2) = q at *
          rw [hm] at o1 G1
          have cG1 := G1.cell
          have hln : l.length = 2 := hm
          clear hm
          have hb5 := G1.lt
          go_upto_region 15 with fail
          refine scr_r15_2 _ _ _ _ _ _ _ _ _ _ _ _ _ _ _ _ _ _ _ _ _ _ _ _ _ _ _ _ _ _ _ _ _ _ _ _ _ _ _ _ _ _ _ _ _ _ _ _ _ _ _ _ _ _ _ _ _ _ _ _ _ _ _ _ _ _ _ _ _ _ _ _ _ _ _ _ _ _ _ _ _ _ _ _ _ _ _ _ _ _ _ _ _ _ _ _ _ _ _ _ _ _ _ _ _ _ _ _ _ bx 2 pc0 (bx + 1) pa0 _ _ _ _ _ _ _ _ _ _ _ _ _ _ _ _ _ _ _ _ _  l default q wy G1 o1 (by omega) (by omega) hln (by omega) hV (fun _ _ _ _ _ _ _ _ _ _ _ _ _ _ _ _ _ _ _ ao8 c8 w9 o9 G9 K9 => ?_)
          have hOw : ∀ b ∈ (bx :: (Value.slice pa0 2 pc0).ownBlock.toList), w.heap.size ≤ b := fun b hb => by
            rcases List.mem_cons.1 hb with h | h
            · omega
            · have := (o1.lt b (Option.mem_toList.1 h)).1
              omega
          have hOb : ∀ b, b < bx → b ∉ (bx :: (Value.slice pa0 2 pc0).ownBlock.toList) := fun b hlt hb => by
            rcases List.mem_cons.1 hb with h | h
            · omega
            · have := (o1.lt b (Option.mem_toList.1 h)).1
              omega
          have M0' := K0.calm K9 (hOb _ (by omega))
          have M1' := K1.calm K9 (hOb _ (by omega))
          have e9 := Ext.calm_trans e1 K9 hOw
          clear K9 hOw hOb o1 G1 K0 K1 e1 hV cG1
          go_wp2
          go_roundg 0
          case measure => omega
          case rel => exact ⟨l ++ [q], ⟨ao8, 3, c8⟩, by simp [hln], o9, HP.out.trans hpad, by simp; omega, G9, M0', M1', e9, G9.lt⟩
        · have hmI : ¬ (l.length : Int) < 3 := by omega
          have cG1 := G1.cell
          have hp3 := Lib.hid ((pad3_done hm).symm.trans hpad)
          have cK0 := K0.cell
          have hb5 := G1.lt
          have hlS : sh.all le30 = true := by
            unfold lightB at hl
            simp only [Bool.and_eq_true] at hl
            exact hl.1
          have hlP : pa.all le30 = true := by
            unfold lightB at hl
            simp only [Bool.and_eq_true] at hl
            exact hl.2.1
          have hnS : sh.length ≤ 1000 := by
            unfold lightB at hl
            simp at hl
            omega
          have hnP : pa.length ≤ 1000 := by
            unfold lightB at hl
            simp at hl
            omega
          have HL := Lib.hid hl
          clear hl
          go_upto_region 16 with fail
          have hS1 : ∀ u, Ext wy u → Calls Try.prog 15 #[.slice sa sh.length sc, .bool false] u fun e w' => ∃ v' svs, e = .returned v' ∧ OwnG LP w' u.heap.size v' svs ∧ ProgsAt w' u.heap.size svs (progsF false Ls) ∧ (∀ s ∈ svs, ∀ k, s.v.ownBlock = some k → v'.ownBlock ≠ some k) ∧ Ext u w' := fun u hu => programs_any u false ⟨sa, sh.length, sc⟩ sh Ls (QS.ext (e1.trans hu)) (hCs.ext (e1.trans hu)) hlS hnS
          have hP1 : ∀ u, Ext wy u → Calls Try.prog 15 #[.slice pa' pa.length pc, .bool true] u fun e w' => ∃ v' svs, e = .returned v' ∧ OwnG LP w' u.heap.size v' svs ∧ ProgsAt w' u.heap.size svs (progsF true Lp) ∧ (∀ s ∈ svs, ∀ k, s.v.ownBlock = some k → v'.ownBlock ≠ some k) ∧ Ext u w' := fun u hu => programs_any u true ⟨pa', pa.length, pc⟩ pa Lp (QP.ext (e1.trans hu)) (hCp.ext (e1.trans hu)) hlP hnP
          refine scr_r16 _ _ _ _ _ _ _ _ _ _ _ _ _ _ _ _ _ _ _ _ _ _ _ _ _ _ _ _ _ _ _ _ _ _ _ _ _ _ _ _ _ _ _ _ _ _ _ _ _ _ _ _ _ _ _ _ _ _ _ _ _ _ _ _ _ _ _ _ _ _ _ _ _ _ _ _ _ _ _ _ _ _ _ _ _ _ _ _ _ _ _ _ _ _ _ _ _ _ _ _ _ _ _ _ _ _ _ _ _ b0 bx _ _ _ _ _ _ _ _ _ _  (progsF false Ls) (progsF true Lp) _ _ _ _ _ _ _ _ _ _ _ _ _ _ _ _ _ _ _ _  wy K0 G1 (by omega) hS1 hP1 (fun _ _ _ _ _ _ _ _ sv pv lo1 lo2 hi1 hi2 wx PS PP hdis hlo1 hlo2 hhi1 hhi2 G2 c2 => ?_)
          clear hS1 hP1
          obtain ⟨svA, svN, svC⟩ := sv
          obtain ⟨pvA, pvN, pvC⟩ := pv
          have hsvn : 1 ≤ svN ∧ svN ≤ 100 := PS.bound (by simp [progsF]) (by simp [progsF]; omega)
          have hpvn : 1 ≤ pvN ∧ pvN ≤ 100 := PP.bound (by simp [progsF]) (by simp [progsF]; omega)
          have hbO : ∀ b ∈ [bx], w.heap.size ≤ b := fun b hb => by rw [List.mem_singleton.1 hb]; exact hlx
          have L0 := K0.calm c2 (by simp; omega)
          have L1 := K1.calm c2 (by simp; omega)
          have e2 := Ext.calm_trans e1 c2 hbO
          have o2 := o1.calm c2 (fun k hk hin => by have := (o1.lt k hk).1; simp at hin; omega)
          have hvlt : ∀ k, (Value.slice pa0 l.length pc0).ownBlock = some k → k < wy.heap.size := fun k hk => (o1.lt k hk).2
          have hz2 := c2.size
          clear G1 cG1 cK0 K0 K1 o1 e1 hb1 hpad
          have cL0 := L0.cell
          have hbw := G2.lt
          have hds20 : ds.length ≤ 20 := by
            have h := HL.out
            unfold lightB at h
            simp at h
            omega
          have hd60 : ∀ d ∈ ds, d.ix.n ≤ 60 := fun d hd => by
            have h := HL.out
            unfold lightB at h
            simp only [Bool.and_eq_true] at h
            simpa [le60] using List.all_eq_true.1 h.2.2.1 d hd
          go_wp2_with fail
          go_loopg [94] ds.length (fun n0 iv wv => ∃ (j : Nat) (dvS : SlV) (dms : List DrM), j + n0 = ds.length ∧ iv = .int .i64 j ∧ OwnG LD wv wx.heap.size dvS.v dms ∧ DrawsAt wv wx.heap.size dms (((drawsF ds LX l.length svN pvN).take 5).take j) ∧ (∀ m ∈ dms, ∀ k, m.ix.v.ownBlock = some k → dvS.v.ownBlock ≠ some k) ∧ Blk wv bx #[.int .i64 (1 + wd % 24), .int .i64 (1 + ht % 24), .int .i64 65536, .int .i64 t0, .int .i64 0, .int .i64 0, .int .i64 0, .int .i64 65536, .int .i64 t1, .int .i64 0, .int .i64 0, .int .i64 0, .int .i64 65536, .int .i64 t2, .int .i64 t3, .int .i64 0, .int .i64 0, .int .i64 65536, .slice pa0 l.length pc0, .slice svA svN svC, .slice pvA pvN pvC, .slice dvS.ao dvS.n dvS.c] 42 ∧ Calm [bx] wx wv)
          case atStart => exact ⟨0, SlV.nil, [], by omega, by simp, OwnG.nil _ _ _, ⟨by simp, fun i m h => by simp at h⟩, (fun m hm => by simp at hm), G2, Calm.refl _ _⟩
          case round =>
            generalize wr = wt at *
            obtain ⟨j, dvS, dms, hjk, rfl, oD, pD, apD, G3, c3⟩ := hrel
            have e3 := Ext.calm_trans e2 c3 hbO
            by_cases hj : j < ds.length
            · have hjI : (j : Int) < (ds.length : Int) := by omega
              obtain ⟨g, off, x, e0, -, hx, hc⟩ := (QD.ext e3).nth j hj
              cases e0
              obtain ⟨xs, hLx, hdok, hX⟩ := hCd.2 j x hx
              have hx60 := hd60 x (List.mem_of_getElem? hx)
              have R3 : wt.rangeAt g (off + j * 26) x.l := hc
              have Bz := Blk.new wt #[.int .u8 0, .int .u8 0, .int .u8 0, .int .u8 0, .int .u8 0, .int .u8 0, .int .u8 0, .int .u8 0, .int .u8 0, .int .u8 0, .bool false, .bool false, .int .u8 0, .int .u8 0, .int .u8 0, .int .u8 0, .int .u8 0, .int .u8 0, .int .u8 0, .slice none 0 0, .int .u8 0, .int .u8 0, .int .u8 0, .int .u8 0, .int .u16 0, .bool false] 79
              have Bs := Bz.setRow x.l.toArray
              have e4 : Ext w ((wt.alloc (.cells #[.int .u8 0, .int .u8 0, .int .u8 0, .int .u8 0, .int .u8 0, .int .u8 0, .int .u8 0, .int .u8 0, .int .u8 0, .int .u8 0, .bool false, .bool false, .int .u8 0, .int .u8 0, .int .u8 0, .int .u8 0, .int .u8 0, .int .u8 0, .int .u8 0, .slice none 0 0, .int .u8 0, .int .u8 0, .int .u8 0, .int .u8 0, .int .u16 0, .bool false] 79)).setRow wt.heap.size x.l.toArray) := (e3.alloc _ _).setRow e3.size _
              have xx : Ext wt ((wt.alloc (.cells #[.int .u8 0, .int .u8 0, .int .u8 0, .int .u8 0, .int .u8 0, .int .u8 0, .int .u8 0, .int .u8 0, .int .u8 0, .int .u8 0, .bool false, .bool false, .int .u8 0, .int .u8 0, .int .u8 0, .int .u8 0, .int .u8 0, .int .u8 0, .int .u8 0, .slice none 0 0, .int .u8 0, .int .u8 0, .int .u8 0, .int .u8 0, .int .u16 0, .bool false] 79)).setRow wt.heap.size x.l.toArray) := ((Ext.refl wt).alloc _ _).setRow (Nat.le_refl _) _
              have hone : x.l.toArray.all (·.oneCell') = true := by
                simp only [List.all_toArray, List.all_eq_true]
                exact LDS.one _
              have hzl : x.l.length = 26 := rfl
              clear hc
              by_cases h5 : j < 5
              · have h5I : (j : Int) < 5 := by omega
                have HS := Lib.hid (drawsF_snoc (nv := l.length) (ns := svN) (np := pvN) h5 hx hLx)
                have hD1 : ∀ u (da dn dc), Ext w u → Calls Try.prog 16 #[.agg x.l.toArray, .agg #[.int .i64 (1 + wd % 24), .int .i64 (1 + ht % 24), .int .i64 65536, .int .i64 t0, .int .i64 0, .int .i64 0, .int .i64 0, .int .i64 65536, .int .i64 t1, .int .i64 0, .int .i64 0, .int .i64 0, .int .i64 65536, .int .i64 t2, .int .i64 t3, .int .i64 0, .int .i64 0, .int .i64 65536, .slice pa0 l.length pc0, .slice svA svN svC, .slice pvA pvN pvC, .slice da dn dc]] u fun e w' => ∃ m : DrM, e = .returned (.agg m.l.toArray) ∧ m.is (drawF x xs l.length svN pvN) ∧ OwnI w' u.heap.size m.ix.v (drawF x xs l.length svN pvN).idx ∧ Ext u w' := fun u da dn dc hu => draw11_any u x xs hdok (hX.ext hu) (by
                  obtain ⟨⟨_, _, e, -⟩, -, -⟩ := hX
                  have : x.ix.n = xs.length := by cases x with | mk a b c d ix e f g h i k => cases ix; cases e; rfl
                  omega) _ _ _ _ _ _ _ _ _ _ _ _ _ _ _ _ _ _ _ _ _ _ _ _ _ _ _ _ _ _ ⟨by omega, by omega⟩ hsvn hpvn
                clear hx hLx
                go_upto_region 21 with (first
                  | refine wpList_load_mid rfl 79 (.tmp 97) rfl g (off + j * 26) rfl x.l _ R3 Try.underlying79 rfl (by kernel_rfl) ?_
                  | ((with_reducible refine wpList_store_blk (op := ⟨none, .store 79 (.tmp 10) (.tmp 98), _, _, _, _⟩) ?_ 79 (.tmp 10) (.tmp 98) ?_ wt.heap.size ?_ (cs := x.l.toArray) ?_ (z := #[.int .u8 0, .int .u8 0, .int .u8 0, .int .u8 0, .int .u8 0, .int .u8 0, .int .u8 0, .int .u8 0, .int .u8 0, .int .u8 0, .bool false, .bool false, .int .u8 0, .int .u8 0, .int .u8 0, .int .u8 0, .int .u8 0, .int .u8 0, .int .u8 0, .slice none 0 0, .int .u8 0, .int .u8 0, .int .u8 0, .int .u8 0, .int .u16 0, .bool false]) (T := 79) ?_ ?_ ?_ ?_ ?_); rfl; rfl; rfl; rfl; exact Bz; (rw [List.size_toArray, hzl]; kernel_rfl); exact hone; (simp [hzl]))
                  | fail)
                have oD5 := oD.ext xx
                have pD5 := pD.ext xx
                have G5 := G3.ext xx
                have c5 := c3.trans (xx.calm [bx])
                have hb5' := G5.lt
                have hDlt := oD.lt
                have hpDlt := pD.lt
                have hszx := c3.size
                obtain ⟨dvA, dvN, dvC⟩ := dvS
                have hdn : dvN = dms.length := by
                  obtain ⟨_, _, e, -, -⟩ := oD.slice
                  cases e
                  rfl
                dsimp only [SlV.v] at oD5 G5 apD hDlt
                subst hdn
                have hdl : dms.length ≤ 5 := by rw [pD.1]; simp; omega
                have hzt : wt.heap.size ≤ ((wt.alloc (.cells #[.int .u8 0, .int .u8 0, .int .u8 0, .int .u8 0, .int .u8 0, .int .u8 0, .int .u8 0, .int .u8 0, .int .u8 0, .int .u8 0, .bool false, .bool false, .int .u8 0, .int .u8 0, .int .u8 0, .int .u8 0, .int .u8 0, .int .u8 0, .int .u8 0, .slice none 0 0, .int .u8 0, .int .u8 0, .int .u8 0, .int .u8 0, .int .u16 0, .bool false] 79)).setRow wt.heap.size x.l.toArray).heap.size := xx.size
                clear oD pD G3 c3 e3 Bz hone hzl R3 xx hX
                generalize (wt.alloc (.cells #[.int .u8 0, .int .u8 0, .int .u8 0, .int .u8 0, .int .u8 0, .int .u8 0, .int .u8 0, .int .u8 0, .int .u8 0, .int .u8 0, .bool false, .bool false, .int .u8 0, .int .u8 0, .int .u8 0, .int .u8 0, .int .u8 0, .int .u8 0, .int .u8 0, .slice none 0 0, .int .u8 0, .int .u8 0, .int .u8 0, .int .u8 0, .int .u16 0, .bool false] 79)).setRow wt.heap.size x.l.toArray = w5 at *
                generalize hb10 : wt.heap.size = b10 at *
                generalize drawF x xs l.length svN pvN = dd at *
                obtain ⟨s0, dk, dv, df, ⟨ixa, ixn, ixc⟩, dr, dg, db, da9, de, dp⟩ := x
                have cB10 := Bs.cell
                have cG5 := G5.cell
                have hD2 := fun u hu => hD1 u dvA dms.length dvC hu
                have hlow : wx.heap.size ≤ w5.heap.size := by omega
                have hlow2 : bx < wx.heap.size := hbw
                refine scr_r21 _ _ _ _ _ _ _ _ _ _ _ _ _ _ _ _ _ _ _ _ _ _ _ _ _ _ _ _ _ _ _ _ _ _ _ _ _ _ _ _ _ _ _ _ _ _ _ _ _ _ _ _ _ _ _ _ _ _ _ _ _ _ _ _ _ _ _ _ _ _ _ _ _ _ _ _ _ _ _ _ _ _ _ _ _ _ _ _ _ _ _ _ _ _ _ _ _ _ _ _ _ _ _ _ _ _ _ _ _ bx b10 dms.length dvC wx.heap.size dvA _ _ _ _ _ _ _ _ _ _ _ _ _ _ _ _ _ _ _ _ _  ⟨s0, dk, dv, df, ⟨ixa, ixn, ixc⟩, dr, dg, db, da9, de, dp⟩ dd dms w5 Bs G5 oD5 apD (fun m hm k hk => ⟨(hpDlt m hm k hk).1, by have := (hpDlt m hm k hk).2; omega⟩) hlow2 hlow rfl (by omega) (fun k hk => by have := (hDlt k hk).2; omega) (fun u hu => hD2 u (e4.trans hu)) (fun _ _ _ _ _ _ _ _ m6 ao8 c8 w9 o9 hm6 oX9 ap9 G9 K9 => ?_)
                have hOx : ∀ b ∈ (bx :: (Value.slice dvA dms.length dvC).ownBlock.toList), b = bx ∨ wx.heap.size ≤ b := fun b hb => by
                  rcases List.mem_cons.1 hb with h | h
                  · exact .inl h
                  · exact .inr (hDlt b (Option.mem_toList.1 h)).1
                have c9 : Calm [bx] wx w9 := calm_low c5 K9 hOx
                have pD9 := (pD5.calm K9 (fun m hm k hk hin => by
                  rcases List.mem_cons.1 hin with h | h
                  · have := (hpDlt m hm k hk).1
                    omega
                  · exact apD m hm k hk (Option.mem_toList.1 h))).snoc hm6 (oX9.mono hlow)
                rw [← HS.out] at pD9
                clear oD5 pD5 K9 G5 c5 hOx hD2 apD hDlt hpDlt oX9 e4 Bs
                go_wp2
                go_roundg (gk - 1)
                case measure => omega
                case rel => exact ⟨j + 1, ⟨ao8, dms.length + 1, c8⟩, dms ++ [m6], by omega, by simp, o9, pD9, ap9, G9, c9⟩
              · have h5I : ¬ (j : Int) < 5 := by omega
                have HS := Lib.hid (drawsF_stay (ds := ds) (LX := LX) (nv := l.length) (ns := svN) (np := pvN) h5)
                clear hx hLx
                have oD5 := oD.ext xx
                have pD5 := pD.ext xx
                have G5 := G3.ext xx
                have c5 := c3.trans (xx.calm [bx])
                go_wp2_with (first
                  | refine wpList_load_mid rfl 79 (.tmp 97) rfl g (off + j * 26) rfl x.l _ R3 Try.underlying79 rfl (by kernel_rfl) ?_
                  | ((with_reducible refine wpList_store_blk (op := ⟨none, .store 79 (.tmp 10) (.tmp 98), _, _, _, _⟩) ?_ 79 (.tmp 10) (.tmp 98) ?_ wt.heap.size ?_ (cs := x.l.toArray) ?_ (z := #[.int .u8 0, .int .u8 0, .int .u8 0, .int .u8 0, .int .u8 0, .int .u8 0, .int .u8 0, .int .u8 0, .int .u8 0, .int .u8 0, .bool false, .bool false, .int .u8 0, .int .u8 0, .int .u8 0, .int .u8 0, .int .u8 0, .int .u8 0, .int .u8 0, .slice none 0 0, .int .u8 0, .int .u8 0, .int .u8 0, .int .u8 0, .int .u16 0, .bool false]) (T := 79) ?_ ?_ ?_ ?_ ?_); rfl; rfl; rfl; rfl; exact Bz; (rw [List.size_toArray, hzl]; kernel_rfl); exact hone; (simp [hzl]))
                  | fail)
                go_roundg (gk - 1)
                case measure => omega
                case rel => exact ⟨j + 1, dvS, dms, by omega, by simp, oD5, by rw [HS.out]; exact pD5, apD, G5, c5⟩
            · obtain rfl : j = ds.length := by omega
              have hDall : ((drawsF ds LX l.length svN pvN).take 5).take ds.length = (drawsF ds LX l.length svN pvN).take 5 := List.take_of_length_le (by simp [drawsF]; omega)
              rw [hDall] at pD
              obtain ⟨dvA, dvN, dvC⟩ := dvS
              dsimp only at G3
              have K1' := L1.calm c3 (by simp; omega)
              have PS3 := PS.calm c3 (fun b hb => by rw [List.mem_singleton.1 hb]; exact .inl (by omega))
              have PP3 := PP.calm c3 (fun b hb => by rw [List.mem_singleton.1 hb]; exact .inl (by omega))
              have o3 := o2.calm c3 (fun k hk hin => by have := (o2.lt k hk).1; simp at hin; omega)
              have HR := K1'.setRow #[.int .i64 (1 + wd % 24), .int .i64 (1 + ht % 24), .int .i64 65536, .int .i64 t0, .int .i64 0, .int .i64 0, .int .i64 0, .int .i64 65536, .int .i64 t1, .int .i64 0, .int .i64 0, .int .i64 0, .int .i64 65536, .int .i64 t2, .int .i64 t3, .int .i64 0, .int .i64 0, .int .i64 65536, .slice pa0 l.length pc0, .slice svA svN svC, .slice pvA pvN pvC, .slice dvA dvN dvC]
              have kR := calm_setRow wt (b0 + 1) #[.int .i64 (1 + wd % 24), .int .i64 (1 + ht % 24), .int .i64 65536, .int .i64 t0, .int .i64 0, .int .i64 0, .int .i64 0, .int .i64 65536, .int .i64 t1, .int .i64 0, .int .i64 0, .int .i64 0, .int .i64 65536, .int .i64 t2, .int .i64 t3, .int .i64 0, .int .i64 0, .int .i64 65536, .slice pa0 l.length pc0, .slice svA svN svC, .slice pvA pvN pvC, .slice dvA dvN dvC]
              have e8 := e3.setRow (g := b0 + 1) (by omega) #[.int .i64 (1 + wd % 24), .int .i64 (1 + ht % 24), .int .i64 65536, .int .i64 t0, .int .i64 0, .int .i64 0, .int .i64 0, .int .i64 65536, .int .i64 t1, .int .i64 0, .int .i64 0, .int .i64 0, .int .i64 65536, .int .i64 t2, .int .i64 t3, .int .i64 0, .int .i64 0, .int .i64 65536, .slice pa0 l.length pc0, .slice svA svN svC, .slice pvA pvN pvC, .slice dvA dvN dvC]
              have hc3 := c3.size
              have hO8 : ∀ lo hi, b0 + 1 < lo → ∀ b ∈ [b0 + 1], b < lo ∨ hi ≤ b := fun lo hi h b hb => by rw [List.mem_singleton.1 hb]; exact .inl h
              have A8 : ScrAt (wt.setRow (b0 + 1) #[.int .i64 (1 + wd % 24), .int .i64 (1 + ht % 24), .int .i64 65536, .int .i64 t0, .int .i64 0, .int .i64 0, .int .i64 0, .int .i64 65536, .int .i64 t1, .int .i64 0, .int .i64 0, .int .i64 0, .int .i64 65536, .int .i64 t2, .int .i64 t3, .int .i64 0, .int .i64 0, .int .i64 65536, .slice pa0 l.length pc0, .slice svA svN svC, .slice pvA pvN pvC, .slice dvA dvN dvC]) w.heap.size ⟨(1 + wd % 24), (1 + ht % 24), [65536, t0, 0, 0, 0, 65536, t1, 0, 0, 0, 65536, t2, t3, 0, 0, 65536], ⟨pa0, l.length, pc0⟩, ⟨svA, svN, svC⟩, ⟨pvA, pvN, pvC⟩, ⟨dvA, dvN, dvC⟩⟩ (scriptF ⟨wd, ht, t0, t1, t2, t3, ⟨va, vs.length, vc⟩, ⟨sa, sh.length, sc⟩, ⟨pa', pa.length, pc⟩, ⟨da, ds.length, dc⟩⟩ vs Ls Lp ds LX) := by
                unfold scriptF
                rw [hL0, ← hp3.out]
                refine ⟨rfl, rfl, rfl, wy.heap.size, lo1, hi1, lo2, hi2, wx.heap.size, ⟨(o3.mono (by omega)).calm kR (fun k hk hin => by have := (o3.lt k hk).1; simp at hin; omega), hvlt⟩, PS3.calm kR (hO8 _ _ (by omega)), PP3.calm kR (hO8 _ _ (by omega)), ?_, by omega, by omega, by omega, hdis, by omega, by omega, by omega, by rw [size_setRow]; omega⟩
                have hDB : DB wt wx.heap.size (.slice dvA dvN dvC) _ := ⟨dms, oD, pD, apD⟩
                have hDB2 := hDB.calm kR (fun b hb => by rw [List.mem_singleton.1 hb]; exact .inl (by omega))
                have hsN : svN = _ := PS.len
                have hpN : pvN = _ := PP.len
                rw [show drawsF ds LX l.length svN pvN = drawsF ds LX l.length (progsF false Ls).length (progsF true Lp).length by rw [← hsN, ← hpN]] at hDB2
                exact hDB2
              clear oD pD apD o2 o3 e3 c3 PS PP PS3 PP3 kR
              go_wp2_with (first
                | ((with_reducible refine wpList_load_blk (op := ⟨some 110, _, _, _, _, _⟩) ?_ 42 (.tmp 3) ?_ bx ?_ (z := #[.int .i64 (1 + wd % 24), .int .i64 (1 + ht % 24), .int .i64 65536, .int .i64 t0, .int .i64 0, .int .i64 0, .int .i64 0, .int .i64 65536, .int .i64 t1, .int .i64 0, .int .i64 0, .int .i64 0, .int .i64 65536, .int .i64 t2, .int .i64 t3, .int .i64 0, .int .i64 0, .int .i64 65536, .slice pa0 l.length pc0, .slice svA svN svC, .slice pvA pvN pvC, .slice dvA dvN dvC]) (T := 42) G3 Try.underlying42 ?_ ?_ ?_); rfl; rfl; rfl; rfl; kernel_rfl)
                | ((with_reducible refine wpList_store_blk (op := ⟨none, .store 42 (.tmp 2) (.tmp 110), _, _, _, _⟩) ?_ 42 (.tmp 2) (.tmp 110) ?_ (b0 + 1) ?_ (cs := #[.int .i64 (1 + wd % 24), .int .i64 (1 + ht % 24), .int .i64 65536, .int .i64 t0, .int .i64 0, .int .i64 0, .int .i64 0, .int .i64 65536, .int .i64 t1, .int .i64 0, .int .i64 0, .int .i64 0, .int .i64 65536, .int .i64 t2, .int .i64 t3, .int .i64 0, .int .i64 0, .int .i64 65536, .slice pa0 l.length pc0, .slice svA svN svC, .slice pvA pvN pvC, .slice dvA dvN dvC]) ?_ (z := #[.int .i64 0, .int .i64 0, .int .i64 0, .int .i64 0, .int .i64 0, .int .i64 0, .int .i64 0, .int .i64 0, .int .i64 0, .int .i64 0, .int .i64 0, .int .i64 0, .int .i64 0, .int .i64 0, .int .i64 0, .int .i64 0, .int .i64 0, .int .i64 0, .slice none 0 0, .slice none 0 0, .slice none 0 0, .slice none 0 0]) (T := 42) ?_ ?_ ?_ ?_ ?_); rfl; rfl; rfl; rfl; exact K1'; kernel_rfl; kernel_rfl; kernel_rfl)
                | fail)
              refine bodyPost_ret (v := .agg #[.int .i64 (1 + wd % 24), .int .i64 (1 + ht % 24), .int .i64 65536, .int .i64 t0, .int .i64 0, .int .i64 0, .int .i64 0, .int .i64 65536, .int .i64 t1, .int .i64 0, .int .i64 0, .int .i64 0, .int .i64 65536, .int .i64 t2, .int .i64 t3, .int .i64 0, .int .i64 0, .int .i64 65536, .slice pa0 l.length pc0, .slice svA svN svC, .slice pvA pvN pvC, .slice dvA dvN dvC]) (results_blk (b := b0 + 1) (t := 2) (ty := 42) rfl rfl HR Try.underlying42 rfl (by kernel_rfl)) rfl ?_
              exact ⟨⟨(1 + wd % 24), (1 + ht % 24), [65536, t0, 0, 0, 0, 65536, t1, 0, 0, 0, 65536, t2, t3, 0, 0, 65536], ⟨pa0, l.length, pc0⟩, ⟨svA, svN, svC⟩, ⟨pvA, pvN, pvC⟩, ⟨dvA, dvN, dvC⟩⟩, rfl, A8, e8⟩
/-- the law's script, whatever small one came in -/
theorem script11_any (w : World) (s : SScr) (vs : List VSm) (sh pa : List SlV) (ds : List DSm) (Q : SScrQ w s vs sh pa ds) (hl : lightB vs sh pa ds = true) (Ls Lp : List (List Sm)) (hCs : Conts w sh Ls) (hCp : Conts w pa Lp) (LX : List (List Int)) (hCd : DConts w ds LX) :
    Calls Try.prog 8 #[.agg s.v] w fun e w' => ∃ m : ScrM, e = .returned (.agg m.l.toArray) ∧ ScrAt w' w.heap.size m (scriptF s vs Ls Lp ds LX) ∧ Ext w w' := by
  obtain ⟨wd, ht, t0, t1, t2, t3, ⟨va, vn, vc⟩, ⟨sa, sn, sc⟩, ⟨pa', pn, pc⟩, ⟨da, dn, dc⟩⟩ := s
  obtain ⟨_, _, e1, -, -⟩ := Q.V.slice
  obtain ⟨_, _, e2, -, -⟩ := Q.Sh.slice
  obtain ⟨_, _, e3, -, -⟩ := Q.P.slice
  obtain ⟨_, _, e4, -, -⟩ := Q.D.slice
  cases e1
  cases e2
  cases e3
  cases e4
  exact script11_a w wd ht t0 t1 t2 t3 va sa pa' da vc sc pc dc vs sh pa ds Q hl Ls Lp hCs hCp LX hCd
end Go.Proofs.Ytbbfmlehddfneaa

