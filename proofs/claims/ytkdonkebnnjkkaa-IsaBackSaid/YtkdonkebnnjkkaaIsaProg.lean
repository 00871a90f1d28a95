/-
  DERIVED. THE WALK of the law text 'Program' of layer 7 (made by mkprog.py).
-/
import Derived.Test.YtkdonkebnnjkkaaIsaProg19
import Derived.Deep.DeepCutAuto
namespace Go.Proofs.Ytkdonkebnnjkkaa
open Go.RowKit
set_option linter.unusedVariables false
set_option maxRecDepth 100000 in
set_option maxHeartbeats 4000000 in
theorem program_any (d : Bool) (w : World) (v : Value) (sl : List Sm) (h : SArr w v sl) (hl : sl.length ≤ 40) :
    Calls Try.prog 8 #[v, .bool d] w fun e w' => ∃ v' xs, e = .returned v' ∧ OwnP w' w.heap.size v' xs ∧ (∀ x ∈ xs, x.ok) ∧ xs.length = min sl.length 20 ∧ chk d xs = 0 ∧ Ext w w' := by
  have hA := h
  obtain ⟨⟨ao, c, rfl, -⟩, -, hsb⟩ := h
  have hlI : (sl.length : Int) ≤ 40 := by omega
  have hmild := Lib.hid (mkL_mild (sl := sl.take 20) fun s hs => hsb s (List.mem_of_mem_take hs))
  have hml : (mkL (sl.take 20)).length = min sl.length 20 := by rw [mkL_length]; simp; omega
  have HML := Lib.hid hml
  clear hsb hml
  go_enter Try.func8, Try.ntmps8
  go_wp2_with fail
  go_loopg [14, 5] sl.length (fun k iv pv wr => ∃ (j : Nat), j + k = sl.length ∧ iv = .int .i64 j ∧ OwnP wr w.heap.size pv (mkL ((sl.take 20).take j)) ∧ Ext w wr)
  case atStart => exact ⟨0, by omega, rfl, OwnP.nil _ _, Ext.refl _⟩
  case round =>
    obtain ⟨j, hjk, rfl, o1, e1⟩ := hrel
    by_cases hj : j < sl.length
    · have hjI : (j : Int) < (sl.length : Int) := by omega
      obtain ⟨b, off, s, rfl, hs, hsb, c0, c1, c2, c3, c4, c5⟩ := (hA.ext e1).nth j hj
      obtain ⟨b0, b1, b2, b3, b4⟩ := hsb
      have x2 := (Ext.refl wr).alloc #[.int .u8 s.op, .int .u8 s.dst, .int .u8 s.a, .int .u8 s.b, .int .i16 s.imm, .bool s.raw] 52
      have hzz := e1.size
      by_cases h20 : j < 20
      · have h20I : (j : Int) < 20 := by omega
        have hsn := mkL_snoc (sl := sl.take 20) (j := j) (s := s) (by rw [List.getElem?_take, if_pos h20]; exact hs)
        have HSN := Lib.hid hsn
        have hrl : (mkL ((sl.take 20).take j)).length = j := by rw [mkL_length]; simp; omega
        have HRL := Lib.hid hrl
        have hnb : ∀ k, u5.ownBlock = some k → k < wr.heap.size := fun k hk => (o1.lt k hk).2
        have ha3 := and3_bd s.imm
        have hfa : bits .and .i16 s.imm 3 = and3 s.imm := rfl
        clear hsn hs hrl
        obtain ⟨p, hp⟩ : ∃ p, s.op % 15 = p := ⟨_, rfl⟩
        have hpb : 0 ≤ p ∧ p ≤ 14 := by omega
        by_cases hp12 : p = 12
        · subst hp12
          have hbs := (Blk.new wr #[.int .u8 s.op, .int .u8 s.dst, .int .u8 s.a, .int .u8 s.b, .int .i16 s.imm, .bool s.raw] 52).alloc (.cells #[.int .u8 12, .int .u8 (s.dst % 12), .int .u8 (s.a % 9), .int .u8 (s.b % 12), .int .i16 s.imm] 49)
          have x3 := x2.alloc #[.int .u8 12, .int .u8 (s.dst % 12), .int .u8 (s.a % 9), .int .u8 (s.b % 12), .int .i16 s.imm] 49
          have hcn := lit_in (wr.alloc (.cells #[.int .u8 s.op, .int .u8 s.dst, .int .u8 s.a, .int .u8 s.b, .int .i16 s.imm, .bool s.raw] 52)) ⟨12, s.dst % 12, s.a % 9, s.b % 12, s.imm⟩ 49
          have z3 : (wr.alloc (.cells #[.int .u8 s.op, .int .u8 s.dst, .int .u8 s.a, .int .u8 s.b, .int .i16 s.imm, .bool s.raw] 52)).heap.size = wr.heap.size + 1 := by simp
          rw [z3] at hcn
          dsimp only at hcn
          have o3 := o1.ext x3
          have e3 := e1.trans x3
          clear z3 x2 x3 o1 e1
          go_wp2_with (at_builtin; refine wpList_append_in rfl _ _ rfl w.heap.size _ _ rfl o3 (wr.heap.size + 1) 1 ⟨12, s.dst % 12, s.a % 9, s.b % 12, s.imm⟩ rfl hcn (by rw [HRL.out]; omega) (by simp; omega) ?_
                       intro v4 w4 o4 K4 hk4
                       have e4 := Ext.calm_trans e3 K4 (fun g hg => (o3.lt g (Option.mem_toList.1 hg)).1)
                       have bs4 := hbs.calm K4 (fun hin => by have := hnb _ (Option.mem_toList.1 hin); omega)
                       have cs4 := bs4.cell
                       obtain ⟨ao4, c4', rfl, -, -⟩ := o4.slice
                       have el4 : (mkL ((sl.take 20).take j) ++ [(⟨12, s.dst % 12, s.a % 9, s.b % 12, s.imm⟩ : In)]).length = j + 1 := by rw [List.length_append, HRL.out]; rfl
                       rw [el4] at o4
                       obtain ⟨g4, y4, rfl, -, hy4, d0, d1, d2, d3, d4⟩ := o4.nth j (by rw [el4]; omega)
                       have hth := o4.thaw el4.symm
                       obtain rfl : y4 = ⟨12, s.dst % 12, s.a % 9, s.b % 12, s.imm⟩ := by
                         rw [List.getElem?_append_right (by rw [HRL.out]; omega), HRL.out, Nat.sub_self] at hy4
                         exact (Option.some.inj hy4).symm
                       dsimp only at d0 d1 d2 d3 d4
                       have HEL := Lib.hid el4
                       have HY4 := Lib.hid hy4
                       rw [el4]
                       clear el4 hy4 o3 e3 hcn K4 hk4 hbs bs4)
          have o5 := o4.put2 HEL.out.symm j ⟨12, s.dst % 12, s.a % 9, s.b % 12, s.imm⟩ HY4.out (1 + s.b % 4) (1 + and3 s.imm)
          dsimp only at o5
          rw [show ∀ z, (mkL ((sl.take 20).take j) ++ [(⟨12, s.dst % 12, s.a % 9, s.b % 12, s.imm⟩ : In)]).set j z = mkL ((sl.take 20).take j) ++ [z] from fun z => by have := set_last (mkL ((sl.take 20).take j)) ⟨12, s.dst % 12, s.a % 9, s.b % 12, s.imm⟩ z; rw [HRL.out] at this; exact this] at o5
          have e5 := Ext.calm_trans e4 ((calm_setP w4 g4 (j * 5 + 3) (.int .u8 (1 + s.b % 4))).trans (calm_setP _ g4 (j * 5 + 4) (.int .i16 (1 + and3 s.imm)))) (fun g hg => by simp at hg; rw [hg]; exact (o4.lt g4 rfl).1)
          go_region
          go_wp2
          go_roundg (gk - 1)
          case measure => omega
          case rel => exact ⟨j + 1, by omega, rfl, by rw [HSN.out, show mkI s = ⟨12, s.dst % 12, s.a % 9, 1 + s.b % 4, 1 + and3 s.imm⟩ by unfold mkI; rw [if_pos (by omega)]; unfold loopI; rw [hp]]; exact o5.qt ⟨1, rfl⟩, e5.drew⟩
        · by_cases hp11 : p = 11
          · subst hp11
            have hbs := (Blk.new wr #[.int .u8 s.op, .int .u8 s.dst, .int .u8 s.a, .int .u8 s.b, .int .i16 s.imm, .bool s.raw] 52).alloc (.cells #[.int .u8 11, .int .u8 (s.dst % 12), .int .u8 (s.a % 9), .int .u8 (s.b % 12), .int .i16 s.imm] 49)
            have x3 := x2.alloc #[.int .u8 11, .int .u8 (s.dst % 12), .int .u8 (s.a % 9), .int .u8 (s.b % 12), .int .i16 s.imm] 49
            have hcn := lit_in (wr.alloc (.cells #[.int .u8 s.op, .int .u8 s.dst, .int .u8 s.a, .int .u8 s.b, .int .i16 s.imm, .bool s.raw] 52)) ⟨11, s.dst % 12, s.a % 9, s.b % 12, s.imm⟩ 49
            have z3 : (wr.alloc (.cells #[.int .u8 s.op, .int .u8 s.dst, .int .u8 s.a, .int .u8 s.b, .int .i16 s.imm, .bool s.raw] 52)).heap.size = wr.heap.size + 1 := by simp
            rw [z3] at hcn
            dsimp only at hcn
            have o3 := o1.ext x3
            have e3 := e1.trans x3
            clear z3 x2 x3 o1 e1
            go_wp2_with (at_builtin; refine wpList_append_in rfl _ _ rfl w.heap.size _ _ rfl o3 (wr.heap.size + 1) 1 ⟨11, s.dst % 12, s.a % 9, s.b % 12, s.imm⟩ rfl hcn (by rw [HRL.out]; omega) (by simp; omega) ?_
                         intro v4 w4 o4 K4 hk4
                         have e4 := Ext.calm_trans e3 K4 (fun g hg => (o3.lt g (Option.mem_toList.1 hg)).1)
                         have bs4 := hbs.calm K4 (fun hin => by have := hnb _ (Option.mem_toList.1 hin); omega)
                         have cs4 := bs4.cell
                         obtain ⟨ao4, c4', rfl, -, -⟩ := o4.slice
                         have el4 : (mkL ((sl.take 20).take j) ++ [(⟨11, s.dst % 12, s.a % 9, s.b % 12, s.imm⟩ : In)]).length = j + 1 := by rw [List.length_append, HRL.out]; rfl
                         rw [el4] at o4
                         obtain ⟨g4, y4, rfl, -, hy4, d0, d1, d2, d3, d4⟩ := o4.nth j (by rw [el4]; omega)
                         have hth := o4.thaw el4.symm
                         obtain rfl : y4 = ⟨11, s.dst % 12, s.a % 9, s.b % 12, s.imm⟩ := by
                           rw [List.getElem?_append_right (by rw [HRL.out]; omega), HRL.out, Nat.sub_self] at hy4
                           exact (Option.some.inj hy4).symm
                         dsimp only at d0 d1 d2 d3 d4
                         have HEL := Lib.hid el4
                         have HY4 := Lib.hid hy4
                         rw [el4]
                         clear el4 hy4 o3 e3 hcn K4 hk4 hbs bs4)
            have o5 := o4.put2 HEL.out.symm j ⟨11, s.dst % 12, s.a % 9, s.b % 12, s.imm⟩ HY4.out (1 + s.b % 4) (1 + and3 s.imm)
            dsimp only at o5
            rw [show ∀ z, (mkL ((sl.take 20).take j) ++ [(⟨11, s.dst % 12, s.a % 9, s.b % 12, s.imm⟩ : In)]).set j z = mkL ((sl.take 20).take j) ++ [z] from fun z => by have := set_last (mkL ((sl.take 20).take j)) ⟨11, s.dst % 12, s.a % 9, s.b % 12, s.imm⟩ z; rw [HRL.out] at this; exact this] at o5
            have e5 := Ext.calm_trans e4 ((calm_setP w4 g4 (j * 5 + 3) (.int .u8 (1 + s.b % 4))).trans (calm_setP _ g4 (j * 5 + 4) (.int .i16 (1 + and3 s.imm)))) (fun g hg => by simp at hg; rw [hg]; exact (o4.lt g4 rfl).1)
            go_region
            go_wp2
            go_roundg (gk - 1)
            case measure => omega
            case rel => exact ⟨j + 1, by omega, rfl, by rw [HSN.out, show mkI s = ⟨11, s.dst % 12, s.a % 9, 1 + s.b % 4, 1 + and3 s.imm⟩ by unfold mkI; rw [if_pos (by omega)]; unfold loopI; rw [hp]]; exact o5.qt ⟨1, rfl⟩, e5.drew⟩
          · have hd12 : (p == 12) = false := by simpa using hp12
            have hd11 : (p == 11) = false := by simpa using hp11
            have hbs := (Blk.new wr #[.int .u8 s.op, .int .u8 s.dst, .int .u8 s.a, .int .u8 s.b, .int .i16 s.imm, .bool s.raw] 52).alloc (.cells #[.int .u8 p, .int .u8 (s.dst % 12), .int .u8 (s.a % 9), .int .u8 (s.b % 12), .int .i16 s.imm] 49)
            have x3 := x2.alloc #[.int .u8 p, .int .u8 (s.dst % 12), .int .u8 (s.a % 9), .int .u8 (s.b % 12), .int .i16 s.imm] 49
            have hcn := lit_in (wr.alloc (.cells #[.int .u8 s.op, .int .u8 s.dst, .int .u8 s.a, .int .u8 s.b, .int .i16 s.imm, .bool s.raw] 52)) ⟨p, s.dst % 12, s.a % 9, s.b % 12, s.imm⟩ 49
            have z3 : (wr.alloc (.cells #[.int .u8 s.op, .int .u8 s.dst, .int .u8 s.a, .int .u8 s.b, .int .i16 s.imm, .bool s.raw] 52)).heap.size = wr.heap.size + 1 := by simp
            rw [z3] at hcn
            dsimp only at hcn
            have o3 := o1.ext x3
            have e3 := e1.trans x3
            clear z3 x2 x3 o1 e1
            go_wp2_with (at_builtin; refine wpList_append_in rfl _ _ rfl w.heap.size _ _ rfl o3 (wr.heap.size + 1) 1 ⟨p, s.dst % 12, s.a % 9, s.b % 12, s.imm⟩ rfl hcn (by rw [HRL.out]; omega) (by simp; omega) ?_
                         intro v4 w4 o4 K4 hk4
                         have e4 := Ext.calm_trans e3 K4 (fun g hg => (o3.lt g (Option.mem_toList.1 hg)).1)
                         have bs4 := hbs.calm K4 (fun hin => by have := hnb _ (Option.mem_toList.1 hin); omega)
                         have cs4 := bs4.cell
                         obtain ⟨ao4, c4', rfl, -, -⟩ := o4.slice
                         have el4 : (mkL ((sl.take 20).take j) ++ [(⟨p, s.dst % 12, s.a % 9, s.b % 12, s.imm⟩ : In)]).length = j + 1 := by rw [List.length_append, HRL.out]; rfl
                         rw [el4] at o4
                         obtain ⟨g4, y4, rfl, -, hy4, d0, d1, d2, d3, d4⟩ := o4.nth j (by rw [el4]; omega)
                         have hth := o4.thaw el4.symm
                         obtain rfl : y4 = ⟨p, s.dst % 12, s.a % 9, s.b % 12, s.imm⟩ := by
                           rw [List.getElem?_append_right (by rw [HRL.out]; omega), HRL.out, Nat.sub_self] at hy4
                           exact (Option.some.inj hy4).symm
                         dsimp only at d0 d1 d2 d3 d4
                         have HEL := Lib.hid el4
                         have HY4 := Lib.hid hy4
                         rw [el4]
                         clear el4 hy4 o3 e3 hcn K4 hk4 hbs bs4)
            go_roundg (gk - 1)
            case measure => omega
            case rel => exact ⟨j + 1, by omega, rfl, by rw [HSN.out, show mkI s = ⟨p, s.dst % 12, s.a % 9, s.b % 12, s.imm⟩ by unfold mkI; rw [if_neg (by omega)]; unfold baseI; rw [hp]]; exact o4, e4⟩
      · have h20I : ¬ (j : Int) < 20 := by omega
        have hsm : mkL ((sl.take 20).take (j + 1)) = mkL ((sl.take 20).take j) := by
          have h20l : (sl.take 20).length ≤ 20 := by simp; omega
          rw [List.take_of_length_le (Nat.le_trans h20l (by omega)), List.take_of_length_le (Nat.le_trans h20l (by omega))]
        have HSM := Lib.hid hsm
        clear hsm hs
        go_wp2
        go_roundg (gk - 1)
        case measure => omega
        case rel => exact ⟨j + 1, by omega, rfl, by rw [HSM.out]; exact o1.ext x2, e1.trans x2⟩
    · obtain rfl : j = sl.length := by omega
      rw [show (sl.take 20).take sl.length = sl.take 20 from List.take_of_length_le (by simp; omega)] at o1
      have M0 := Mend.start (d := d) hmild.out
      obtain ⟨ao5, c5, rfl, -, -⟩ := o1.slice
      have hn := HML.out
      generalize mkL (sl.take 20) = xs0 at *
      obtain ⟨n, hnn⟩ : ∃ n, xs0.length = n := ⟨_, rfl⟩
      rw [hnn] at o1 M0 hn ⊢
      have hn20 : n ≤ 20 := by omega
      have hnI : (n : Int) ≤ 20 := by omega
      have HN := Lib.hid hn
      clear HML hmild hn hnn
      go_wp2_with fail
      go_loopg [69] 60 (fun k iv wr => ∃ (r : Nat) (xs : List In), r + k = 60 ∧ iv = .int .i64 r ∧ OwnP wr w.heap.size (.slice ao5 n c5) xs ∧ Mend d n r xs ∧ Ext w wr)
      case atStart => exact ⟨0, xs0, by omega, rfl, o1, M0, e1⟩
      case round =>
        clear o1 M0 e1
        obtain ⟨r, xs, hrk, rfl, o2, M2, e2⟩ := hrel
        generalize wr = wo at *
        have hxl := Lib.hid M2.1
        have hok := Lib.hid (fun x hx => (M2.2.1 x hx).ok : ∀ x ∈ xs, x.ok)
        by_cases hr : r < 60
        · have hrI : (r : Int) < 60 := by omega
          go_wp2_with fail
          go_loopg [73, 9] n (fun k iv bv wq => ∃ (j : Nat) (bad : Int), j + k = n ∧ iv = .int .i64 j ∧ bv = .int .i64 bad ∧ BadR d xs j bad ∧ Ext wo wq)
          case atStart => exact ⟨0, -1, by omega, rfl, rfl, BadR.start _ _, Ext.refl _⟩
          case round =>
            obtain ⟨j, bad, hjn, rfl, rfl, hB, x3⟩ := hrel
            by_cases hj : j < n
            · have hjI : (j : Int) < (n : Int) := by omega
              have HB := Lib.hid hB
              clear hB
              have oq := lit_none wr
              have xq := (Ext.refl wr).alloc #[] 49
              have op := (o2.ext x3).ext xq
              go_upto_region 19 with (at_builtin; refine wpList_append_own rfl _ _ rfl wr.heap.size _ [] rfl oq w.heap.size _ xs rfl op (by rw [hxl.out]; simp; omega) (by simp) ?_
                                      intro v5 w5 o5 K5 hk5
                                      have x5 := Ext.calm_trans xq K5 (fun g hg => (oq.lt g (Option.mem_toList.1 hg)).1)
                                      rw [List.nil_append] at o5
                                      obtain ⟨aoq, cq, rfl, -, -⟩ := o5.slice
                                      rw [hxl.out] at o5 ⊢
                                      obtain ⟨gq, y5, rfl, -, -, d0, d1, d2, d3, d4⟩ := o5.nth j (by rw [hxl.out]; exact hj)
                                      have hth := o5.thaw hxl.out.symm
                                      clear oq xq op K5 hk5)
              have o6 : OwnP _ _ _ (xs.set j movI) := o5.put hxl.out.symm j (by rw [hxl.out]; exact hj) movI
              dsimp only [movI] at o6
              have x6 := Ext.calm_trans x5 (calm5 w5 gq (j * 5) (j * 5 + 1) (j * 5 + 2) (j * 5 + 3) (j * 5 + 4) (.int .u8 1) (.int .u8 0) (.int .u8 0) (.int .u8 0) (.int .i16 0)) (fun g hg => by simp at hg; rw [hg]; exact (o5.lt gq rfl).1)
              clear x5 o5 d0 d1 d2 d3 d4 hth
              generalize (((((w5.setCell ⟨gq, j * 5, none⟩ (.int .u8 1)).setCell ⟨gq, j * 5 + 1, none⟩ (.int .u8 0)).setCell ⟨gq, j * 5 + 2, none⟩ (.int .u8 0)).setCell ⟨gq, j * 5 + 3, none⟩ (.int .u8 0)).setCell ⟨gq, j * 5 + 4, none⟩ (.int .i16 0)) = w6 at *
              have op6 := o2.ext (x3.trans x6)
              obtain ⟨gp, x, rfl, -, hx, -⟩ := op6.nth j (by rw [hxl.out]; exact hj)
              have HX := Lib.hid hx
              clear hx
              refine prog_r19 _ _ _ _ _ _ _ _ _ _ _ _ _ _ _ _ _ _ _ _ _ _ _ _ _ _ _ _ _ _ _ _ _ _ _ _ _ _ _ _ _ _ _ _ _ _ _ _ _ _ _ _ _ _ _ _ _ _ _ _ _ _ _ _ _ _ _ _ _ _ _ _ _ _ _ _ _ _ _ _ _ _ _ _ _ _ _ _ _ _ _ _ _ _ _ _ _ _ _ _ _ _ _ _ _ _ _ _ _ _ _ _ _ _ _ _ _ _ _ _ _ _ _ _ _ _ _ _ _ _ d gp n c5 bad j _ w6 _ _ xs x op6 o6 hok.out (fun y hy => (mild_set M2.2.1 j y hy).ok) hxl.out hn20 hj HX.out ?_
              intro q0 q1 q2 q3 q4 q5 q6 q7 q8 q9 q10 q11 q12 q13 q14 q15 q16 q17 q18 q19 q20 q21 q22 q23 q24 q25 q26 q27 q28 q29 q30 q31 q32 q33 q34 q35 q36 q37 q38 q39 q40 w7 x7
              have x8 := x3.trans (x6.trans x7)
              clear o6 op6 x6 x7 x3
              cases hh : hitB d xs j x bad
              · have HB2 := Lib.hid (HB.out.no HX.out hh)
                clear HB hh
                go_wp2
                go_roundg (gk - 1)
                case measure => omega
                case rel => exact ⟨j + 1, bad, by omega, rfl, rfl, HB2.out, x8⟩
              · have HB2 := Lib.hid (BadR.yes HX.out hh)
                clear HB hh
                go_wp2
                go_roundg (gk - 1)
                case measure => omega
                case rel => exact ⟨j + 1, j, by omega, rfl, rfl, HB2.out, x8⟩
            · obtain rfl : j = n := by omega
              have o3 := o2.ext x3
              have e3 := e2.trans x3
              by_cases hbad : bad = -1
              · subst hbad
                have hB' := hB
                rw [← hxl.out] at hB'
                have hc0 := Lib.hid (hB'.clear M2 hn20)
                clear hB hB'
                go_wp2
                go_ret
                exact ⟨_, xs, rfl, o3, hok.out, by rw [hxl.out, HN.out], hc0.out, e3⟩
              · obtain ⟨i, x, rfl, hi, hx, hc, hs⟩ := hB.one hbad
                have hiI : (i : Int) < (j : Int) := by have := hxl.out; omega
                have hin : i < j := by omega
                have M3 := M2.next hc hx hs
                obtain ⟨gp, y, rfl, -, -, d0, d1, d2, d3, d4⟩ := o3.nth i hi
                have hth := o3.thaw hxl.out.symm
                have o4 := o3.put hxl.out.symm i hi movI
                dsimp only [movI] at o4
                have e4 := Ext.calm_trans e3 (calm5 _ gp (i * 5) (i * 5 + 1) (i * 5 + 2) (i * 5 + 3) (i * 5 + 4) (.int .u8 1) (.int .u8 0) (.int .u8 0) (.int .u8 0) (.int .i16 0)) (fun g hg => by simp at hg; rw [hg]; exact (o3.lt gp rfl).1)
                have hbn : ¬ ((i : Int) < 0) := by omega
                clear hB hs hc hx o3 e3 M2 hbad
                go_wp2
                go_roundg (60 - (r + 1))
                case measure => omega
                case rel => exact ⟨r + 1, xs.set i movI, by omega, rfl, o4, M3, e4⟩
        · obtain rfl : r = 60 := by omega
          have hc0 := Lib.hid (M2.stop (by omega))
          go_wp2
          go_ret
          exact ⟨_, xs, rfl, o2, hok.out, by rw [hxl.out, HN.out], hc0.out, e2⟩
end Go.Proofs.Ytkdonkebnnjkkaa
