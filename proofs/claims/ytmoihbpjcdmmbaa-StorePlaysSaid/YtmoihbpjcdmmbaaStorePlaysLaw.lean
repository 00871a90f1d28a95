/-
  DERIVED. THE WALK of StorePlays.
-/
import Derived.Test.YtmoihbpjcdmmbaaStorePlaysPut
import Derived.Test.YtmoihbpjcdmmbaaStorePlaysTake
import Derived.Test.YtmoihbpjcdmmbaaStorePlaysDrop
import Derived.Deep.DeepCutAuto
import Derived.Deep.CutBlock
namespace Go.Proofs.Ytmoihbpjcdmmbaa
open Go.RowKit Go.Maps
set_option linter.unusedVariables false

theorem BArr.nth {w : World} {ao : Option Addr} {c : Nat} {xs : List (Int × Nat)} (h : BArr w (.slice ao xs.length c) xs) (i : Nat) (hi : i < xs.length) : ∃ b off p, ao = some ⟨b, off, none⟩ ∧ xs[i]? = some p ∧ w.cell? ⟨b, off + i * 2, none⟩ = some (.int .i64 p.1) ∧ w.cell? ⟨b, off + i * 2 + 1, none⟩ = some (.int .u32 p.2) := by
  obtain ⟨⟨ao', c', e, h1⟩, _, _⟩ := h
  cases e
  obtain ⟨b, off, rfl, hc⟩ := h1 (by intro e; subst e; simp at hi)
  exact ⟨b, off, xs[i], rfl, by simp [hi], hc i xs[i] (by simp [hi])⟩
theorem AArr.nth {w : World} {ao : Option Addr} {c : Nat} {xs : List ActD} (h : AArr w (.slice ao xs.length c) xs) (i : Nat) (hi : i < xs.length) : ∃ b off p, ao = some ⟨b, off, none⟩ ∧ xs[i]? = some p ∧ w.cell? ⟨b, off + i * 4, none⟩ = some (.int .u8 p.k) ∧ w.cell? ⟨b, off + i * 4 + 1, none⟩ = some (.int .u8 p.n) ∧ w.cell? ⟨b, off + i * 4 + 2, none⟩ = some (.int .u8 p.s) ∧ w.cell? ⟨b, off + i * 4 + 3, none⟩ = some (.bool p.l) := by
  obtain ⟨⟨ao', c', e, h1⟩, _, _⟩ := h
  cases e
  obtain ⟨b, off, rfl, hc⟩ := h1 (by intro e; subst e; simp at hi)
  exact ⟨b, off, xs[i], rfl, by simp [hi], hc i xs[i] (by simp [hi])⟩

set_option maxRecDepth 100000 in
set_option maxHeartbeats 4000000 in
theorem storePlays_main {w : World} (r : Nat) (hr : r ≤ 255) (v1 : Value) (fu : List Int) (v2 : Value) (fa : List Int) (v3 : Value) (bs : List (Int × Nat)) (v4 : Value) (acs : List ActD) (h1 : Arr w .u8 v1 fu) (h2 : Arr w .u8 v2 fa) (h3 : BArr w v3 bs) (h4 : AArr w v4 acs)
    (l1 : fu.length ≤ 20) (l2 : fa.length ≤ 20) (l3 : bs.length ≤ 20) (l4 : acs.length ≤ 60) :
    Calls Try.prog 3 #[.int .u8 r, v1, v2, v3, v4] w fun e w' => e = .returned (.bool true) ∧ Ext w w' := by
  have hmm := @run_makeMap Try.prog
  obtain ⟨n, hn⟩ : ∃ n : Nat, n = r % 6 := ⟨_, rfl⟩
  have hn6 : n < 6 := by omega
  have hnr : (r : Int) % 6 = (n : Int) := by omega
  clear hn
  have hA1 := h1
  have hA2 := h2
  have hA3 := h3
  have hA4 := h4
  obtain ⟨⟨a1, c1, rfl, -, -, -⟩, -, -⟩ := h1
  obtain ⟨⟨a2, c2, rfl, -, -, -⟩, -, -⟩ := h2
  obtain ⟨⟨a3, c3, rfl, -⟩, -, hb3⟩ := h3
  obtain ⟨⟨a4, c4, rfl, -⟩, -, hb4⟩ := h4
  have i1 : (fu.length : Int) ≤ 20 := by omega
  have i2 : (fa.length : Int) ≤ 20 := by omega
  have i3 : (bs.length : Int) ≤ 20 := by omega
  have i4 : (acs.length : Int) ≤ 60 := by omega
  go_enter Try.func3, Try.ntmps3
  go_wp2_with fail
  refine (awake6_any _).mono ?_
  rintro e w1 ⟨rfl, e1⟩
  have M2 := (Mp.made bendG w1).ext ((Ext.refl _).alloc #[.slice none 0 0, .slice none 0 0, .map (some w1.heap.size)] 29)
  have B2 := Blk.new (w1.alloc (.map #[] 0)) #[.slice none 0 0, .slice none 0 0, .map (some w1.heap.size)] 29
  have E2 := (e1.obj (.map #[] 0)).alloc #[.slice none 0 0, .slice none 0 0, .map (some w1.heap.size)] 29
  have z1 := e1.size
  have s1 : (w1.alloc (.map #[] 0)).heap.size = w1.heap.size + 1 := by simp
  have s2 : ((w1.alloc (.map #[] 0)).alloc (.cells #[.slice none 0 0, .slice none 0 0, .map (some w1.heap.size)] 29)).heap.size = w1.heap.size + 2 := by simp
  rw [s1] at B2
  go_wp2
  clear s1 e1
  generalize ((w1.alloc (.map #[] 0)).alloc (.cells #[.slice none 0 0, .slice none 0 0, .map (some w1.heap.size)] 29)) = w2 at *
  generalize w1.heap.size = bb at *
  obtain ⟨bp, hbp⟩ : ∃ bp, bp = bb + 1 := ⟨_, rfl⟩
  rw [← hbp] at B2 ⊢
  have hbpI := Lib.hid hbp
  clear hbp hmm
  go_loopg [64] fu.length (fun k iv wr => ∃ (i : Nat) (sf : Value), i + k = fu.length ∧ iv = .int .i64 i ∧ Blk wr bp #[sf, .slice none 0 0, .map (some bb)] 29 ∧ OwnI wr (bp + 1) sf (modL (fu.take i)) ∧ Mp bendG wr bb (fun _ => none) 0 ∧ bp < wr.heap.size ∧ Ext w wr)
  case atStart => exact ⟨0, _, by omega, rfl, B2, by simpa [modL] using OwnI.nil _ _, M2, B2.lt, E2⟩
  case round =>
    clear B2 M2 E2 s2
    obtain ⟨i, sf, hik, rfl, B3, o3, M3, hlt3, E3⟩ := hrel
    have hc3 := B3.cell
    by_cases hi : i < fu.length
    · have hi' : (i : Int) < (fu.length : Int) := by omega
      obtain ⟨ob, off, y, rfl, hy, hyw, hcy⟩ := (hA1.ext E3).nthi i hi
      have hyb := bdu8 hyw
      have o4 := o3.ext ((Ext.refl wr).alloc #[.int .i64 (y % 30)] 3)
      have B4 := B3.alloc (.cells #[.int .i64 (y % 30)] 3)
      have M4 := M3.ext ((Ext.refl wr).alloc #[.int .i64 (y % 30)] 3)
      have E4 := E3.alloc #[.int .i64 (y % 30)] 3
      have hml : (modL (fu.take i)).length = i := by rw [modL_length]; simp; omega
      have hmt := modL_take fu i y hy
      have HMT := Lib.hid hmt
      have hcn : (wr.alloc (.cells #[.int .i64 (y % 30)] 3)).cell? ⟨wr.heap.size, 0, none⟩ = some (.int .i64 (y % 30)) := by simp
      have HML := Lib.hid hml
      clear hmt hy hml
      go_wp2_with (first
        | (at_builtin; refine wpList_append_int rfl _ _ rfl (bp + 1) _ _ rfl o4 wr.heap.size 1 (y % 30) rfl hcn (by rw [HML.out]; omega) (by simp; omega) ?_
           intro v5 w5 o5 K5 hk5
           obtain ⟨ao5, c5, rfl, -, -⟩ := o5.slice
           have B5 := (K5.block bp B4.lt (fun hin => by have := (o4.lt bp (Option.mem_toList.1 hin)).1; omega)).trans B4
           have hc5 := Blk.cell B5
           have hd5 := Blk.frozen B5)
        | fail)
      have o5' : OwnI w5 (bp + 1) (.slice ao5 ((modL (fu.take i)).length + 1) c5) (modL (fu.take (i + 1))) := by
        rw [HMT.out]
        have := o5
        rw [List.length_append] at this
        exact this
      have hbs : ∀ k ∈ sf.ownBlock.toList, bp + 1 ≤ k := fun k hk => (o4.lt k (Option.mem_toList.1 hk)).1
      have hbl := hbpI.out
      have M5 := M4.calm K5 (fun hin => by have := hbs bb hin; omega)
      have E5 := Ext.calm_trans E4 K5 (fun k hk => by have := hbs k hk; omega)
      have K6 := calm_set w5 bp 0 (.slice ao5 ((modL (fu.take i)).length + 1) c5)
      have B6 := Blk.set B5 0 (.slice ao5 ((modL (fu.take i)).length + 1) c5)
      simp only [List.setIfInBounds_toArray, List.set_cons_zero] at B6
      have o6 := o5'.calm K6 (fun k hk hin => by have := (o5'.lt k hk).1; simp at hin; omega)
      have M6 := M5.calm K6 (by simp; omega)
      have E6 := Ext.calm_trans E5 K6 (by simp; omega)
      clear B3 o3 M3 hlt3 E3 hc3 o4 B4 M4 E4 hcn HML HMT o5 K5 hk5 B5 hc5 hd5 o5' M5 E5 K6 hbs
      go_roundg (gk - 1)
      case measure => omega
      case rel => exact ⟨i + 1, _, by omega, rfl, B6, o6, M6, B6.lt, E6⟩
    · obtain rfl : i = fu.length := by omega
      rw [List.take_length] at o3
      clear hc3
      obtain ⟨b2, hb2⟩ : ∃ b2, b2 = wr.heap.size := ⟨_, rfl⟩
      have hs3 : ∀ k, sf.ownBlock = some k → bp + 1 ≤ k ∧ k < b2 := fun k hk => by rw [hb2]; exact o3.lt k hk
      have hlt3' : bp < b2 := by omega
      have hw2 : b2 ≤ wr.heap.size := by omega
      clear hb2 hlt3
      go_wp2
      go_loopg [79] fa.length (fun k iv wr => ∃ (i : Nat) (sl : Value), i + k = fa.length ∧ iv = .int .i64 i ∧ Blk wr bp #[sf, sl, .map (some bb)] 29 ∧ OwnI wr (bp + 1) sf (modL fu) ∧ OwnI wr b2 sl (modL (fa.take i)) ∧ Mp bendG wr bb (fun _ => none) 0 ∧ b2 ≤ wr.heap.size ∧ Ext w wr)
      case atStart => exact ⟨0, _, by omega, rfl, B3, o3, by simpa [modL] using OwnI.nil _ _, M3, hw2, E3⟩
      case round =>
        clear B3 o3 M3 hw2 E3
        obtain ⟨i, sl, hik2, rfl, B3, o3, q3, M3, hw3, E3⟩ := hrel
        have hc3 := B3.cell
        by_cases hi : i < fa.length
        · have hi' : (i : Int) < (fa.length : Int) := by omega
          obtain ⟨ob, off, y, rfl, hy, hyw, hcy⟩ := (hA2.ext E3).nthi i hi
          have hyb := bdu8 hyw
          have o4 := o3.ext ((Ext.refl wr).alloc #[.int .i64 (y % 30)] 3)
          have q4 := q3.ext ((Ext.refl wr).alloc #[.int .i64 (y % 30)] 3)
          have B4 := B3.alloc (.cells #[.int .i64 (y % 30)] 3)
          have M4 := M3.ext ((Ext.refl wr).alloc #[.int .i64 (y % 30)] 3)
          have E4 := E3.alloc #[.int .i64 (y % 30)] 3
          have hml : (modL (fa.take i)).length = i := by rw [modL_length]; simp; omega
          have hmt := modL_take fa i y hy
          have HMT := Lib.hid hmt
          have hcn : (wr.alloc (.cells #[.int .i64 (y % 30)] 3)).cell? ⟨wr.heap.size, 0, none⟩ = some (.int .i64 (y % 30)) := by simp
          have HML := Lib.hid hml
          clear hmt hy hml
          go_wp2_with (first
            | (at_builtin; refine wpList_append_int rfl _ _ rfl b2 _ _ rfl q4 wr.heap.size 1 (y % 30) rfl hcn (by rw [HML.out]; omega) (by simp; omega) ?_
               intro v5 w5 q5 K5 hk5
               obtain ⟨ao5, c5, rfl, -, -⟩ := q5.slice
               have B5 := (K5.block bp B4.lt (fun hin => by have := (q4.lt bp (Option.mem_toList.1 hin)).1; omega)).trans B4
               have hc5 := Blk.cell B5
               have hd5 := Blk.frozen B5)
            | fail)
          have q5' : OwnI w5 b2 (.slice ao5 ((modL (fa.take i)).length + 1) c5) (modL (fa.take (i + 1))) := by
            rw [HMT.out]
            have := q5
            rw [List.length_append] at this
            exact this
          have hbs : ∀ k ∈ sl.ownBlock.toList, b2 ≤ k := fun k hk => (q4.lt k (Option.mem_toList.1 hk)).1
          have hbl := hbpI.out
          have M5 := M4.calm K5 (fun hin => by have := hbs bb hin; omega)
          have o5 := o4.calm K5 (fun k hk hin => by have h1 := hbs k hin; have h2 := hs3 k hk; omega)
          have E5 := Ext.calm_trans E4 K5 (fun k hk => by have := hbs k hk; omega)
          have K6 := calm_set w5 bp 1 (.slice ao5 ((modL (fa.take i)).length + 1) c5)
          have B6 := Blk.set B5 1 (.slice ao5 ((modL (fa.take i)).length + 1) c5)
          simp only [List.setIfInBounds_toArray, List.set_cons_zero, List.set_cons_succ] at B6
          have q6 := q5'.calm K6 (fun k hk hin => by have := (q5'.lt k hk).1; simp at hin; omega)
          have o6 := o5.calm K6 (fun k hk hin => by have := hs3 k hk; simp at hin; omega)
          have M6 := M5.calm K6 (by simp; omega)
          have z6 : b2 ≤ (w5.setCell ⟨bp, 1, none⟩ (.slice ao5 ((modL (fa.take i)).length + 1) c5)).heap.size := by
            have a1 := K5.size
            have a2 := K6.size
            simp at a1
            omega
          have E6 := Ext.calm_trans E5 K6 (by simp; omega)
          clear B3 o3 q3 M3 hw3 E3 hc3 o4 q4 B4 M4 E4 hcn HML HMT q5 K5 hk5 B5 hc5 hd5 q5' M5 E5 K6 hbs o5
          go_roundg (gk - 1)
          case measure => omega
          case rel => exact ⟨i + 1, _, by omega, rfl, B6, o6, q6, M6, z6, E6⟩
        · obtain rfl : i = fa.length := by omega
          rw [List.take_length] at q3
          clear hc3
          have hs4 : ∀ k, sl.ownBlock = some k → b2 ≤ k := fun k hk => (q3.lt k hk).1
          clear hw3
          go_wp2
          go_loopg [94] bs.length (fun k iv wr => ∃ (i s : Nat), i + k = bs.length ∧ s ≤ i ∧ iv = .int .i64 i ∧ Blk wr bp #[sf, sl, .map (some bb)] 29 ∧ OwnI wr (bp + 1) sf (modL fu) ∧ OwnI wr b2 sl (modL fa) ∧ Mp bendG wr bb (bF bs i) s ∧ Ext w wr)
          case atStart => exact ⟨0, 0, by omega, by omega, rfl, B3, o3, q3, M3, E3⟩
          case round =>
            clear B3 o3 q3 M3 E3
            obtain ⟨i, s, hik3, hsi, rfl, B3, o3, q3, M3, E3⟩ := hrel
            by_cases hi : i < bs.length
            · have hi' : (i : Int) < (bs.length : Int) := by omega
              obtain ⟨ob, off, p, rfl, hp, hcf, hcm⟩ := (hA3.ext E3).nth i hi
              have hpb := hb3 p (List.mem_of_getElem? hp)
              obtain ⟨pf, pm⟩ := p
              simp only at hcf hcm hpb
              have B4 := B3.alloc (.cells #[.int .i64 pf, .int .u32 pm] 32)
              have hc4 := B4.cell
              have M4 := M3.ext ((Ext.refl wr).alloc #[.int .i64 pf, .int .u32 pm] 32)
              have o4 := o3.ext ((Ext.refl wr).alloc #[.int .i64 pf, .int .u32 pm] 32)
              have q4 := q3.ext ((Ext.refl wr).alloc #[.int .i64 pf, .int .u32 pm] 32)
              have E4 := E3.alloc #[.int .i64 pf, .int .u32 pm] 32
              have hp' : bs.getD i (0, 0) = (pf, pm) := by simp [List.getD, hp]
              have HP := Lib.hid hp'
              clear hp hp'
              go_wp2_with (first
                | (at_mapUpdate; refine wpList_store_mp rfl _ _ _ 26 rfl 32 Try.underlying26 bendG bb s (bF bs i) rfl M4 (by unfold maxLen; omega) (3 * (i : Int)) (wfi (by omega)) (.agg #[.int .i64 pf, .int .u32 pm]) rfl rfl (bendG_mk hpb.1 hpb.2) ?_; intro w5 M5 K5; go_frame)
                | fail)
              have hbl := hbpI.out
              have M5' : Mp bendG w5 bb (bF bs (i + 1)) (if (bF bs i (3 * (i : Int))).isSome then s else s + 1) := by
                have e : bF bs (i + 1) = fun y => if y = 3 * (i : Int) then some (.agg #[.int .i64 pf, .int .u32 pm]) else bF bs i y := by
                  funext y
                  rw [show bF bs (i + 1) y = (if y = 3 * (i : Int) then some (.agg #[.int .i64 (bs.getD i (0, 0)).1, .int .u32 ((bs.getD i (0, 0)).2 : Int)]) else bF bs i y) from rfl, HP.out]
                rw [e]
                exact M5
              have hs' : (if (bF bs i (3 * (i : Int))).isSome then s else s + 1) ≤ i + 1 := by split <;> omega
              generalize (if (bF bs i (3 * (i : Int))).isSome then s else s + 1) = s' at *
              have B5 := (K5.block bp B4.lt (by simp; omega)).trans B4
              have o5 := o4.calm K5 (fun k hk hin => by have := hs3 k hk; simp at hin; omega)
              have q5 := q4.calm K5 (fun k hk hin => by have := hs4 k hk; simp at hin; omega)
              have E5 := Ext.calm_trans E4 K5 (by simp; omega)
              clear B3 o3 q3 M3 E3 B4 hc4 M4 o4 q4 E4 HP M5 K5 hsi hbl
              go_wp2
              go_roundg (gk - 1)
              case measure => omega
              case rel => exact ⟨i + 1, s', by omega, hs', rfl, B5, o5, q5, M5', E5⟩
            · obtain rfl : i = bs.length := by omega
              have hP : PlanIs wr (.agg #[sf, sl, .map (some bb)]) (modL fu) (modL fa) (bF bs bs.length) := ⟨sf, sl, some bb, rfl, o3.arr modL_wf, q3.arr modL_wf, by rw [modL_length]; omega, by rw [modL_length]; omega, .inr ⟨bb, s, rfl, by omega, M3⟩⟩
              have hPA : PlanAt wr bp sf sl bb (modL fu) (modL fa) (bF bs bs.length) := ⟨B3, o3.mono (Nat.zero_le _), q3.mono (Nat.zero_le _), s, by omega, M3⟩
              obtain ⟨fa', fc', hsf, -, -⟩ := o3.slice
              obtain ⟨la', lc', hsl, -, -⟩ := q3.slice
              have hc3 := B3.cell
              rw [hsf, hsl] at hc3 hP
              have HSF := Lib.hid hsf
              have HSL := Lib.hid hsl
              have bfis := fun y v => bF_is hb3 bs.length y v (Nat.le_refl _)
              generalize bF bs bs.length = bf at *
              clear B3 o3 q3 M3 hsf hsl
              go_wp2_with fail
              refine (new_any _ n (by omega) _ (modL fu) (modL fa) bf hP).mono ?_
              rintro e w6 ⟨bd, F, R, rfl, D6, x6, hF6, hR6⟩
              have hbl := hbpI.out
              have hrm : (min (max (n : Int) 0) 4096).toNat = n := by omega
              rw [hrm] at D6
              have E6 := E3.trans x6
              have z3 := E3.size
              have z6 := x6.size
              obtain ⟨pl1, pl2, pl3, pl4⟩ := hPA.lt
              have hlt6 := D6.lt
              have W7 := (Ext.refl w6).obj (.map #[] 0)
              have P7 : PlayAt w (w6.alloc (.map #[] 0)) F R bd bp w6.heap.size bb sf sl (modL fu) (modL fa) bf n (fun _ => none) ⟨modL fu, modL fa, bf, fun _ => none, 0, n, 0, 0, 0, 0⟩ 0 :=
                { dev := D6.ext W7
                  map := ⟨Mp.made anyV w6, fun _ _ _ => rfl, fun x v _ hv => by cases hv⟩
                  plan := (hPA.calm (x6.calm []) ⟨by simp, by simp, fun _ _ => by simp, fun _ _ => by simp⟩).calm (W7.calm []) ⟨by simp, by simp, fun _ _ => by simp, fun _ _ => by simp⟩
                  off := ⟨fun hk => by have := hF6 _ hk; omega, fun hk => by have := hF6 _ hk; omega, fun k hk hin => by have h1 := hF6 _ hin; have h2 := pl3 k hk; omega, fun k hk hin => by have h1 := hF6 _ hin; have h2 := pl4 k hk; omega⟩
                  offm := ⟨by simp; omega, by simp; omega, fun k hk => by have h2 := pl3 k hk; simp; omega, fun k hk => by have h2 := pl4 k hk; simp; omega⟩
                  bmF := ⟨fun hk => by have := hlt6.1 _ hk; omega, fun hk => by have := hlt6.2 _ hk; omega⟩
                  low := ⟨by omega, fun x hx => by have := hF6 x hx; omega⟩
                  ext := E6.trans W7
                  same := ⟨rfl, rfl, rfl, rfl⟩
                  top := fun x hx => absurd rfl hx
                  le := Nat.le_refl _
                  cnt := ⟨Nat.le_refl _, Nat.le_refl _, Nat.le_refl _⟩ }
              have hmm := @run_makeMap Try.prog
              clear hbl hrm E6 z3 z6 pl1 pl2 pl3 pl4 hlt6 W7 D6 x6 hF6 hR6 hPA hP hc3 E3 hs3 hs4 hlt3' hbpI hA1 hA2 hA3 hb3
              go_wp2
              clear hmm
              generalize w6.alloc (.map #[] 0) = w7 at *
              generalize w6.heap.size = bm at *
              go_loopg [20, 21, 22, 23, 113] acs.length (fun k s20 s21 s22 s23 iv wr => ∃ (i : Nat) (st : DSt) (F' : List Nat) (fL : Int → Option Value), i + k = acs.length ∧ iv = .int .i64 i ∧ s20 = .int .i64 st.puts ∧ s21 = .int .i64 st.takes ∧ s22 = .int .i64 st.last ∧ s23 = .int .i64 st.most ∧ PlayAt w wr F' R bd bp bm bb sf sl (modL fu) (modL fa) bf n fL st i)
              case atStart => exact ⟨0, _, F, _, by omega, rfl, rfl, rfl, rfl, rfl, P7⟩
              case round =>
                clear P7
                obtain ⟨i, st, F1, fL, hik4, rfl, rfl, rfl, rfl, rfl, P⟩ := hrel
                by_cases hi : i < acs.length
                · have hi' : (i : Int) < (acs.length : Int) := by omega
                  obtain ⟨ob, off, a, rfl, ha, ck, cn, cs, cl⟩ := (hA4.ext P.ext).nth i hi
                  have hab := hb4 a (List.mem_of_getElem? ha)
                  obtain ⟨ak, an, asd, al⟩ := a
                  simp only at ck cn cs cl hab
                  clear ha
                  have hcn := P.cnt
                  have hk012 : ak % 3 = 0 ∨ ak % 3 = 1 ∨ ak % 3 = 2 := by omega
                  obtain ⟨an', rfl⟩ : ∃ an' : Nat, an = an' := ⟨an.toNat, by omega⟩
                  obtain ⟨d, hd⟩ : ∃ d : Nat, d = st.last + 2 := ⟨_, rfl⟩
                  have hdI : (st.last : Int) + 2 = (d : Int) := by omega
                  have hd0 : (d : Int) ≠ 0 := by omega
                  have hdp : 0 < d := by omega
                  have hd62 : d ≤ 62 := by omega
                  obtain ⟨q, hq⟩ : ∃ q, q = an' % d := ⟨_, rfl⟩
                  have hqm : (an' : Int) % (d : Int) = (q : Int) := by rw [hq]; exact (Int.natCast_emod _ _).symm
                  have hqt : (an' : Int).tmod (d : Int) = (q : Int) := by rw [Int.tmod_eq_emod_of_nonneg (by omega)]; exact hqm
                  have hq1 : q ≤ 1000 := by have := Nat.mod_lt an' hdp; omega
                  have P1 := P.grow ((Ext.refl wr).alloc #[.int .u8 ak, .int .u8 (an' : Int), .int .u8 asd, .bool al] 37)
                  have BX := Blk.new wr #[.int .u8 ak, .int .u8 (an' : Int), .int .u8 asd, .bool al] 37
                  have bxc := BX.cell
                  have hfl : (modL fu).length ≤ 1000 ∧ ∀ y ∈ modL fu, (Lit.int .i64 y).wf = true := ⟨by rw [modL_length]; omega, modL_wf⟩
                  have hll : (modL fa).length ≤ 1000 ∧ ∀ y ∈ modL fa, (Lit.int .i64 y).wf = true := ⟨by rw [modL_length]; omega, modL_wf⟩
                  clear hd hq P
                  rcases hk012 with hk3 | hk3 | hk3
                  · go_upto_block 8 with fail
                    rw [hk3]
                    refine plays_put _ _ _ _ _ _ _ _ _ _ _ _ _ _ _ _ _ _ _ _ _ _ _ _ _ _ _ _ _ _ _ _ _ _ _ _ _ _ _ _ _ _ _ _ _ _ _ _ _ _ _ _ _ _ _ _ _ _ _ _ _ _ _ _ _ _ _ _ _ _ _ _ _ _ _ _ _ _ _ _ _ _ _ _ _ _ _ _ _ _ _ _ _ _ _ _ _ _ _ _ _ _ _ _ _ _ _ _ _ _ _ _ _ _ _ _ _ _ _ _ _ _ _ _ _ _ _ _ _ _ _ _ _ _ _ _ _ _ _ _ _ _ _ _ _ _ _ _ _ _ _ _ _ _ _ _ _ _ _ _ _ _ _ _ _ _ _ _ _ _ _ _ _ _ _ _ _ _ _ _ _ _ _ _ _ _ _ _ _ _ _ _ _ _ _ _ _ _ _ _ _ _ _ _ _ _ _ _ _ _ _ _ _ _ _ _ _ _ _ _ _ _ _ _ _ _ _ _ _ _ _ _ _ _ _ _ _ _ _ _ _ _ _ _ _ _ _ _ _ _ _ _ _ _ _ _ _ _ _ _ _ _ _ _ _ _ _ _ _ _ _ r n hn6 hnr wr.heap.size q ak an' asd al hab.2.2 hq1 (by omega) bfis hfl hll P1 BX (fun _ _ _ _ _ _ _ _ _ _ _ _ _ _ _ _ _ _ _ _ _ _ _ _ _ _ _ _ _ _ _ _ _ _ _ _ _ _ _ _ _ _ _ _ _ _ _ _ _ _ _ _ _ _ _ _ _ _ _ _ _ _ _ _ _ _ _ _ _ _ _ _ _ _ _ _ _ _ _ _ _ _ _ _ _ _ _ _ _ _ _ _ _ _ _ _ _ _ _ _ _ _ _ _ _ _ _ _ _ _ _ _ _ _ _ _ _ _ _ _ _ _ _ _ _ _ _ _ _ _ _ _ _ _ _ _ _ _ _ _ _ _ _ _ s20 s21 s22 st' F' fL' wx h20 h21 h22 hm P' => ?_)
                    subst h20 h21 h22
                    have hmI : (if st.most < st'.s then (st'.s : Int) else (st.most : Int)) = (st'.most : Int) := by split <;> omega
                    have hmJ : (if (st.most : Int) < (st'.s : Int) then (st'.s : Int) else (st.most : Int)) = (st'.most : Int) := by split <;> omega
                    have hlen := P'.map.map.len 35 22 Try.underlying35
                    have hroom := P'.same.2.2.2
                    clear P1 BX hk3
                    go_wp2_with fail
                    refine (dev_Used _ F' R bd _ P'.dev).mono ?_
                    rintro e wy ⟨rfl, rfl⟩
                    go_wp2_with fail
                    refine (dev_Most _ F' R bd _ P'.dev).mono ?_
                    rintro e wy ⟨rfl, rfl⟩
                    go_wp2_with fail
                    refine (dev_Room _ F' R bd _ P'.dev).mono ?_
                    rintro e wy ⟨rfl, rfl⟩
                    rw [hroom]
                    clear hroom
                    go_wp2
                    go_roundg (gk - 1)
                    case measure => omega
                    case rel => exact ⟨i + 1, st', F', fL', by omega, rfl, rfl, rfl, rfl, rfl, P'⟩
                  · go_upto_block 8 with fail
                    rw [hk3]
                    refine plays_take _ _ _ _ _ _ _ _ _ _ _ _ _ _ _ _ _ _ _ _ _ _ _ _ _ _ _ _ _ _ _ _ _ _ _ _ _ _ _ _ _ _ _ _ _ _ _ _ _ _ _ _ _ _ _ _ _ _ _ _ _ _ _ _ _ _ _ _ _ _ _ _ _ _ _ _ _ _ _ _ _ _ _ _ _ _ _ _ _ _ _ _ _ _ _ _ _ _ _ _ _ _ _ _ _ _ _ _ _ _ _ _ _ _ _ _ _ _ _ _ _ _ _ _ _ _ _ _ _ _ _ _ _ _ _ _ _ _ _ _ _ _ _ _ _ _ _ _ _ _ _ _ _ _ _ _ _ _ _ _ _ _ _ _ _ _ _ _ _ _ _ _ _ _ _ _ _ _ _ _ _ _ _ _ _ _ _ _ _ _ _ _ _ _ _ _ _ _ _ _ _ _ _ _ _ _ _ _ _ _ _ _ _ _ _ _ _ _ _ _ _ _ _ _ _ _ _ _ _ _ _ _ _ _ _ _ _ _ _ _ _ _ _ _ _ _ _ _ _ _ _ _ _ _ _ _ _ _ _ _ _ _ _ _ _ _ _ _ _ _ _ r n hn6 hnr wr.heap.size q ak an' asd al hab.2.2 hq1 (by omega) bfis hfl hll P1 BX (fun _ _ _ _ _ _ _ _ _ _ _ _ _ _ _ _ _ _ _ _ _ _ _ _ _ _ _ _ _ _ _ _ _ _ _ _ _ _ _ _ _ _ _ _ _ _ _ _ _ _ _ _ _ _ _ _ _ _ _ _ _ _ _ _ _ _ _ _ _ _ _ _ _ _ _ _ _ _ _ _ _ _ _ _ _ _ _ _ _ _ _ _ _ _ _ _ _ _ _ _ _ _ _ _ _ _ _ _ _ _ _ _ _ _ _ _ _ _ _ _ _ _ _ _ _ _ _ _ _ _ _ _ _ _ _ _ _ _ _ _ _ _ _ _ s20 s21 s22 st' F' fL' wx h20 h21 h22 hm P' => ?_)
                    subst h20 h21 h22
                    have hmI : (if st.most < st'.s then (st'.s : Int) else (st.most : Int)) = (st'.most : Int) := by split <;> omega
                    have hmJ : (if (st.most : Int) < (st'.s : Int) then (st'.s : Int) else (st.most : Int)) = (st'.most : Int) := by split <;> omega
                    have hlen := P'.map.map.len 35 22 Try.underlying35
                    have hroom := P'.same.2.2.2
                    clear P1 BX hk3
                    go_wp2_with fail
                    refine (dev_Used _ F' R bd _ P'.dev).mono ?_
                    rintro e wy ⟨rfl, rfl⟩
                    go_wp2_with fail
                    refine (dev_Most _ F' R bd _ P'.dev).mono ?_
                    rintro e wy ⟨rfl, rfl⟩
                    go_wp2_with fail
                    refine (dev_Room _ F' R bd _ P'.dev).mono ?_
                    rintro e wy ⟨rfl, rfl⟩
                    rw [hroom]
                    clear hroom
                    go_wp2
                    go_roundg (gk - 1)
                    case measure => omega
                    case rel => exact ⟨i + 1, st', F', fL', by omega, rfl, rfl, rfl, rfl, rfl, P'⟩
                  · go_upto_block 8 with fail
                    rw [hk3]
                    refine plays_drop _ _ _ _ _ _ _ _ _ _ _ _ _ _ _ _ _ _ _ _ _ _ _ _ _ _ _ _ _ _ _ _ _ _ _ _ _ _ _ _ _ _ _ _ _ _ _ _ _ _ _ _ _ _ _ _ _ _ _ _ _ _ _ _ _ _ _ _ _ _ _ _ _ _ _ _ _ _ _ _ _ _ _ _ _ _ _ _ _ _ _ _ _ _ _ _ _ _ _ _ _ _ _ _ _ _ _ _ _ _ _ _ _ _ _ _ _ _ _ _ _ _ _ _ _ _ _ _ _ _ _ _ _ _ _ _ _ _ _ _ _ _ _ _ _ _ _ _ _ _ _ _ _ _ _ _ _ _ _ _ _ _ _ _ _ _ _ _ _ _ _ _ _ _ _ _ _ _ _ _ _ _ _ _ _ _ _ _ _ _ _ _ _ _ _ _ _ _ _ _ _ _ _ _ _ _ _ _ _ _ _ _ _ _ _ _ _ _ _ _ _ _ _ _ _ _ _ _ _ _ _ _ _ _ _ _ _ _ _ _ _ _ _ _ _ _ _ _ _ _ _ _ _ _ _ _ _ _ _ _ _ _ _ _ _ _ _ _ _ _ _ r n hn6 hnr wr.heap.size q ak an' asd al hab.2.2 hq1 (by omega) bfis hfl hll P1 BX (fun _ _ _ _ _ _ _ _ _ _ _ _ _ _ _ _ _ _ _ _ _ _ _ _ _ _ _ _ _ _ _ _ _ _ _ _ _ _ _ _ _ _ _ _ _ _ _ _ _ _ _ _ _ _ _ _ _ _ _ _ _ _ _ _ _ _ _ _ _ _ _ _ _ _ _ _ _ _ _ _ _ _ _ _ _ _ _ _ _ _ _ _ _ _ _ _ _ _ _ _ _ _ _ _ _ _ _ _ _ _ _ _ _ _ _ _ _ _ _ _ _ _ _ _ _ _ _ _ _ _ _ _ _ _ _ _ _ _ _ _ _ _ _ _ s20 s21 s22 st' F' fL' wx h20 h21 h22 hm P' => ?_)
                    subst h20 h21 h22
                    have hmI : (if st.most < st'.s then (st'.s : Int) else (st.most : Int)) = (st'.most : Int) := by split <;> omega
                    have hmJ : (if (st.most : Int) < (st'.s : Int) then (st'.s : Int) else (st.most : Int)) = (st'.most : Int) := by split <;> omega
                    have hlen := P'.map.map.len 35 22 Try.underlying35
                    have hroom := P'.same.2.2.2
                    clear P1 BX hk3
                    go_wp2_with fail
                    refine (dev_Used _ F' R bd _ P'.dev).mono ?_
                    rintro e wy ⟨rfl, rfl⟩
                    go_wp2_with fail
                    refine (dev_Most _ F' R bd _ P'.dev).mono ?_
                    rintro e wy ⟨rfl, rfl⟩
                    go_wp2_with fail
                    refine (dev_Room _ F' R bd _ P'.dev).mono ?_
                    rintro e wy ⟨rfl, rfl⟩
                    rw [hroom]
                    clear hroom
                    go_wp2
                    go_roundg (gk - 1)
                    case measure => omega
                    case rel => exact ⟨i + 1, st', F', fL', by omega, rfl, rfl, rfl, rfl, rfl, P'⟩
                · obtain rfl : i = acs.length := by omega
                  have E9 := P.ext
                  go_wp2
                  go_ret
                  exact ⟨rfl, E9⟩
end Go.Proofs.Ytmoihbpjcdmmbaa
