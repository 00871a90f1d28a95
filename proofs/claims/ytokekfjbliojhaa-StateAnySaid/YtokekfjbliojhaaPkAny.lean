/-
  DERIVED. THE WALK of StateAny (made by mkstany.py).
-/
import Derived.Test.YtokekfjbliojhaaPkAnyP
import Derived.Test.YtokekfjbliojhaaPkAnyE
import Derived.Test.YtokekfjbliojhaaPkWire
import Derived.Deep.LoopGhost
namespace Go.Proofs.Ytokekfjbliojhaa
open Go.RowKit
set_option linter.unusedVariables false
theorem take9_good {l : List Int} {s : Stt} {k' : Nat} (h : Take9 l 0 0 s k' 0) : s.byt ∧ s.chk = 0 ∧ l.take 15 = s.enc ∧ 15 ≤ l.length := by
  rcases h with ⟨_, _, _, h1, h2, h3⟩ | ⟨h1, _⟩
  · rw [List.drop_zero] at h3
    refine ⟨h1, h2, ?_, ?_⟩
    · rw [h3, List.take_append_of_le_length (by simp [Stt.enc]), List.take_of_length_le (by simp [Stt.enc])]
    · rw [h3]
      simp [Stt.enc]
  · exact absurd rfl h1
theorem take9_bad {l : List Int} {s : Stt} {k' : Nat} {err : Int} (h : Take9 l 0 0 s k' err) (he : err ≠ 0) : s = Stt.nul := by
  rcases h with ⟨_, h1, _⟩ | ⟨_, h1, _⟩
  · exact absurd h1 he
  · exact h1
set_option maxRecDepth 100000 in
set_option maxHeartbeats 4000000 in
theorem stateAny_main {w : World} (v : Value) (lb : List Int) (q : Sm9) (a' c' : Int) (x : Stt) (hA : Arr w .u8 v lb) (hq : q.ok) (ha : 0 ≤ a' ∧ a' ≤ 255) (hc : 0 ≤ c' ∧ c' ≤ 255) (hlb : lb.length ≤ 60) :
    Calls Try.prog 5 #[v, .agg q.v, .int .u8 a', .int .u8 c', .agg x.v] w fun e w' => e = .returned (.bool true) ∧ Ext w w' := by
  obtain ⟨hby, hck⟩ := Sm9.good hq
  have hl0 : (lb.length : Int) ≤ 60 := by omega
  obtain ⟨i, hi1, hi2, hi3⟩ : ∃ i : Nat, a' % 15 = (i : Int) ∧ Int.tmod a' 15 = (i : Int) ∧ i < 15 := ⟨(a' % 15).toNat, by omega, by rw [Int.tmod_eq_emod_of_nonneg ha.1]; omega, by omega⟩
  have hA0 := hA
  obtain ⟨⟨ao, cb, rfl, -⟩, -, -⟩ := hA
  have B0 := (Blk.new w q.v 32).alloc (.cells x.v 38)
  have X0 := Blk.new (w.alloc (.cells q.v 32)) x.v 38
  have z0 : (w.alloc (.cells q.v 32)).heap.size = w.heap.size + 1 := by simp
  rw [z0] at X0
  have E0 := ((Ext.refl w).alloc q.v 32).alloc x.v 38
  go_enter Try.func5, Try.ntmps5
  go_wp2_with fail
  generalize (w.alloc (.cells q.v 32)).alloc (.cells x.v 38) = w0 at *
  refine (awake9_any _).mono ?_
  rintro e w1 ⟨rfl, x1⟩
  have B1 := (B0.ext x1).alloc (.cells #[.slice none 0 0] 43)
  have X1 := (X0.ext x1).alloc (.cells #[.slice none 0 0] 43)
  have E1 := (E0.trans x1).alloc #[.slice none 0 0] 43
  have P1 := Pen.new (w := w1) (base := w1.heap.size) (Nat.le_refl _)
  have hz1 := (E0.trans x1).size
  have hzx := (X0.ext x1).lt
  have hs1 : (w1.alloc (.cells #[.slice none 0 0] 43)).heap.size = w1.heap.size + 1 := by simp
  clear B0 X0 E0 x1 z0
  go_upto_region 6 with fail
  generalize w1.alloc (.cells #[.slice none 0 0] 43) = w2 at *
  go_wp2_with (first | ((with_reducible refine wpList_load_blk (op := ⟨some 27, _, _, _, _, _⟩) ?_ 32 (.tmp 6) ?_ w.heap.size ?_ (z := q.v) (T := 32) B1 Try.underlying32 ?_ ?_ ?_); rfl; rfl; rfl; rfl; kernel_rfl) | fail)
  refine (small9_any q hq _).mono ?_
  rintro e w3 ⟨rfl, x3⟩
  generalize q.st = s at *
  have HBD := Lib.hid (Stt.enc_bd hby (Stt.chk_box hck))
  have HBX := Lib.hid (Stt.chk_box hck)
  have HBY := Lib.hid hby
  clear hck hby
  have X3 := X1.ext x3
  have P3 := P1.ext x3
  have E3 := E1.trans x3
  have hz3 := x3.size
  clear X1 P1 E1 x3 B1
  go_wp2_with fail
  refine (sput_any s HBY.out HBX.out _ _ _ _ _ P3 (by simp) (by omega)).mono ?_
  rintro e w4 ⟨rfl, F4, P4, s4⟩
  rw [List.nil_append] at P4
  have X4 := X3.calm s4.1 (by simp only [List.mem_singleton]; omega)
  have E4 : Ext w w4 := s4.ext E3 (by simp only [List.mem_singleton, forall_eq]; omega)
  clear X3 E3 P3 s4
  go_wp2_with fail
  refine (pen_bytes _ _ _ _ _ P4 HBD.out (by simp [Stt.enc])).mono ?_
  rintro e w5 ⟨v5, rfl, o5, x5⟩
  have X5 := X4.ext x5
  have E5 := E4.trans x5
  have hz4 := E4.size
  obtain ⟨ao5, c5, rfl, hnone, hadr⟩ := o5.slice
  obtain ⟨g5, rfl⟩ : ∃ g, ao5 = some ⟨g, 0, none⟩ := by
    cases ao5 with
    | none => have := (hnone rfl).1; cases this
    | some a => exact ⟨a.block, by rw [← hadr a rfl]⟩
  have hg5 := (o5.lt g5 rfl).1
  have hcap5 := o5.cap
  have e15 : s.enc.length = 15 := rfl
  have o5' : Own w5 w4.heap.size (.slice (some ⟨g5, 0, none⟩) 15 c5) s.enc := o5
  have t5 := o5'.thaw rfl i
  obtain ⟨y5, hy5⟩ : ∃ y, s.enc[i]? = some y := ⟨s.enc[i]'(by rw [e15]; exact hi3), by simp⟩
  have hcell5 := o5'.at rfl hy5
  have o6 := o5'.put rfl i c'
  have E6 : Ext w (w5.setCell ⟨g5, i, none⟩ (.int .u8 c')) := E5.setCell (p := ⟨g5, i, none⟩) (by show w.heap.size ≤ g5; omega) _
  have X6 : Blk (w5.setCell ⟨g5, i, none⟩ (.int .u8 c')) (w.heap.size + 1) x.v 38 := X5.far (p := ⟨g5, i, none⟩) (by show w.heap.size + 1 ≠ g5; have := X4.lt; omega) _
  have hYb : ∀ y ∈ s.enc.set i c', 0 ≤ y ∧ y ≤ 255 := fun y hy => by
    rcases List.mem_or_eq_of_mem_set hy with h | h
    · exact HBD.out y h
    · rw [h]; exact hc
  have hY15 : (s.enc.set i c').length = 15 := by rw [List.length_set]; rfl
  have A6 : Arr (w5.setCell ⟨g5, i, none⟩ (.int .u8 c')) .u8 (.slice (some ⟨g5, 0, none⟩) (s.enc.set i c').length c5) (s.enc.set i c') := by
    rw [hY15]
    exact o6.arr hYb
  generalize s.enc.set i c' = Y at *
  rw [hY15] at A6
  clear hnone hadr o5 o5' o6 X4 E4 X5 E5 P4 x5 hy5 HBD HBX HBY hYb
  go_upto_region 11 with fail
  generalize w5.setCell ⟨g5, i, none⟩ (.int .u8 c') = w6 at *
  have L7 := Blk.new w6 #[.slice ao lb.length cb, .slice (some ⟨g5, 0, none⟩) 15 c5] 41
  have x7 := (Ext.refl w6).alloc #[.slice ao lb.length cb, .slice (some ⟨g5, 0, none⟩) 15 c5] 41
  have E7 := E6.trans x7
  have X7 := X6.ext x7
  have A7 := A6.ext x7
  have AB7 := hA0.ext E7
  clear E6 X6 A6 x7 hA0 t5 hcell5 hcap5
  have HL : Hid (∀ wr, Ext (w6.alloc (.cells #[.slice ao lb.length cb, .slice (some ⟨g5, 0, none⟩) 15 c5] 41)) wr → ∀ j, j < 2 → ∃ za zc zl, wr.cell? ⟨w6.heap.size, j, none⟩ = some (.slice za (List.length zl) zc) ∧ Arr wr .u8 (.slice za (List.length zl) zc) zl ∧ List.length zl ≤ 60) := Lib.hid fun wr xr j hj => by
    have := (L7.ext xr).cell j
    match j, hj with
    | 0, _ => exact ⟨ao, cb, lb, this, AB7.ext xr, hlb⟩
    | 1, _ => exact ⟨_, c5, Y, by rw [hY15]; exact this, by rw [hY15]; exact A7.ext xr, by omega⟩
  go_wp2
  generalize w6.alloc (.cells #[.slice ao lb.length cb, .slice (some ⟨g5, 0, none⟩) 15 c5] 41) = w7 at *
  clear L7 A7 AB7
  go_loopg [48] 2 (fun k iv wr => ∃ (j : Nat), j + k = 2 ∧ iv = .int .i64 (j : Int) ∧ Ext w7 wr)
  case atStart => exact ⟨0, rfl, rfl, Ext.refl _⟩
  case round =>
    obtain ⟨j, hjk, rfl, xr⟩ := hrel
    by_cases hj : j < 2
    · obtain ⟨za, zc, zl, hcell, hAz, hzl⟩ := HL.out wr xr j hj
      have hjI : (j : Int) < 2 := by omega
      have hjJ : 0 ≤ (j : Int) := by omega
      go_wp2_with fail
      refine (rd_read _ _ _ hAz (by omega)).mono ?_
      rintro e w8 ⟨pr, Fr, rfl, R8, x8⟩
      go_wp2_with fail
      refine (take9_any _ _ _ _ _ _ _ R8).mono ?_
      rintro e w9 ⟨s9, k9, err9, rfl, R9, S9, T9⟩
      have x9 : Ext wr w9 := S9.ext x8 (fun b hb => (R8.lt b hb).1)
      have HT := Lib.hid T9
      have A9 := (hAz.ext x9).ext ((Ext.refl w9).alloc s9.v 38)
      have B9 := Blk.new w9 s9.v 38
      have R10 := R9.ext ((Ext.refl w9).alloc s9.v 38)
      have x10 := (xr.trans x9).alloc s9.v 38
      clear R8 x8 T9 R9 S9 x9 xr hAz hcell
      go_upto_region 16 with fail
      generalize w9.alloc (.cells s9.v 38) = w10 at *
      go_wp2_with fail
      refine (rd_err _ _ _ _ _ _ _ R10).mono ?_
      rintro e w11 ⟨rfl, rfl⟩
      by_cases he : err9 = 0
      · subst he
        obtain ⟨g1, g2, g3, g4⟩ := take9_good HT.out
        have HK := Lib.hid g2
        have HX := Lib.hid (Stt.chk_box g2)
        have HG := Lib.hid g1
        have H3 := Lib.hid g3
        clear g1 g2 g3
        have B11 := B9.alloc (.cells #[.slice none 0 0] 43)
        have y11 := (Ext.refl w10).alloc #[.slice none 0 0] 43
        have P11 := Pen.new (w := w10) (base := w10.heap.size) (Nat.le_refl _)
        have x11 := x10.alloc #[.slice none 0 0] 43
        have hz11 := y11.size
        have hp11 : w10.heap.size < (w10.alloc (.cells #[.slice none 0 0] 43)).heap.size := by simp
        have hb9 := B9.lt
        have hx10 := x10.size
        clear R10
        go_upto_region 20 with fail
        generalize w10.alloc (.cells #[.slice none 0 0] 43) = w11 at *
        go_wp2_with (first | ((with_reducible refine wpList_load_blk (op := ⟨some 64, _, _, _, _, _⟩) ?_ 38 (.tmp 16) ?_ w9.heap.size ?_ (z := s9.v) (T := 38) B11 Try.underlying38 ?_ ?_ ?_); rfl; rfl; rfl; rfl; kernel_rfl) | fail)
        refine (sput_any s9 HG.out HX.out _ _ _ _ _ P11 (by simp) (by omega)).mono ?_
        rintro e w12 ⟨rfl, F12, P12, s12⟩
        rw [List.nil_append] at P12
        have B12 := B11.calm s12.1 (by simp only [List.mem_singleton]; omega)
        have x12 : Ext w7 w12 := s12.ext x11 (by simp only [List.mem_singleton, forall_eq]; omega)
        obtain ⟨⟨za', zc', ez, hcz, hzb, hzn⟩, hzm, hzw⟩ := A9
        cases ez
        obtain ⟨bz, oz, rfl, hcc⟩ := hzb (by intro e; subst e; simp at g4)
        have hbz : bz < w10.heap.size := cell_lt (hcc 0 (by omega))
        have A12 : Arr w12 .u8 (.slice (some ⟨bz, oz, none⟩) zl.length zc) zl := by
          refine ⟨⟨_, zc, rfl, hcz, fun _ => ⟨bz, oz, rfl, fun jj hjj => ?_⟩, hzn⟩, hzm, hzw⟩
          rw [s12.1.cell (oz + jj) (by omega) (by simp only [List.mem_singleton]; omega)]
          exact y11.old (hcc jj hjj)
        clear hcc hzb hzn hzw hcz
        clear P11 x11 B11 s12 x10 B9 y11
        go_upto_region 21 with fail
        refine stany_r21 _ _ _ _ _ _ _ _ _ _ _ _ _ _ _ _ _ _ _ _ _ _ _ _ _ _ _ _ _ _ _ _ _ _ _ _ _ _ _ _ _ _ _ _ _ _ _ _ _ _ _ _ _ _ _ _ _ _ _ _ _ _ _ _ _ _ _ _ _ _ _ _ _ _ _ _ _ _ _ _ _ _ _ _ _ _ _ _ _ _ _ _ _ _ _ _ _ _ _ _ _ _ _ _ _ _ _ _ _ _ _ _ _ _ _ _ _ _ _ _ _ _ _ _ _ _ _ _ _ _ _ _ _ _ _ _ _ _ _ _ _ _ _ _ _ _ _ _ _ _ _ _ _ _ _ bz oz zc w9.heap.size w10.heap.size w10.heap.size zl s9 HG.out HK.out F12 w12 A12 B12 P12 H3.out g4 (by omega) (fun _ _ _ _ _ _ _ _ _ _ _ w13 x13 => ?_)
        go_wp2
        go_roundg (gk - 1)
        case measure => omega
        case rel => exact ⟨j + 1, by omega, by simp, x12.trans x13⟩
      · have hn9 := take9_bad HT.out he
        subst hn9
        have hE := eqS Stt.nul
        go_wp2_with (first | ((with_reducible refine wpList_load_blk (op := ⟨some 59, _, _, _, _, _⟩) ?_ 38 (.tmp 16) ?_ w9.heap.size ?_ (z := Stt.nul.v) (T := 38) B9 Try.underlying38 ?_ ?_ ?_); rfl; rfl; rfl; rfl; kernel_rfl) | fail)
        go_roundg (gk - 1)
        case measure => omega
        case rel => exact ⟨j + 1, by omega, by simp, x10⟩
    · obtain rfl : j = 2 := by omega
      have X8 := X7.ext xr
      have E8 := E7.trans xr
      have cX8 := X8.cell
      have X9 := X8.alloc (.cells #[.int .i64 x.x0, .int .i64 x.y0, .int .i64 x.x1, .int .i64 x.y1] 36)
      have N9 := Blk.new wr #[.int .i64 x.x0, .int .i64 x.y0, .int .i64 x.x1, .int .i64 x.y1] 36
      have E9 := E8.alloc #[.int .i64 x.x0, .int .i64 x.y0, .int .i64 x.x1, .int .i64 x.y1] 36
      go_upto_region 26 with fail
      clear cX8 X8 E8 X7 E7 HL
      generalize wr.alloc (.cells #[.int .i64 x.x0, .int .i64 x.y0, .int .i64 x.x1, .int .i64 x.y1] 36) = w9 at *
      refine stany_r26 _ _ _ _ _ _ _ _ _ _ _ _ _ _ _ _ _ _ _ _ _ _ _ _ _ _ _ _ _ _ _ _ _ _ _ _ _ _ _ _ _ _ _ _ _ _ _ _ _ _ _ _ _ _ _ _ _ _ _ _ _ _ _ _ _ _ _ _ _ _ _ _ _ _ _ _ _ _ _ _ _ _ _ _ _ _ _ _ _ _ _ _ _ _ _ _ _ _ _ _ _ _ _ _ _ _ _ _ _ _ _ _ _ _ _ _ _ _ _ _ _ _ _ _ _ _ _ _ _ _ _ _ _ _ _ _ _ _ _ _ _ _ _ _ _ _ _ _ _ _ _ _ _ _ _ _ _ (w.heap.size + 1) x w9 X9 (fun _ _ _ _ _ _ _ _ _ _ _ _ _ _ _ _ _ _ _ _ _ _ _ _ _ _ _ _ _ _ _ _ _ _ _ _ _ _ b hb => ?_)
      cases hd : x.def
      · rw [hd] at hb
        subst hb
        have hk : x.chk = 13 := by unfold Stt.chk; rw [hd]; rfl
        go_wp2_with (first | ((with_reducible refine wpList_load_blk (op := ⟨some 154, _, _, _, _, _⟩) ?_ 38 (.tmp 9) ?_ (w.heap.size + 1) ?_ (z := x.v) (T := 38) X9 Try.underlying38 ?_ ?_ ?_); rfl; rfl; rfl; rfl; kernel_rfl) | fail)
        refine (check_any x _).mono ?_
        rintro e w10 ⟨rfl, x10⟩
        rw [hk]
        go_wp2
        go_ret
        exact ⟨rfl, E9.trans x10⟩
      · rw [hd] at hb
        subst hb
        go_upto_region 28 with fail
        refine stany_r28 _ _ _ _ _ _ _ _ _ _ _ _ _ _ _ _ _ _ _ _ _ _ _ _ _ _ _ _ _ _ _ _ _ _ _ _ _ _ _ _ _ _ _ _ _ _ _ _ _ _ _ _ _ _ _ _ _ _ _ _ _ _ _ _ _ _ _ _ _ _ _ _ _ _ _ _ _ _ _ _ _ _ _ _ _ _ _ _ _ _ _ _ _ _ _ _ _ _ _ _ _ _ _ _ _ _ _ _ _ _ _ _ _ _ _ _ _ _ _ _ _ _ _ _ _ _ _ _ _ _ _ _ _ _ _ _ _ _ _ _ _ _ _ _ _ _ _ _ _ _ _ _ _ _ _ _ _ wr.heap.size x.x0 x.y0 x.x1 x.y1 w9 N9 (fun _ _ _ _ _ _ _ _ _ _ _ _ _ _ _ _ _ _ _ _ _ _ _ _ _ _ _ _ _ _ _ _ b hb => ?_)
        cases hs : (spansB x.x0 x.x1 && spansB x.y0 x.y1)
        · rw [hs] at hb
          subst hb
          have hk : x.chk = 2 := by unfold Stt.chk; rw [hd, hs]; rfl
          go_wp2_with (first | ((with_reducible refine wpList_load_blk (op := ⟨some 154, _, _, _, _, _⟩) ?_ 38 (.tmp 9) ?_ (w.heap.size + 1) ?_ (z := x.v) (T := 38) X9 Try.underlying38 ?_ ?_ ?_); rfl; rfl; rfl; rfl; kernel_rfl) | fail)
          refine (check_any x _).mono ?_
          rintro e w10 ⟨rfl, x10⟩
          rw [hk]
          go_wp2
          go_ret
          exact ⟨rfl, E9.trans x10⟩
        · rw [hs] at hb
          subst hb
          have hk : x.chk = 0 := by unfold Stt.chk; rw [hd, hs]; rfl
          go_wp2_with (first | ((with_reducible refine wpList_load_blk (op := ⟨some 154, _, _, _, _, _⟩) ?_ 38 (.tmp 9) ?_ (w.heap.size + 1) ?_ (z := x.v) (T := 38) X9 Try.underlying38 ?_ ?_ ?_); rfl; rfl; rfl; rfl; kernel_rfl) | fail)
          refine (check_any x _).mono ?_
          rintro e w10 ⟨rfl, x10⟩
          rw [hk]
          go_wp2
          go_ret
          exact ⟨rfl, E9.trans x10⟩
set_option maxRecDepth 100000 in
theorem stateAny_row {w : World} (v : Value) (lb : List Int) (q : Sm9) (a' c' : Int) (x : Stt) (hA : Arr w .u8 v lb) (hq : q.ok) (ha : 0 ≤ a' ∧ a' ≤ 255) (hc : 0 ≤ c' ∧ c' ≤ 255) (hx : x.byt) :
    Calls Try.prog 5 #[v, .agg q.v, .int .u8 a', .int .u8 c', .agg x.v] w fun e w' => e = .returned (.bool true) ∧ Ext w w' := by
  have hmain := fun l2 => stateAny_main v lb q a' c' x hA hq ha hc l2
  have m2 := hA.most
  unfold maxLen at m2
  obtain ⟨⟨ao, cb, rfl, -⟩, -, -⟩ := hA
  by_cases l2 : lb.length ≤ 60
  · exact hmain l2
  · clear hmain
    have i2 : (60 : Int) < (lb.length : Int) := by omega
    clear l2
    have E0 := ((Ext.refl w).alloc q.v 32).alloc x.v 38
    go_enter Try.func5, Try.ntmps5
    go_wp2_with fail
    refine (awake9_any _).mono ?_
    rintro e w1 ⟨rfl, e1⟩
    go_wp2
    go_ret
    exact ⟨rfl, E0.trans e1⟩
end Go.Proofs.Ytokekfjbliojhaa

