/-
  DERIVED. MeshTriangles: lists, strips, fans are what the document says.
-/
import Derived.Test.YtcpgcealaomleaaMeshAid
namespace Go.Proofs.Ytcpgcealaomleaa
open Go.RowKit
set_option linter.unusedVariables false

def wantM (kk : Nat) (l : List Int) (i : Nat) : List T3 := if kk = 0 then firsts (at3 l) (i / 3) else if kk = 1 then firsts (strip3 l) (i - 2) else if kk = 2 then firsts (fan3 l) (i - 2) else []
theorem wantM0_yes (l : List Int) (i : Nat) (h : i % 3 = 2) : wantM 0 l (i + 1) = wantM 0 l i ++ [⟨l.getD (i - 2) 0, l.getD (i - 1) 0, l.getD i 0⟩] := by
  show firsts (at3 l) ((i + 1) / 3) = firsts (at3 l) (i / 3) ++ _
  rw [show (i + 1) / 3 = i / 3 + 1 by omega, firsts_succ]
  unfold at3
  rw [show i / 3 * 3 = i - 2 by omega, show i - 2 + 1 = i - 1 by omega, show i - 2 + 2 = i by omega]
theorem wantM0_no (l : List Int) (i : Nat) (h : i % 3 ≠ 2) : wantM 0 l (i + 1) = wantM 0 l i := by
  show firsts (at3 l) ((i + 1) / 3) = firsts (at3 l) (i / 3)
  rw [show (i + 1) / 3 = i / 3 by omega]
theorem wantM1_odd (l : List Int) (i : Nat) (h2 : 2 ≤ i) (h : i % 2 = 1) : wantM 1 l (i + 1) = wantM 1 l i ++ [⟨l.getD (i - 1) 0, l.getD (i - 2) 0, l.getD i 0⟩] := by
  show firsts (strip3 l) (i + 1 - 2) = firsts (strip3 l) (i - 2) ++ _
  rw [show i + 1 - 2 = (i - 2) + 1 by omega, firsts_succ]
  unfold strip3
  rw [if_pos (by omega), show i - 2 + 1 = i - 1 by omega, show i - 2 + 2 = i by omega]
theorem wantM1_even (l : List Int) (i : Nat) (h2 : 2 ≤ i) (h : i % 2 = 0) : wantM 1 l (i + 1) = wantM 1 l i ++ [⟨l.getD (i - 2) 0, l.getD (i - 1) 0, l.getD i 0⟩] := by
  show firsts (strip3 l) (i + 1 - 2) = firsts (strip3 l) (i - 2) ++ _
  rw [show i + 1 - 2 = (i - 2) + 1 by omega, firsts_succ]
  unfold strip3
  rw [if_neg (by omega), show i - 2 + 1 = i - 1 by omega, show i - 2 + 2 = i by omega]
theorem wantM2_all (l : List Int) (i : Nat) (h2 : 2 ≤ i) : wantM 2 l (i + 1) = wantM 2 l i ++ [⟨l.getD 0 0, l.getD (i - 1) 0, l.getD i 0⟩] := by
  show firsts (fan3 l) (i + 1 - 2) = firsts (fan3 l) (i - 2) ++ _
  rw [show i + 1 - 2 = (i - 2) + 1 by omega, firsts_succ]
  unfold fan3
  rw [show i - 2 + 1 = i - 1 by omega, show i - 2 + 2 = i by omega]
theorem wantM3_all (l : List Int) (i : Nat) : wantM 3 l (i + 1) = wantM 3 l i := rfl
theorem wantM_end (kk : Nat) (l : List Int) (i : Nat) (h2 : 2 ≤ i) (h : i = l.length ∨ (i = 2 ∧ l.length ≤ 2)) : wantM kk l i = tris kk l := by
  unfold wantM tris
  by_cases h0 : kk = 0
  · subst h0
    rw [if_pos rfl, if_pos (by decide), show i / 3 = l.length / 3 by omega]
  · by_cases h1 : kk = 1
    · subst h1
      rw [if_neg (by omega), if_pos rfl, if_neg (by decide), if_pos (by decide), show i - 2 = l.length - 2 by omega]
    · by_cases h3 : kk = 2
      · subst h3
        rw [if_neg (by omega), if_neg (by omega), if_pos rfl, if_neg (by decide), if_neg (by decide), if_pos (by decide), show i - 2 = l.length - 2 by omega]
      · rw [if_neg h0, if_neg h1, if_neg h3, if_neg (by omega), if_neg (by omega), if_neg (by omega)]
theorem wantM_length (kk : Nat) (l : List Int) (i : Nat) : (wantM kk l i).length ≤ i := by
  unfold wantM
  split
  · rw [firsts_length]; omega
  · split
    · rw [firsts_length]; omega
    · split
      · rw [firsts_length]; omega
      · simp

set_option maxRecDepth 100000 in
set_option maxHeartbeats 2000000 in
theorem tri_kind0 {w : World} (k : Int) (v : Value) (l : List Int) (hk : 0 ≤ k ∧ k ≤ 255) (h : Arr w .i64 v l) (hbig : l.length ≤ 100) (hkk : k.tmod 4 = 0) : Calls Try.prog 3 #[.int .u8 k, v] w fun e w' => e = .returned (.bool true) ∧ Ext w w' := by
  have hA0 := h
  obtain ⟨⟨ao, c, rfl, hcap, -, -⟩, hmost, -⟩ := h
  have hI : (l.length : Int) ≤ 100 := by omega
  have hE := eq3
  go_enter Try.func3, Try.ntmps3
  go_wp2_with fail
  refine (awake10_any _).mono ?_
  rintro e w1 ⟨rfl, e0⟩
  have hA := hA0.ext e0
  have h000 := Ext.refl w1
  go_wp2_with fail
  go_loopg [7, 5] (l.length - 2) (fun k iv pv wr => ∃ (i : Nat), 2 ≤ i ∧ k = l.length - i ∧ (i ≤ l.length ∨ i = 2) ∧ iv = .int .i64 (i : Int) ∧ OwnG LT wr w1.heap.size pv (wantM 0 l i) ∧ Ext w1 wr)
  case atStart => exact ⟨2, by omega, rfl, by omega, rfl, by rw [show wantM 0 l 2 = [] from rfl]; exact OwnG.nil _ _ _, Ext.refl _⟩
  case round =>
    obtain ⟨i, h2, hik, hil, rfl, o1, e1⟩ := hrel
    by_cases hi : i < l.length
    · have hiI : (i : Int) < (l.length : Int) := by omega
      obtain ⟨b, off, rfl, -, hc⟩ := (hA.ext e1).at i (by omega)
      have c0 := hc 0 (by omega)
      rw [Nat.add_zero] at c0
      have c1 := hc (i - 1) (by omega)
      have c2 := hc (i - 2) (by omega)
      have c3 := hc i (by omega)
      have gne : 0 < l.length := by omega
      have p1 : (0 : Int) ≤ (i : Int) - 1 := by omega
      have p2 : (0 : Int) ≤ (i : Int) - 2 := by omega
      have p3 : ((i : Int) - 1).toNat = i - 1 := by omega
      have p4 : ((i : Int) - 2).toNat = i - 2 := by omega
      have p5 : IntKind.i64.wrap ((i : Int) - 1) = (i : Int) - 1 := by rw [IntKind.wrap_i64]; omega
      have p6 : IntKind.i64.wrap ((i : Int) - 2) = (i : Int) - 2 := by rw [IntKind.wrap_i64]; omega
      have p7 : (i : Int) - 1 < (l.length : Int) := by omega
      have p8 : (i : Int) - 2 < (l.length : Int) := by omega
      have hsz := e1.size
      have hwl := wantM_length 0 l i
      obtain ⟨ao1, cc1, rfl, -, -⟩ := o1.slice
      clear hc
      rcases (by omega : i % 3 = 2 ∨ i % 3 ≠ 2) with hr | hr
      · have hst := Lib.hid (wantM0_yes l i hr)
        have hmI : (i : Int).tmod 3 = 2 := by rw [Int.tmod_eq_emod_of_nonneg (by omega)]; omega
        generalize l.getD (i - 2) 0 = x at *
        generalize l.getD (i - 1) 0 = y at *
        generalize l.getD i 0 = z at *
        have x2 := (Ext.refl wr.drew).alloc #[.int .i64 x, .int .i64 y, .int .i64 z] 26
        have o2 := (o1.ext (Ext.refl wr).drew).ext x2
        have e2 := (e1.drew).trans x2
        have hcn := cells3 wr.drew ⟨x, y, z⟩
        have hzd : wr.drew.heap.size = wr.heap.size := rfl
        rw [hzd] at hcn
        clear o1 e1 x2 hzd
        go_wp2_with fail
        go_region
        all_goals go_wp2_with (at_builtin; refine wpList_append_g1 LT rfl _ _ rfl w1.heap.size _ _ rfl o2 wr.heap.size 1 ⟨x, y, z⟩ rfl hcn (by omega) (by simp; omega) ?_)
        all_goals
          intro v4 w4 o4 K4 hk4
          have e4 := Ext.calm_trans e2 K4 (fun g hg => (o2.lt g (Option.mem_toList.1 hg)).1)
          obtain ⟨ao4, c4', rfl, -, -⟩ := o4.slice
          clear o2 e2 hcn K4 hk4
          go_wp2
          go_roundg (gk - 1)
          case measure => omega
          case rel => exact ⟨i + 1, by omega, by omega, by omega, by simp, by rw [hst.out]; exact o4, e4⟩
      · have hst := Lib.hid (wantM0_no l i hr)
        have hmI : ((i : Int).tmod 3 == 2) = false := by simp; rw [Int.tmod_eq_emod_of_nonneg (by omega)]; omega
        have hmB : ((i : Int).tmod 3 != 2) = true := by simp; rw [Int.tmod_eq_emod_of_nonneg (by omega)]; omega
        go_wp2_with fail
        go_region
        all_goals go_wp2
        all_goals
          go_roundg (gk - 1)
          case measure => omega
          case rel => exact ⟨i + 1, by omega, by omega, by omega, by simp, by rw [hst.out]; exact o1.ext (Ext.refl wr).drew, e1.drew⟩
    · have hwt : wantM 0 l i = tris 0 l := wantM_end 0 l i h2 (by omega)
      rw [hwt] at o1
      have hiI : ¬ ((i : Int) < (l.length : Int)) := by omega
      go_wp2_with fail
      refine (triangles_any _ 0 _ _ (hA.ext e1) (by omega)).mono ?_
      rintro e w3 ⟨v3, rfl, o3, e3⟩
      have o2 := o1.ext e3
      have hl2 := tris_length_le 0 l
      have e13 := (e0.trans e1).trans e3
      obtain ⟨ao2, c2, rfl, -, -⟩ := o2.slice
      obtain ⟨ao3, c3, rfl, -, -⟩ := o3.slice
      clear o1 hwt hA hA0
      generalize tris 0 l = L at *
      have hML : (L.length : Int) ≤ 100 := by omega
      go_wp2_with fail
      go_loopg [83] L.length (fun k iv wr => ∃ (j : Nat), j + k = L.length ∧ iv = .int .i64 j ∧ Ext w3 wr)
      case atStart => exact ⟨0, by omega, rfl, Ext.refl _⟩
      case round =>
        obtain ⟨j, hjk, rfl, q1⟩ := hrel
        by_cases hj : j < L.length
        · have hjI : (j : Int) < (L.length : Int) := by omega
          obtain ⟨g, t, rfl, -, ht, hc⟩ := (o2.ext q1).nth j hj
          obtain ⟨g', t', rfl, -, ht', hc'⟩ := (o3.ext q1).nth j hj
          rw [ht'] at ht
          cases ht
          obtain ⟨c0, c1, c2⟩ := cells_of hc
          obtain ⟨d0, d1, d2⟩ := cells_of hc'
          simp only [LT] at c0 c1 c2 d0 d1 d2
          clear hc hc' ht'
          go_wp2_with fail
          go_region
          all_goals go_wp2
          all_goals
            go_roundg (gk - 1)
            case measure => omega
            case rel => exact ⟨j + 1, by omega, rfl, q1.drew⟩
        · obtain rfl : j = L.length := by omega
          go_wp2
          go_ret
          exact ⟨rfl, e13.trans q1⟩

set_option maxRecDepth 100000 in
set_option maxHeartbeats 2000000 in
theorem tri_kind1 {w : World} (k : Int) (v : Value) (l : List Int) (hk : 0 ≤ k ∧ k ≤ 255) (h : Arr w .i64 v l) (hbig : l.length ≤ 100) (hkk : k.tmod 4 = 1) : Calls Try.prog 3 #[.int .u8 k, v] w fun e w' => e = .returned (.bool true) ∧ Ext w w' := by
  have hA0 := h
  obtain ⟨⟨ao, c, rfl, hcap, -, -⟩, hmost, -⟩ := h
  have hI : (l.length : Int) ≤ 100 := by omega
  have hE := eq3
  go_enter Try.func3, Try.ntmps3
  go_wp2_with fail
  refine (awake10_any _).mono ?_
  rintro e w1 ⟨rfl, e0⟩
  have hA := hA0.ext e0
  have h000 := Ext.refl w1
  go_wp2_with fail
  go_loopg [7, 5] (l.length - 2) (fun k iv pv wr => ∃ (i : Nat), 2 ≤ i ∧ k = l.length - i ∧ (i ≤ l.length ∨ i = 2) ∧ iv = .int .i64 (i : Int) ∧ OwnG LT wr w1.heap.size pv (wantM 1 l i) ∧ Ext w1 wr)
  case atStart => exact ⟨2, by omega, rfl, by omega, rfl, by rw [show wantM 1 l 2 = [] from rfl]; exact OwnG.nil _ _ _, Ext.refl _⟩
  case round =>
    obtain ⟨i, h2, hik, hil, rfl, o1, e1⟩ := hrel
    by_cases hi : i < l.length
    · have hiI : (i : Int) < (l.length : Int) := by omega
      obtain ⟨b, off, rfl, -, hc⟩ := (hA.ext e1).at i (by omega)
      have c0 := hc 0 (by omega)
      rw [Nat.add_zero] at c0
      have c1 := hc (i - 1) (by omega)
      have c2 := hc (i - 2) (by omega)
      have c3 := hc i (by omega)
      have gne : 0 < l.length := by omega
      have p1 : (0 : Int) ≤ (i : Int) - 1 := by omega
      have p2 : (0 : Int) ≤ (i : Int) - 2 := by omega
      have p3 : ((i : Int) - 1).toNat = i - 1 := by omega
      have p4 : ((i : Int) - 2).toNat = i - 2 := by omega
      have p5 : IntKind.i64.wrap ((i : Int) - 1) = (i : Int) - 1 := by rw [IntKind.wrap_i64]; omega
      have p6 : IntKind.i64.wrap ((i : Int) - 2) = (i : Int) - 2 := by rw [IntKind.wrap_i64]; omega
      have p7 : (i : Int) - 1 < (l.length : Int) := by omega
      have p8 : (i : Int) - 2 < (l.length : Int) := by omega
      have hsz := e1.size
      have hwl := wantM_length 1 l i
      obtain ⟨ao1, cc1, rfl, -, -⟩ := o1.slice
      clear hc
      rcases (by omega : i % 2 = 1 ∨ i % 2 = 0) with hr | hr
      · have hst := Lib.hid (wantM1_odd l i h2 hr)
        have hmI : (i : Int).tmod 2 = 1 := by rw [Int.tmod_eq_emod_of_nonneg (by omega)]; omega
        generalize l.getD (i - 2) 0 = x at *
        generalize l.getD (i - 1) 0 = y at *
        generalize l.getD i 0 = z at *
        have x2 := (Ext.refl wr.drew).alloc #[.int .i64 y, .int .i64 x, .int .i64 z] 26
        have o2 := (o1.ext (Ext.refl wr).drew).ext x2
        have e2 := (e1.drew).trans x2
        have hcn := cells3 wr.drew ⟨y, x, z⟩
        have hzd : wr.drew.heap.size = wr.heap.size := rfl
        rw [hzd] at hcn
        clear o1 e1 x2 hzd
        go_wp2_with fail
        go_region
        all_goals go_wp2_with (at_builtin; refine wpList_append_g1 LT rfl _ _ rfl w1.heap.size _ _ rfl o2 wr.heap.size 1 ⟨y, x, z⟩ rfl hcn (by omega) (by simp; omega) ?_)
        all_goals
          intro v4 w4 o4 K4 hk4
          have e4 := Ext.calm_trans e2 K4 (fun g hg => (o2.lt g (Option.mem_toList.1 hg)).1)
          obtain ⟨ao4, c4', rfl, -, -⟩ := o4.slice
          clear o2 e2 hcn K4 hk4
          go_wp2
          go_roundg (gk - 1)
          case measure => omega
          case rel => exact ⟨i + 1, by omega, by omega, by omega, by simp, by rw [hst.out]; exact o4, e4⟩
      · have hst := Lib.hid (wantM1_even l i h2 hr)
        have hmI : (i : Int).tmod 2 = 0 := by rw [Int.tmod_eq_emod_of_nonneg (by omega)]; omega
        generalize l.getD (i - 2) 0 = x at *
        generalize l.getD (i - 1) 0 = y at *
        generalize l.getD i 0 = z at *
        have x2 := (Ext.refl wr.drew).alloc #[.int .i64 x, .int .i64 y, .int .i64 z] 26
        have o2 := (o1.ext (Ext.refl wr).drew).ext x2
        have e2 := (e1.drew).trans x2
        have hcn := cells3 wr.drew ⟨x, y, z⟩
        have hzd : wr.drew.heap.size = wr.heap.size := rfl
        rw [hzd] at hcn
        clear o1 e1 x2 hzd
        go_wp2_with fail
        go_region
        all_goals go_wp2_with (at_builtin; refine wpList_append_g1 LT rfl _ _ rfl w1.heap.size _ _ rfl o2 wr.heap.size 1 ⟨x, y, z⟩ rfl hcn (by omega) (by simp; omega) ?_)
        all_goals
          intro v4 w4 o4 K4 hk4
          have e4 := Ext.calm_trans e2 K4 (fun g hg => (o2.lt g (Option.mem_toList.1 hg)).1)
          obtain ⟨ao4, c4', rfl, -, -⟩ := o4.slice
          clear o2 e2 hcn K4 hk4
          go_wp2
          go_roundg (gk - 1)
          case measure => omega
          case rel => exact ⟨i + 1, by omega, by omega, by omega, by simp, by rw [hst.out]; exact o4, e4⟩
    · have hwt : wantM 1 l i = tris 1 l := wantM_end 1 l i h2 (by omega)
      rw [hwt] at o1
      have hiI : ¬ ((i : Int) < (l.length : Int)) := by omega
      go_wp2_with fail
      refine (triangles_any _ 1 _ _ (hA.ext e1) (by omega)).mono ?_
      rintro e w3 ⟨v3, rfl, o3, e3⟩
      have o2 := o1.ext e3
      have hl2 := tris_length_le 1 l
      have e13 := (e0.trans e1).trans e3
      obtain ⟨ao2, c2, rfl, -, -⟩ := o2.slice
      obtain ⟨ao3, c3, rfl, -, -⟩ := o3.slice
      clear o1 hwt hA hA0
      generalize tris 1 l = L at *
      have hML : (L.length : Int) ≤ 100 := by omega
      go_wp2_with fail
      go_loopg [83] L.length (fun k iv wr => ∃ (j : Nat), j + k = L.length ∧ iv = .int .i64 j ∧ Ext w3 wr)
      case atStart => exact ⟨0, by omega, rfl, Ext.refl _⟩
      case round =>
        obtain ⟨j, hjk, rfl, q1⟩ := hrel
        by_cases hj : j < L.length
        · have hjI : (j : Int) < (L.length : Int) := by omega
          obtain ⟨g, t, rfl, -, ht, hc⟩ := (o2.ext q1).nth j hj
          obtain ⟨g', t', rfl, -, ht', hc'⟩ := (o3.ext q1).nth j hj
          rw [ht'] at ht
          cases ht
          obtain ⟨c0, c1, c2⟩ := cells_of hc
          obtain ⟨d0, d1, d2⟩ := cells_of hc'
          simp only [LT] at c0 c1 c2 d0 d1 d2
          clear hc hc' ht'
          go_wp2_with fail
          go_region
          all_goals go_wp2
          all_goals
            go_roundg (gk - 1)
            case measure => omega
            case rel => exact ⟨j + 1, by omega, rfl, q1.drew⟩
        · obtain rfl : j = L.length := by omega
          go_wp2
          go_ret
          exact ⟨rfl, e13.trans q1⟩

set_option maxRecDepth 100000 in
set_option maxHeartbeats 2000000 in
theorem tri_kind2 {w : World} (k : Int) (v : Value) (l : List Int) (hk : 0 ≤ k ∧ k ≤ 255) (h : Arr w .i64 v l) (hbig : l.length ≤ 100) (hkk : k.tmod 4 = 2) : Calls Try.prog 3 #[.int .u8 k, v] w fun e w' => e = .returned (.bool true) ∧ Ext w w' := by
  have hA0 := h
  obtain ⟨⟨ao, c, rfl, hcap, -, -⟩, hmost, -⟩ := h
  have hI : (l.length : Int) ≤ 100 := by omega
  have hE := eq3
  go_enter Try.func3, Try.ntmps3
  go_wp2_with fail
  refine (awake10_any _).mono ?_
  rintro e w1 ⟨rfl, e0⟩
  have hA := hA0.ext e0
  have h000 := Ext.refl w1
  go_wp2_with fail
  go_loopg [7, 5] (l.length - 2) (fun k iv pv wr => ∃ (i : Nat), 2 ≤ i ∧ k = l.length - i ∧ (i ≤ l.length ∨ i = 2) ∧ iv = .int .i64 (i : Int) ∧ OwnG LT wr w1.heap.size pv (wantM 2 l i) ∧ Ext w1 wr)
  case atStart => exact ⟨2, by omega, rfl, by omega, rfl, by rw [show wantM 2 l 2 = [] from rfl]; exact OwnG.nil _ _ _, Ext.refl _⟩
  case round =>
    obtain ⟨i, h2, hik, hil, rfl, o1, e1⟩ := hrel
    by_cases hi : i < l.length
    · have hiI : (i : Int) < (l.length : Int) := by omega
      obtain ⟨b, off, rfl, -, hc⟩ := (hA.ext e1).at i (by omega)
      have c0 := hc 0 (by omega)
      rw [Nat.add_zero] at c0
      have c1 := hc (i - 1) (by omega)
      have c2 := hc (i - 2) (by omega)
      have c3 := hc i (by omega)
      have gne : 0 < l.length := by omega
      have p1 : (0 : Int) ≤ (i : Int) - 1 := by omega
      have p2 : (0 : Int) ≤ (i : Int) - 2 := by omega
      have p3 : ((i : Int) - 1).toNat = i - 1 := by omega
      have p4 : ((i : Int) - 2).toNat = i - 2 := by omega
      have p5 : IntKind.i64.wrap ((i : Int) - 1) = (i : Int) - 1 := by rw [IntKind.wrap_i64]; omega
      have p6 : IntKind.i64.wrap ((i : Int) - 2) = (i : Int) - 2 := by rw [IntKind.wrap_i64]; omega
      have p7 : (i : Int) - 1 < (l.length : Int) := by omega
      have p8 : (i : Int) - 2 < (l.length : Int) := by omega
      have hsz := e1.size
      have hwl := wantM_length 2 l i
      obtain ⟨ao1, cc1, rfl, -, -⟩ := o1.slice
      clear hc
      · have hst := Lib.hid (wantM2_all l i h2)
        generalize l.getD (i - 2) 0 = x at *
        generalize l.getD (i - 1) 0 = y at *
        generalize l.getD i 0 = z at *
        generalize l.getD 0 0 = u at *
        have x2 := (Ext.refl wr.drew).alloc #[.int .i64 u, .int .i64 y, .int .i64 z] 26
        have o2 := (o1.ext (Ext.refl wr).drew).ext x2
        have e2 := (e1.drew).trans x2
        have hcn := cells3 wr.drew ⟨u, y, z⟩
        have hzd : wr.drew.heap.size = wr.heap.size := rfl
        rw [hzd] at hcn
        clear o1 e1 x2 hzd
        go_wp2_with fail
        go_region
        all_goals go_wp2_with (at_builtin; refine wpList_append_g1 LT rfl _ _ rfl w1.heap.size _ _ rfl o2 wr.heap.size 1 ⟨u, y, z⟩ rfl hcn (by omega) (by simp; omega) ?_)
        all_goals
          intro v4 w4 o4 K4 hk4
          have e4 := Ext.calm_trans e2 K4 (fun g hg => (o2.lt g (Option.mem_toList.1 hg)).1)
          obtain ⟨ao4, c4', rfl, -, -⟩ := o4.slice
          clear o2 e2 hcn K4 hk4
          go_wp2
          go_roundg (gk - 1)
          case measure => omega
          case rel => exact ⟨i + 1, by omega, by omega, by omega, by simp, by rw [hst.out]; exact o4, e4⟩
    · have hwt : wantM 2 l i = tris 2 l := wantM_end 2 l i h2 (by omega)
      rw [hwt] at o1
      have hiI : ¬ ((i : Int) < (l.length : Int)) := by omega
      go_wp2_with fail
      refine (triangles_any _ 2 _ _ (hA.ext e1) (by omega)).mono ?_
      rintro e w3 ⟨v3, rfl, o3, e3⟩
      have o2 := o1.ext e3
      have hl2 := tris_length_le 2 l
      have e13 := (e0.trans e1).trans e3
      obtain ⟨ao2, c2, rfl, -, -⟩ := o2.slice
      obtain ⟨ao3, c3, rfl, -, -⟩ := o3.slice
      clear o1 hwt hA hA0
      generalize tris 2 l = L at *
      have hML : (L.length : Int) ≤ 100 := by omega
      go_wp2_with fail
      go_loopg [83] L.length (fun k iv wr => ∃ (j : Nat), j + k = L.length ∧ iv = .int .i64 j ∧ Ext w3 wr)
      case atStart => exact ⟨0, by omega, rfl, Ext.refl _⟩
      case round =>
        obtain ⟨j, hjk, rfl, q1⟩ := hrel
        by_cases hj : j < L.length
        · have hjI : (j : Int) < (L.length : Int) := by omega
          obtain ⟨g, t, rfl, -, ht, hc⟩ := (o2.ext q1).nth j hj
          obtain ⟨g', t', rfl, -, ht', hc'⟩ := (o3.ext q1).nth j hj
          rw [ht'] at ht
          cases ht
          obtain ⟨c0, c1, c2⟩ := cells_of hc
          obtain ⟨d0, d1, d2⟩ := cells_of hc'
          simp only [LT] at c0 c1 c2 d0 d1 d2
          clear hc hc' ht'
          go_wp2_with fail
          go_region
          all_goals go_wp2
          all_goals
            go_roundg (gk - 1)
            case measure => omega
            case rel => exact ⟨j + 1, by omega, rfl, q1.drew⟩
        · obtain rfl : j = L.length := by omega
          go_wp2
          go_ret
          exact ⟨rfl, e13.trans q1⟩

set_option maxRecDepth 100000 in
set_option maxHeartbeats 2000000 in
theorem tri_kind3 {w : World} (k : Int) (v : Value) (l : List Int) (hk : 0 ≤ k ∧ k ≤ 255) (h : Arr w .i64 v l) (hbig : l.length ≤ 100) (hkk : k.tmod 4 = 3) : Calls Try.prog 3 #[.int .u8 k, v] w fun e w' => e = .returned (.bool true) ∧ Ext w w' := by
  have hA0 := h
  obtain ⟨⟨ao, c, rfl, hcap, -, -⟩, hmost, -⟩ := h
  have hI : (l.length : Int) ≤ 100 := by omega
  have hE := eq3
  go_enter Try.func3, Try.ntmps3
  go_wp2_with fail
  refine (awake10_any _).mono ?_
  rintro e w1 ⟨rfl, e0⟩
  have hA := hA0.ext e0
  have h000 := Ext.refl w1
  go_wp2_with fail
  go_loopg [7, 5] (l.length - 2) (fun k iv pv wr => ∃ (i : Nat), 2 ≤ i ∧ k = l.length - i ∧ (i ≤ l.length ∨ i = 2) ∧ iv = .int .i64 (i : Int) ∧ OwnG LT wr w1.heap.size pv (wantM 3 l i) ∧ Ext w1 wr)
  case atStart => exact ⟨2, by omega, rfl, by omega, rfl, by rw [show wantM 3 l 2 = [] from rfl]; exact OwnG.nil _ _ _, Ext.refl _⟩
  case round =>
    obtain ⟨i, h2, hik, hil, rfl, o1, e1⟩ := hrel
    by_cases hi : i < l.length
    · have hiI : (i : Int) < (l.length : Int) := by omega
      obtain ⟨b, off, rfl, -, hc⟩ := (hA.ext e1).at i (by omega)
      have c0 := hc 0 (by omega)
      rw [Nat.add_zero] at c0
      have c1 := hc (i - 1) (by omega)
      have c2 := hc (i - 2) (by omega)
      have c3 := hc i (by omega)
      have gne : 0 < l.length := by omega
      have p1 : (0 : Int) ≤ (i : Int) - 1 := by omega
      have p2 : (0 : Int) ≤ (i : Int) - 2 := by omega
      have p3 : ((i : Int) - 1).toNat = i - 1 := by omega
      have p4 : ((i : Int) - 2).toNat = i - 2 := by omega
      have p5 : IntKind.i64.wrap ((i : Int) - 1) = (i : Int) - 1 := by rw [IntKind.wrap_i64]; omega
      have p6 : IntKind.i64.wrap ((i : Int) - 2) = (i : Int) - 2 := by rw [IntKind.wrap_i64]; omega
      have p7 : (i : Int) - 1 < (l.length : Int) := by omega
      have p8 : (i : Int) - 2 < (l.length : Int) := by omega
      have hsz := e1.size
      have hwl := wantM_length 3 l i
      obtain ⟨ao1, cc1, rfl, -, -⟩ := o1.slice
      clear hc
      · have hst := Lib.hid (wantM3_all l i)
        go_wp2_with fail
        go_region
        all_goals go_wp2
        all_goals
          go_roundg (gk - 1)
          case measure => omega
          case rel => exact ⟨i + 1, by omega, by omega, by omega, by simp, by rw [hst.out]; exact o1.ext (Ext.refl wr).drew, e1.drew⟩
    · have hwt : wantM 3 l i = tris 3 l := wantM_end 3 l i h2 (by omega)
      rw [hwt] at o1
      have hiI : ¬ ((i : Int) < (l.length : Int)) := by omega
      go_wp2_with fail
      refine (triangles_any _ 3 _ _ (hA.ext e1) (by omega)).mono ?_
      rintro e w3 ⟨v3, rfl, o3, e3⟩
      have o2 := o1.ext e3
      have hl2 := tris_length_le 3 l
      have e13 := (e0.trans e1).trans e3
      obtain ⟨ao2, c2, rfl, -, -⟩ := o2.slice
      obtain ⟨ao3, c3, rfl, -, -⟩ := o3.slice
      clear o1 hwt hA hA0
      generalize tris 3 l = L at *
      have hML : (L.length : Int) ≤ 100 := by omega
      go_wp2_with fail
      go_loopg [83] L.length (fun k iv wr => ∃ (j : Nat), j + k = L.length ∧ iv = .int .i64 j ∧ Ext w3 wr)
      case atStart => exact ⟨0, by omega, rfl, Ext.refl _⟩
      case round =>
        obtain ⟨j, hjk, rfl, q1⟩ := hrel
        by_cases hj : j < L.length
        · have hjI : (j : Int) < (L.length : Int) := by omega
          obtain ⟨g, t, rfl, -, ht, hc⟩ := (o2.ext q1).nth j hj
          obtain ⟨g', t', rfl, -, ht', hc'⟩ := (o3.ext q1).nth j hj
          rw [ht'] at ht
          cases ht
          obtain ⟨c0, c1, c2⟩ := cells_of hc
          obtain ⟨d0, d1, d2⟩ := cells_of hc'
          simp only [LT] at c0 c1 c2 d0 d1 d2
          clear hc hc' ht'
          go_wp2_with fail
          go_region
          all_goals go_wp2
          all_goals
            go_roundg (gk - 1)
            case measure => omega
            case rel => exact ⟨j + 1, by omega, rfl, q1.drew⟩
        · obtain rfl : j = L.length := by omega
          go_wp2
          go_ret
          exact ⟨rfl, e13.trans q1⟩

set_option maxRecDepth 100000 in
theorem meshTriangles_row {w : World} (k : Int) (v : Value) (l : List Int) (hk : 0 ≤ k ∧ k ≤ 255) (h : Arr w .i64 v l) : Calls Try.prog 3 #[.int .u8 k, v] w fun e w' => e = .returned (.bool true) ∧ Ext w w' := by
  by_cases hbig : 100 < l.length
  · obtain ⟨⟨ao, c, rfl, hcap, -, -⟩, hmost, -⟩ := h
    have hI : 100 < (l.length : Int) := by omega
    go_enter Try.func3, Try.ntmps3
    go_wp2_with fail
    refine (awake10_any _).mono ?_
    rintro e w1 ⟨rfl, e1⟩
    go_wp2
    go_ret
    exact ⟨rfl, e1⟩
  · have hc : k.tmod 4 = 0 ∨ k.tmod 4 = 1 ∨ k.tmod 4 = 2 ∨ k.tmod 4 = 3 := by rw [Int.tmod_eq_emod_of_nonneg hk.1]; omega
    rcases hc with e | e | e | e
    · exact tri_kind0 k v l hk h (by omega) e
    · exact tri_kind1 k v l hk h (by omega) e
    · exact tri_kind2 k v l hk h (by omega) e
    · exact tri_kind3 k v l hk h (by omega) e
end Go.Proofs.Ytcpgcealaomleaa
