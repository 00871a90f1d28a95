/-
  DERIVED. THE WALK of StoreFills.
-/
import Derived.Test.YtmoihbpjcdmmbaaStoreFillsParts
import Derived.RegionTactic
namespace Go.Proofs.Ytmoihbpjcdmmbaa
open Go.RowKit Go.Maps
set_option linter.unusedVariables false

def blkS (s : Int) (y : Int) : List Int := blkL ((s + (y - 1)) % 256) 64
/-- i of n blocks are put -/
def fSt (s : Int) (n i : Nat) : DSt := ⟨[], [], fun _ => none, fun y => if 1 ≤ y ∧ y ≤ (i : Int) then some (blkS s y) else none, i, n, i, i, 0, i⟩
theorem fSt_with (s : Int) (n i : Nat) : (fSt s n i).with_ (blkL ((s + i) % 256) 64) = fSt s n (i + 1) := by
  unfold DSt.with_ fSt
  simp only [DSt.mk.injEq, true_and]
  refine ⟨?_, by omega⟩
  funext y
  by_cases h : y = ((i + 1 : Nat) : Int)
  · rw [if_pos h, if_pos (by omega), h, blkS]
    congr 3
    omega
  · rw [if_neg h]
    by_cases h2 : 1 ≤ y ∧ y ≤ (i : Int)
    · rw [if_pos h2, if_pos (by omega)]
    · rw [if_neg h2, if_neg (by omega)]
/-- the first k of A are taken -/
def tSt (s : Int) (n : Nat) (A : List Int) (k : Nat) : DSt := ⟨[], [], fun _ => none, fun y => if (1 ≤ y ∧ y ≤ (n : Int)) ∧ ¬ (y - 1) ∈ A.take k then some (blkS s y) else none, n - k, n, n, n + 1, k, n⟩
theorem tSt_start (s : Int) (n : Nat) (A : List Int) : { fSt s n n with puts := n + 1 } = tSt s n A 0 := by
  unfold fSt tSt
  simp only [List.take_zero, List.not_mem_nil, not_false_iff, and_true, Nat.sub_zero]
theorem tSt_step (s : Int) (n : Nat) (A : List Int) (k : Nat) (a : Int) (ha : A[k]? = some a) : { (tSt s n A k).without (a + 1) with takes := k + 1 } = tSt s n A (k + 1) := by
  unfold tSt DSt.without
  simp only [DSt.mk.injEq, true_and, and_true]
  refine ⟨?_, by omega⟩
  funext y
  have ht : A.take (k + 1) = A.take k ++ [a] := by rw [List.take_add_one, ha]; rfl
  by_cases h : y = a + 1
  · rw [if_pos h, if_neg]
    rintro ⟨_, h2⟩
    apply h2
    rw [ht, h]
    simp
  · rw [if_neg h]
    by_cases h2 : (1 ≤ y ∧ y ≤ (n : Int)) ∧ ¬ (y - 1) ∈ A.take k
    · rw [if_pos h2, if_pos]
      refine ⟨h2.1, ?_⟩
      rw [ht]
      intro h3
      rcases List.mem_append.1 h3 with h4 | h4
      · exact h2.2 h4
      · have : y - 1 = a := by simpa using h4
        omega
    · rw [if_neg h2, if_neg]
      rintro ⟨h3, h4⟩
      exact h2 ⟨h3, fun h5 => h4 (by rw [ht]; exact List.mem_append_left _ h5)⟩
theorem tSt_has (s : Int) (n : Nat) (A : List Int) (k : Nat) (a : Int) (ha : 0 ≤ a ∧ a < (n : Int)) (hn : ¬ a ∈ A.take k) : (tSt s n A k).bl (a + 1) = some (blkL ((s + a) % 256) 64) := by
  show (if (1 ≤ a + 1 ∧ a + 1 ≤ (n : Int)) ∧ ¬ (a + 1 - 1) ∈ A.take k then some (blkS s (a + 1)) else none) = _
  have e : a + 1 - 1 = a := by omega
  rw [e, if_pos ⟨by omega, hn⟩, blkS, e]
theorem tSt_gone (s : Int) (n : Nat) (A : List Int) (k : Nat) (a : Int) (hk : A[k]? = some a) : (tSt s n A (k + 1)).bl (a + 1) = none := by
  show (if (1 ≤ a + 1 ∧ a + 1 ≤ (n : Int)) ∧ ¬ (a + 1 - 1) ∈ A.take (k + 1) then some (blkS s (a + 1)) else none) = _
  rw [if_neg]
  rintro ⟨_, h⟩
  apply h
  rw [List.take_add_one, hk, show a + 1 - 1 = a by omega]
  simp
theorem nodup_take {A : List Int} (h : A.Nodup) {k : Nat} {a : Int} (ha : A[k]? = some a) : ¬ a ∈ A.take k := by
  intro hin
  obtain ⟨j, hj, e⟩ := List.mem_iff_getElem.1 hin
  have hj1 : j < k := by simp at hj; omega
  have hk := (List.getElem?_eq_some_iff.1 ha)
  have := (List.pairwise_iff_getElem.1 h) j k (by simp at hj; omega) hk.1 hj1
  rw [List.getElem_take] at e
  exact this (e.trans hk.2.symm)

theorem swap_perm {A : List Int} {i j : Nat} {x z : Int} (hi : A[i]? = some x) (hj : A[j]? = some z) : ((A.set i z).set j x).Perm A := by
  obtain ⟨h1, e1⟩ := List.getElem?_eq_some_iff.1 hi
  obtain ⟨h2, e2⟩ := List.getElem?_eq_some_iff.1 hj
  subst e1 e2
  exact List.set_set_perm h1 h2
def idG (k : Nat) : Int := (k : Int) + 1
def atG (k : Nat) : Int := (k : Int)

set_option maxRecDepth 100000 in
set_option maxHeartbeats 4000000 in
theorem storeFills_row {w : World} (room : Int) (v1 : Value) (ord : List Int) (seed : Int) (hr : 0 ≤ room ∧ room ≤ 255) (h1 : Arr w .u8 v1 ord) (hs : 0 ≤ seed ∧ seed ≤ 255) :
    Calls Try.prog 6 #[.int .u8 room, v1, .int .u8 seed] w fun e w' => e = .returned (.bool true) ∧ Ext w w' := by
  obtain ⟨r, rfl⟩ : ∃ r : Nat, room = r := ⟨room.toNat, by omega⟩
  obtain ⟨n, hn⟩ : ∃ n : Nat, n = r % 12 := ⟨_, rfl⟩
  have hn12 : n < 12 := by omega
  have hnr : (r : Int) % 12 = (n : Int) := by omega
  have hrm : (min (max (n : Int) 0) 4096).toNat = n := by omega
  clear hn
  have hA1 := h1
  have hmost := h1.most
  unfold maxLen at hmost
  obtain ⟨⟨ao, c1, rfl, -, -, -⟩, -, -⟩ := h1
  obtain ⟨Z, hmk, hZ⟩ := makeNI n (by omega)
  have HZ := Lib.hid hZ
  clear hZ
  go_enter Try.func6, Try.ntmps6
  go_wp2_with fail
  refine (awake6_any _).mono ?_
  rintro e w1 ⟨rfl, e1⟩
  go_wp2_with fail
  refine (new_none _ n (by omega)).mono ?_
  rintro e w2 ⟨bd, F, R, rfl, D2, x2, hF2, hR2⟩
  have E2 := e1.trans x2
  have z1 := e1.size
  have z2 := x2.size
  rw [hrm] at D2
  have D2' : Dev w2 F R bd (fSt seed n 0) := by
    have : D0 n = fSt seed n 0 := by
      unfold D0 fSt
      congr 1
      funext y
      rw [if_neg]
      omega
    exact this ▸ D2
  have hlt2 := D2.lt
  clear hrm D2
  have E3 := E2.obj Z
  have D3 := D2'.ext ((Ext.refl w2).obj Z)
  have o3 := HZ.out w2
  rw [← partL_zero idG] at o3
  have hgF : w2.heap.size ∉ F := fun h => by have := hlt2.1 _ h; omega
  have hgR : w2.heap.size ∉ R := fun h => by have := hlt2.2 _ h; omega
  have hFw : ∀ x ∈ F, w.heap.size ≤ x := fun x hx => by have := hF2 x hx; omega
  have hRw : ∀ x ∈ R, w.heap.size ≤ x := fun x hx => by have := hR2 x hx; omega
  have hgi : w.heap.size ≤ w2.heap.size := E2.size
  have hgl : w2.heap.size < (w2.alloc Z).heap.size := by simp
  go_wp2
  clear D2' hlt2 hF2 hR2 x2 e1 z1 z2 E2
  generalize w2.alloc Z = w3 at *
  generalize w2.heap.size = gi at *
  go_loopg [37] n (fun k iv wr => ∃ (i : Nat) (F' : List Nat), i + k = n ∧ iv = .int .i64 i ∧ Dev wr F' R bd (fSt seed n i) ∧ OwnI wr gi (.slice (some ⟨gi, 0, none⟩) n n) (partL idG n i) ∧ gi ∉ F' ∧ (∀ x ∈ F', w.heap.size ≤ x) ∧ Ext w wr)
  case atStart => exact ⟨0, F, by omega, rfl, D3, o3, hgF, hFw, E3⟩
  case round =>
    clear D3 o3 hgF hFw E3 hgl
    obtain ⟨i, F1, hik, rfl, D4, o4, hgF, hFw, E4⟩ := hrel
    have hmod := Int.emod_lt_of_pos (seed + (i : Int)) (show (0 : Int) < 256 by omega)
    have hmod0 := Int.emod_nonneg (seed + (i : Int)) (show (256 : Int) ≠ 0 by omega)
    by_cases hi : i < n
    · have hi' : (i : Int) < (n : Int) := by omega
      go_wp2_with fail
      refine (block_any _ _ (by omega) false).mono ?_
      rintro e w5 ⟨v5, rfl, o5, x5⟩
      have D5 := D4.ext x5
      have E5 := E4.trans x5
      have hl4 := D4.lt.1
      go_wp2_with fail
      refine (dev_Put _ F1 R bd _ D5 _ (blkL ((seed + (i : Int)) % 256) 64) (o5.arr (blkL_bd _ _)) (fun w' hc => (o5.calm hc (fun k hk hin => by
        have h1 := (o5.lt k hk).1
        have h2 := hl4 k hin
        omega)).arr (blkL_bd _ _)) (blkL_length _ _) (by show i ≤ 1000000; omega) (by show i ≤ 1000000; omega) (by show i < n; omega) (by simp [fSt]) (by
          show (if 1 ≤ ((i + 1 : Nat) : Int) ∧ ((i + 1 : Nat) : Int) ≤ (i : Int) then some (blkS seed ((i + 1 : Nat) : Int)) else none) = none
          rw [if_neg]
          omega)).mono ?_
      rintro e w6 ⟨he, g, D6, K6⟩
      have he' : e = .returned (.tuple #[.int .i64 ((i : Int) + 1), .int .i64 0]) := he
      subst he'
      rw [fSt_with] at D6
      have hx4 := x5.size
      have E6 := Step.ext E5 K6 hFw
      have hFw6 := K6.above hFw E5.size
      have o6 := ((o4.ext x5).calm K6.1 (fun k hk hin => by
        obtain rfl : gi = k := Option.some.inj hk
        exact hgF hin))
      have hgF6 : gi ∉ g :: F1 := fun hin => by
        rcases K6.2 gi hin with h | h
        · exact hgF h
        · have := (o4.lt gi rfl).2
          omega
      have hget := partL_get idG n i i hi
      rw [if_neg (by omega)] at hget
      have hc6 := o6.at (partL_length _ _ _).symm hget
      have hf6 := o6.thaw (partL_length _ _ _).symm i
      have o7 := o6.put (partL_length _ _ _).symm i (idG i)
      rw [partL_set _ _ _ hi] at o7
      have K7 := calm_set w6 gi i (.int .i64 (idG i))
      have D7 := D6.calm K7 (by
        intro k hk _
        obtain rfl : k = gi := by simpa using hk
        exact ⟨hgF6, hgR⟩)
      have E7 := E6.setCell (p := ⟨gi, i, none⟩) hgi (.int .i64 (idG i))
      clear he D6 D5 D4 K6 x5 o5 o4 hget hl4 K7
      go_wp2
      go_roundg (gk - 1)
      case measure => omega
      case rel => exact ⟨i + 1, g :: F1, by omega, rfl, D7, o7, hgF6, hFw6, E7⟩
    · obtain rfl : n = i := by omega
      clear hmod hmod0
      go_wp2_with fail
      refine (block_any _ 1 (by omega) false).mono ?_
      rintro e w5 ⟨v5, rfl, o5, x5⟩
      have D5 := D4.ext x5
      have E5 := E4.trans x5
      go_wp2_with fail
      refine (dev_Put_full _ F1 R bd _ D5 _ (blkL 1 64) (o5.arr (blkL_bd _ _)) (blkL_length _ _) (by show n ≤ 1000000; omega) (Nat.le_refl n)).mono ?_
      rintro e w6 ⟨rfl, D6, K6⟩
      have hx4 := x5.size
      have E6 := Ext.calm_trans E5 K6 hFw
      have o6 := ((o4.ext x5).calm K6 (fun k hk hin => by
        obtain rfl : gi = k := Option.some.inj hk
        exact hgF hin))
      have D6s : ∀ A, Dev w6 F1 R bd (tSt seed n A 0) := fun A => by
        rw [← tSt_start]
        exact D6
      clear D5 D4 K6 x5 o5 o4
      go_wp2_with fail
      refine (dev_Used _ F1 R bd _ D6).mono ?_
      rintro e w7 ⟨rfl, rfl⟩
      have hus : ({ fSt seed n n with puts := (fSt seed n n).puts + 1 } : DSt).s = n := rfl
      rw [hus]
      have hlt6 := (D6s []).lt
      have hg6 := (o6.lt gi rfl).2
      have D7s : ∀ A, Dev (w6.alloc Z) F1 R bd (tSt seed n A 0) := fun A => (D6s A).ext ((Ext.refl w6).obj Z)
      have o7 := o6.ext ((Ext.refl w6).obj Z)
      have E7 := E6.obj Z
      have a7 := HZ.out w6
      rw [← partL_zero atG] at a7
      have haF : w6.heap.size ∉ F1 := fun h => by have := hlt6.1 _ h; omega
      have haR : w6.heap.size ∉ R := fun h => by have := hlt6.2 _ h; omega
      have hag : w6.heap.size ≠ gi := by omega
      have haw := E6.size
      clear D6 D6s o6
      go_wp2
      clear hlt6 E6 hg6
      generalize w6.alloc Z = w7 at *
      generalize w6.heap.size = ga at *
      go_loopg [75] n (fun k iv wr => ∃ (i : Nat), i + k = n ∧ iv = .int .i64 i ∧ (∀ A, Dev wr F1 R bd (tSt seed n A 0)) ∧ OwnI wr gi (.slice (some ⟨gi, 0, none⟩) n n) (partL idG n n) ∧ OwnI wr ga (.slice (some ⟨ga, 0, none⟩) n n) (partL atG n i) ∧ Ext w wr)
      case atStart => exact ⟨0, by omega, rfl, D7s, o7, a7, E7⟩
      case round =>
        clear D7s o7 a7 E7
        obtain ⟨i, hik2, rfl, D8, o8, a8, E8⟩ := hrel
        by_cases hi : i < n
        · have hi' : (i : Int) < (n : Int) := by omega
          have hget := partL_get atG n i i hi
          rw [if_neg (by omega)] at hget
          have hc8 := a8.at (partL_length _ _ _).symm hget
          have hf8 := a8.thaw (partL_length _ _ _).symm i
          have a9 := a8.put (partL_length _ _ _).symm i (atG i)
          rw [partL_set _ _ _ hi] at a9
          have K9 := calm_set wr ga i (.int .i64 (atG i))
          have D9 : ∀ A, Dev (wr.setCell ⟨ga, i, none⟩ (.int .i64 (atG i))) F1 R bd (tSt seed n A 0) := fun A => (D8 A).calm K9 (by
            intro k hk _
            obtain rfl : k = ga := by simpa using hk
            exact ⟨haF, haR⟩)
          have o9 := o8.calm K9 (fun k hk => by
            obtain rfl : gi = k := Option.some.inj hk
            simpa using Ne.symm hag)
          have E9 := E8.setCell (p := ⟨ga, i, none⟩) haw (.int .i64 (atG i))
          clear D8 o8 a8 E8 K9 hget
          go_wp2
          go_roundg (gk - 1)
          case measure => omega
          case rel => exact ⟨i + 1, by omega, rfl, D9, o9, a9, E9⟩
        · obtain rfl : n = i := by omega
          go_wp2
          clear hmk HZ
          go_loopg [85] n (fun k iv wr => ∃ (i : Nat) (A : List Int), i + k = n ∧ iv = .int .i64 i ∧ (∀ A, Dev wr F1 R bd (tSt seed n A 0)) ∧ OwnI wr gi (.slice (some ⟨gi, 0, none⟩) n n) (partL idG n n) ∧ OwnI wr ga (.slice (some ⟨ga, 0, none⟩) n n) A ∧ A.Perm (partL atG n n) ∧ Ext w wr)
          case atStart => exact ⟨0, _, by omega, rfl, D8, o8, a8, List.Perm.refl _, E8⟩
          case round =>
            clear D8 o8 a8 E8
            obtain ⟨i, A, hik3, rfl, D9, o9, a9, hperm, E9⟩ := hrel
            have hAl : A.length = n := by rw [hperm.length_eq, partL_length]
            by_cases hi : i < n
            · have hi' : (i : Int) < (n : Int) := by omega
              by_cases hio : i < ord.length
              · have hio' : (i : Int) < (ord.length : Int) := by omega
                obtain ⟨ob, off, y, rfl, hy, hyw, hcy⟩ := (hA1.ext E9).nthi i hio
                have hyb := bdu8 hyw
                obtain ⟨y', rfl⟩ : ∃ y' : Nat, y = y' := ⟨y.toNat, by omega⟩
                obtain ⟨m, hm⟩ : ∃ m : Nat, m = n - i := ⟨_, rfl⟩
                have hsub : (n : Int) - (i : Int) = (m : Int) := by omega
                have hm0 : (m : Int) ≠ 0 := by omega
                have hmpos : 0 < m := by omega
                obtain ⟨q, hq⟩ : ∃ q, q = y' % m := ⟨_, rfl⟩
                have hqm : (y' : Int) % (m : Int) = (q : Int) := by rw [hq]; exact (Int.natCast_emod _ _).symm
                have hqt : (y' : Int).tmod (m : Int) = (q : Int) := by rw [Int.tmod_eq_emod_of_nonneg (by omega)]; exact hqm
                have hql : q < m := by rw [hq]; exact Nat.mod_lt _ hmpos
                have hsum : (i : Int) + (q : Int) = ((i + q : Nat) : Int) := by omega
                obtain ⟨p, hp⟩ : ∃ p, p = i + q := ⟨_, rfl⟩
                have hpn : p < n := by omega
                rw [← hp] at hsum
                clear hp hq hm hy
                obtain ⟨x, hx⟩ : ∃ x, A[i]? = some x := ⟨_, List.getElem?_eq_getElem (by omega)⟩
                obtain ⟨z, hz⟩ : ∃ z, A[p]? = some z := ⟨_, List.getElem?_eq_getElem (by omega)⟩
                have hcx := a9.at hAl.symm hx
                have hcz := a9.at hAl.symm hz
                have hfx := a9.thaw hAl.symm i
                have hfz := a9.thaw hAl.symm p
                have a10 := (a9.put hAl.symm i z).put (by rw [List.length_set]; exact hAl.symm) p x
                obtain ⟨u, hu⟩ : ∃ u, (A.set i z)[p]? = some u := ⟨_, List.getElem?_eq_getElem (by rw [List.length_set]; omega)⟩
                have hcu := (a9.put hAl.symm i z).at (by rw [List.length_set]; exact hAl.symm) hu
                clear hu
                have hperm' := (swap_perm hx hz).trans hperm
                clear hx hz
                go_wp2
                clear hqt hqm hsub hcy
                have hpI : (p : Int) < (n : Int) := by omega
                go_region
                have K10 : Calm [ga] wr ((wr.setCell ⟨ga, i, none⟩ (.int .i64 z)).setCell ⟨ga, p, none⟩ (.int .i64 x)).drew := by
                  have := (calm_set wr ga i (.int .i64 z)).trans (calm_set _ ga p (.int .i64 x))
                  exact ⟨this.os, this.tape, this.output, this.size, this.block⟩
                have a11 : OwnI ((wr.setCell ⟨ga, i, none⟩ (.int .i64 z)).setCell ⟨ga, p, none⟩ (.int .i64 x)).drew ga (.slice (some ⟨ga, 0, none⟩) n n) ((A.set i z).set p x) := a10
                have D11 : ∀ A, Dev ((wr.setCell ⟨ga, i, none⟩ (.int .i64 z)).setCell ⟨ga, p, none⟩ (.int .i64 x)).drew F1 R bd (tSt seed n A 0) := fun A => (D9 A).calm K10 (by
                  intro k hk _
                  obtain rfl : k = ga := by simpa using hk
                  exact ⟨haF, haR⟩)
                have o11 := o9.calm K10 (fun k hk => by
                  obtain rfl : gi = k := Option.some.inj hk
                  simpa using Ne.symm hag)
                have E11 := Ext.calm_trans E9 K10 (by simpa using haw)
                clear D9 o9 a9 a10 E9 K10 hcx hcz hfx hfz hcu
                generalize ((wr.setCell ⟨ga, i, none⟩ (.int .i64 z)).setCell ⟨ga, p, none⟩ (.int .i64 x)).drew = w11 at *
                go_wp2
                go_roundg (gk - 1)
                case measure => omega
                case rel => exact ⟨i + 1, _, by omega, rfl, D11, o11, a11, hperm', E11⟩
              · have hio' : ¬ (i : Int) < (ord.length : Int) := by omega
                go_wp2
                go_roundg (gk - 1)
                case measure => omega
                case rel => exact ⟨i + 1, A, by omega, rfl, D9, o9, a9, hperm, E9⟩
            · obtain rfl : n = i := by omega
              have hA2 : ∀ k a, A[k]? = some a → 0 ≤ a ∧ a < (n : Int) := fun k a hk => by
                have h1 := hperm.mem_iff.1 (List.mem_of_getElem? hk)
                obtain ⟨j, hj, e⟩ := List.mem_map.1 h1
                rw [List.mem_range] at hj
                rw [if_pos hj] at e
                unfold atG at e
                omega
              have hnd : A.Nodup := hperm.nodup_iff.2 (by
                unfold partL
                rw [List.nodup_iff_pairwise_ne, List.pairwise_map]
                refine List.Pairwise.imp_of_mem ?_ (List.nodup_range (n := n))
                intro a b ha hb hne
                rw [List.mem_range] at ha hb
                rw [if_pos ha, if_pos hb]
                unfold atG
                omega)
              have D10 := D9 A
              clear D9 hperm
              go_wp2
              go_loopg [120] n (fun k iv wr => ∃ (i : Nat), i + k = n ∧ iv = .int .i64 i ∧ Dev wr F1 R bd (tSt seed n A i) ∧ OwnI wr gi (.slice (some ⟨gi, 0, none⟩) n n) (partL idG n n) ∧ OwnI wr ga (.slice (some ⟨ga, 0, none⟩) n n) A ∧ Ext w wr)
              case atStart => exact ⟨0, by omega, rfl, D10, o9, a9, E9⟩
              case round =>
                clear D10 o9 a9 E9
                obtain ⟨i, hik4, rfl, D11, o11, a11, E11⟩ := hrel
                by_cases hi : i < n
                · have hi' : (i : Int) < (n : Int) := by omega
                  obtain ⟨a, ha⟩ : ∃ a, A[i]? = some a := ⟨_, List.getElem?_eq_getElem (by omega)⟩
                  have hab := hA2 i a ha
                  have hca := a11.at hAl.symm ha
                  obtain ⟨a', rfl⟩ : ∃ a' : Nat, a = a' := ⟨a.toNat, by omega⟩
                  have hid := partL_get idG n n a' (by omega)
                  rw [if_pos (by omega)] at hid
                  have hci := o11.at (partL_length _ _ _).symm hid
                  have hci' : wr.cell? ⟨gi, a', none⟩ = some (.int .i64 ((a' : Int) + 1)) := hci
                  have hmod := Int.emod_lt_of_pos (seed + (a' : Int)) (show (0 : Int) < 256 by omega)
                  have hmod0 := Int.emod_nonneg (seed + (a' : Int)) (show (256 : Int) ≠ 0 by omega)
                  have HA := Lib.hid ha
                  clear hci hid ha
                  go_wp2_with fail
                  refine (dev_Take _ F1 R bd _ D11 _ (wfi (by omega)) _ (tSt_has seed n A i a' hab (nodup_take hnd HA.out)) (by show i ≤ 1000000; omega) 0 0 rfl (by omega) (by omega)).mono ?_
                  rintro e w12 ⟨D12, K12, hcase⟩
                  have D12' : Dev w12 F1 R bd (tSt seed n A (i + 1)) := by
                    rw [← tSt_step seed n A i a' HA.out]
                    exact D12
                  obtain ⟨v12, rfl, o12⟩ : ∃ v', e = .returned (.tuple #[v', .int .i64 0]) ∧ Own w12 wr.heap.size v' (blkL ((seed + (a' : Int)) % 256) 64) := by
                    rcases hcase with ⟨h1, _⟩ | ⟨_, v', he, o⟩
                    · exfalso
                      have h1' : (decide ((i : Int) ∈ ([] : List Int)) || !rightB (bendL (putL (blkL ((seed + (a' : Int)) % 256) 64)) 0 0)) = true := h1
                      rw [bendL_zero, show rightB (putL (blkL ((seed + (a' : Int)) % 256) 64)) = true from put_right _] at h1'
                      simp at h1'
                    · rw [bendL_zero, show (putL (blkL ((seed + (a' : Int)) % 256) 64)).take 64 = blkL ((seed + (a' : Int)) % 256) 64 by
                        unfold putL
                        rw [List.take_append_of_le_length (by rw [blkL_length]; omega)]
                        exact List.take_of_length_le (by rw [blkL_length]; omega)] at o
                      exact ⟨v', he, o⟩
                  have o13 := o11.calm K12 (fun k hk hin => by
                    obtain rfl : gi = k := Option.some.inj hk
                    exact hgF hin)
                  have a13 := a11.calm K12 (fun k hk hin => by
                    obtain rfl : ga = k := Option.some.inj hk
                    exact haF hin)
                  have E12 := Ext.calm_trans E11 K12 hFw
                  have hid := partL_get idG n n a' (by omega)
                  rw [if_pos (by omega)] at hid
                  have hci2 : w12.cell? ⟨gi, a', none⟩ = some (.int .i64 ((a' : Int) + 1)) := o13.at (partL_length _ _ _).symm hid
                  clear hcase D12 D11 K12 hid o11 a11 hca hci'
                  go_wp2_with fail
                  refine (dev_Take_none _ F1 R bd _ D12' _ (wfi (by omega)) (tSt_gone seed n A i a' HA.out)).mono ?_
                  rintro e w13 ⟨rfl, rfl⟩
                  clear hci2
                  go_wp2
                  refine fills_r35 _ _ _ _ _ _ _ _ _ _ _ _ _ _ _ _ _ _ _ _ _ _ _ _ _ _ _ _ _ _ _ _ _ _ _ _ _ _ _ _ _ _ _ _ _ _ _ _ _ _ _ _ _ _ _ _ _ _ _ _ _ _ _ _ _ _ _ _ _ _ _ _ _ _ _ _ _ _ _ _ _ _ _ _ _ _ _ _ _ _ _ _ _ _ _ _ _ _ _ _ _ _ _ _ _ _ _ _ _ _ _ _ _ _ _ _ _ _ _ _ _ _ _ _ _ _ _ _ _ _ _ _ _ _ _ _ _ _ _ _ _ _ _ _ _ _ _ _ _ _ _ _ _ _ _ _ _ _ _ _ _ _ _ _ seed a' v12 hmod hmod0 w12 _ o12 (fun _ _ _ _ _ _ _ _ _ _ _ _ _ _ _ _ wx x15 => ?_)
                  go_wp2
                  go_roundg (gk - 1)
                  case measure => omega
                  case rel => exact ⟨i + 1, by omega, rfl, D12'.ext x15, o13.ext x15, a13.ext x15, E12.trans x15⟩
                · obtain rfl : n = i := by omega
                  go_wp2_with fail
                  refine (dev_Used _ F1 R bd _ D11).mono ?_
                  rintro e w12 ⟨rfl, rfl⟩
                  rw [show (tSt seed n A n).s = 0 from Nat.sub_self n]
                  go_wp2_with fail
                  refine (dev_Most _ F1 R bd _ D11).mono ?_
                  rintro e w12 ⟨rfl, rfl⟩
                  rw [show (tSt seed n A n).most = n from rfl]
                  go_wp2
                  go_ret
                  exact ⟨rfl, E11⟩
end Go.Proofs.Ytmoihbpjcdmmbaa
