/-
  DERIVED. MeshFirst: the triangles of the first numbers are the first triangles.
-/
import Derived.Test.YtcpgcealaomleaaMeshAid
namespace Go.Proofs.Ytcpgcealaomleaa
open Go.RowKit
set_option linter.unusedVariables false

theorem Arr.takeK {w : World} {k : IntKind} {ao : Option Addr} {c : Nat} {l : List Int} (h : Arr w k (.slice ao l.length c) l) (n : Nat) (hn : n ≤ l.length) : Arr w k (.slice ao n c) (l.take n) := by
  obtain ⟨⟨ao', c', e, h1, h2, h3⟩, h4, h5⟩ := h
  cases e
  have hl : (l.take n).length = n := by simp [hn]
  refine ⟨⟨ao, c, by rw [hl], by rw [hl]; omega, fun hne => ?_, h3⟩, by rw [hl]; omega, fun y hy => h5 y (List.mem_of_mem_take hy)⟩
  obtain ⟨b, off, rfl, hc⟩ := h2 (by intro e; subst e; simp at hne)
  refine ⟨b, off, rfl, fun j hj => ?_⟩
  rw [hl] at hj
  rw [hc j (by omega)]
  simp [List.getD, hj]
theorem getD_take {l : List Int} {n j : Nat} (h : j < n) : (l.take n).getD j 0 = l.getD j 0 := by
  simp [List.getD, h]
theorem firsts_pre (f f' : Nat → T3) (n m : Nat) (h : n ≤ m) (hf : ∀ j, j < n → f j = f' j) : ∀ (j : Nat) (t : T3), (firsts f n)[j]? = some t → (firsts f' m)[j]? = some t := fun j t hj => by
  have hl : j < n := by
    have := (List.getElem?_eq_some_iff.1 hj).1
    rwa [firsts_length] at this
  rw [firsts_get _ _ _ hl] at hj
  rw [firsts_get _ _ _ (by omega), ← hf j hl]
  exact hj
theorem tris_take (k : Int) (l : List Int) (n : Nat) (hn : n ≤ l.length) : ∀ (j : Nat) (t : T3), (tris k (l.take n))[j]? = some t → (tris k l)[j]? = some t := by
  have hl : (l.take n).length = n := by simp [hn]
  unfold tris
  rw [hl]
  split
  · refine firsts_pre _ _ _ _ (by omega) fun j hj => ?_
    unfold at3
    rw [getD_take (by omega), getD_take (by omega), getD_take (by omega)]
  · split
    · refine firsts_pre _ _ _ _ (by omega) fun j hj => ?_
      unfold strip3
      rw [getD_take (by omega), getD_take (by omega), getD_take (by omega)]
    · split
      · refine firsts_pre _ _ _ _ (by omega) fun j hj => ?_
        unfold fan3
        rw [getD_take (by omega), getD_take (by omega), getD_take (by omega)]
      · intro j t h
        simp at h
theorem tris_le {k : Int} {l : List Int} {n : Nat} (hn : n ≤ l.length) : (tris k (l.take n)).length ≤ (tris k l).length := by
  rcases Nat.lt_or_ge (tris k l).length (tris k (l.take n)).length with h | h
  · have h1 : (tris k (l.take n))[(tris k l).length]? = some ((tris k (l.take n))[(tris k l).length]) := by simp [h]
    have := (List.getElem?_eq_some_iff.1 (tris_take k l n hn _ _ h1)).1
    omega
  · exact h

set_option maxRecDepth 100000 in
set_option maxHeartbeats 1000000 in
theorem meshFirst_row {w : World} (k : Int) (v : Value) (l : List Int) (cut : Int) (hk : 0 ≤ k ∧ k ≤ 255) (h : Arr w .i64 v l) (hcut : 0 ≤ cut ∧ cut ≤ 255) : Calls Try.prog 6 #[.int .u8 k, v, .int .u8 cut] w fun e w' => e = .returned (.bool true) ∧ Ext w w' := by
  have hA := h
  obtain ⟨⟨ao, c, rfl, hcap, -, -⟩, hmost, -⟩ := h
  by_cases hbig : 100 < l.length
  · have hI : 100 < (l.length : Int) := by omega
    go_enter Try.func6, Try.ntmps6
    go_wp2_with fail
    refine (awake10_any _).mono ?_
    rintro e w1 ⟨rfl, e1⟩
    go_wp2
    go_ret
    exact ⟨rfl, e1⟩
  · have hI : (l.length : Int) ≤ 100 := by omega
    obtain ⟨n, hn, hnl⟩ : ∃ n : Nat, cut.tmod ((l.length : Int) + 1) = n ∧ n ≤ l.length := by
      have h1 := Int.emod_nonneg cut (b := (l.length : Int) + 1) (by omega)
      have h2 := Int.emod_lt_of_pos cut (b := (l.length : Int) + 1) (by omega)
      refine ⟨(cut % ((l.length : Int) + 1)).toNat, ?_, by omega⟩
      rw [Int.tmod_eq_emod_of_nonneg hcut.1]
      omega
    have hE := eq3
    have hnI : (n : Int) ≤ (l.length : Int) := by omega
    have hnz : ((l.length : Int) + 1 == 0) = false := by simp; omega
    generalize hkk : k.tmod 4 = kk
    go_enter Try.func6, Try.ntmps6
    go_wp2_with fail
    refine (awake10_any _).mono ?_
    rintro e w1 ⟨rfl, e1⟩
    go_wp2_with fail
    refine (triangles_any _ kk _ _ ((hA.ext e1).takeK n hnl) (by simp; omega)).mono ?_
    rintro e w2 ⟨v2, rfl, o2, e2⟩
    go_wp2_with fail
    refine (triangles_any _ kk _ _ ((hA.ext e1).ext e2) (by omega)).mono ?_
    rintro e w3 ⟨v3, rfl, o3, e3⟩
    have o2' := o2.ext e3
    have hpre := tris_take kk l n hnl
    have hle := tris_le (k := kk) hnl
    have hl2 := tris_length_le kk l
    have e13 := (e1.trans e2).trans e3
    obtain ⟨ao2, c2, rfl, -, -⟩ := o2'.slice
    obtain ⟨ao3, c3, rfl, -, -⟩ := o3.slice
    clear o2 e1 e2 e3
    generalize tris kk l = L at *
    generalize tris kk (l.take n) = M at *
    have hleI : ¬ ((L.length : Int) < (M.length : Int)) := by omega
    have hML : (M.length : Int) ≤ 100 := by omega
    go_wp2_with fail
    go_loopg [40] M.length (fun k iv wr => ∃ (j : Nat), j + k = M.length ∧ iv = .int .i64 j ∧ Ext w3 wr)
    case atStart => exact ⟨0, by omega, rfl, Ext.refl _⟩
    case round =>
      obtain ⟨j, hjk, rfl, q1⟩ := hrel
      by_cases hj : j < M.length
      · have hjI : (j : Int) < (M.length : Int) := by omega
        have hjL : (j : Int) < (L.length : Int) := by omega
        obtain ⟨g, t, rfl, -, ht, hc⟩ := (o2'.ext q1).nth j hj
        obtain ⟨g', t', rfl, -, ht', hc'⟩ := (o3.ext q1).nth j (by omega)
        have hh := hpre j t ht
        rw [ht'] at hh
        cases hh
        obtain ⟨c0, c1, c2⟩ := cells_of hc
        obtain ⟨d0, d1, d2⟩ := cells_of hc'
        simp only [LT] at c0 c1 c2 d0 d1 d2
        clear hc hc' ht ht'
        go_wp2_with fail
        go_region
        all_goals go_wp2
        all_goals
          go_roundg (gk - 1)
          case measure => omega
          case rel => exact ⟨j + 1, by omega, rfl, q1.drew⟩
      · obtain rfl : j = M.length := by omega
        go_wp2
        go_ret
        exact ⟨rfl, e13.trans q1⟩
end Go.Proofs.Ytcpgcealaomleaa
