/-
  DERIVED. MeshChecks: whether lists of indices may be, why not.
-/
import Derived.Test.YtcpgcealaomleaaMeshAid
import Derived.Test.YtcpgcealaomleaaMeshCheck
import Derived.Test.YtcpgcealaomleaaInts
import Derived.Deep.CutBlock
namespace Go.Proofs.Ytcpgcealaomleaa
open Go.RowKit
set_option linter.unusedVariables false

def nearL (sm : List Int) : List Int := sm.map (fun n => n % 20)
theorem nearL_snoc {sl : List Int} {j : Nat} {y : Int} (h : sl[j]? = some y) : nearL (sl.take (j + 1)) = nearL (sl.take j) ++ [y % 20] := by
  unfold nearL
  rw [List.take_add_one, h]
  simp
def wantC (kk : Int) (l : List Int) (x : Int) (m : Nat) : Int := if chk0 kk l.length ≠ 0 then chk0 kk l.length else if (l.take m).all (okIdx x) = true then 0 else 14
theorem wantC_end (kk : Int) (l : List Int) (x : Int) : wantC kk l x l.length = chkM kk l x := by
  unfold wantC chkM
  rw [List.take_length]
theorem wantC_start (kk : Int) (l : List Int) (x : Int) : wantC kk l x 0 = chk0 kk l.length := by
  unfold wantC
  by_cases h : chk0 kk l.length = 0
  · rw [if_neg (by simp [h]), h]; simp
  · rw [if_pos h]
theorem wantC_stay {kk : Int} {l : List Int} {x : Int} {m : Nat} (h : wantC kk l x m ≠ 0) (hm : m < l.length) : wantC kk l x (m + 1) = wantC kk l x m := by
  unfold wantC at *
  by_cases h0 : chk0 kk l.length = 0
  · have hn : ¬ (chk0 kk l.length ≠ 0) := by simp [h0]
    rw [if_neg hn] at h
    rw [if_neg hn, if_neg hn, all_snoc _ hm]
    cases ha : (l.take m).all (okIdx x)
    · simp
    · rw [ha] at h; simp at h
  · rw [if_pos h0, if_pos h0]
theorem wantC_good {kk : Int} {l : List Int} {x : Int} {m : Nat} (h : wantC kk l x m = 0) (hm : m < l.length) (hg : okIdx x (l.getD m 0) = true) : wantC kk l x (m + 1) = 0 := by
  unfold wantC at *
  by_cases h0 : chk0 kk l.length = 0
  · have hn : ¬ (chk0 kk l.length ≠ 0) := by simp [h0]
    rw [if_neg hn] at h
    rw [if_neg hn, all_snoc _ hm, hg]
    cases ha : (l.take m).all (okIdx x)
    · rw [ha] at h; simp at h
    · simp
  · rw [if_pos h0] at h; exact absurd h h0
theorem wantC_bad {kk : Int} {l : List Int} {x : Int} {m : Nat} (h : wantC kk l x m = 0) (hm : m < l.length) (hg : okIdx x (l.getD m 0) = false) : wantC kk l x (m + 1) = 14 := by
  unfold wantC at *
  by_cases h0 : chk0 kk l.length = 0
  · have hn : ¬ (chk0 kk l.length ≠ 0) := by simp [h0]
    rw [if_neg hn, all_snoc _ hm, hg]
    simp
  · rw [if_pos h0] at h; exact absurd h h0

set_option maxRecDepth 100000 in
set_option maxHeartbeats 4000000 in
theorem meshChecks_row {w : World} (k : Int) (v : Value) (l : List Int) (sv : Value) (sm : List Int) (x : Int) (hk : 0 ≤ k ∧ k ≤ 255) (h : Arr w .i64 v l) (hs : Arr w .u8 sv sm) (hx : -9223372036854775808 ≤ x ∧ x ≤ 9223372036854775807) : Calls Try.prog 4 #[.int .u8 k, v, sv, .int .i64 x] w fun e w' => e = .returned (.bool true) ∧ Ext w w' := by
  have hA0 := h
  have hS0 := hs
  obtain ⟨⟨ao, c, rfl, hcap, -, -⟩, hmost, -⟩ := h
  obtain ⟨⟨ao', c', rfl, hcap', -, -⟩, hmost', -⟩ := hs
  by_cases hbig : 200 < l.length
  · have hI : 200 < (l.length : Int) := by omega
    go_enter Try.func4, Try.ntmps4
    go_wp2_with fail
    refine (awake10_any _).mono ?_
    rintro e w1 ⟨rfl, e0⟩
    go_wp2
    go_ret
    exact ⟨rfl, e0⟩
  · by_cases hbig2 : 200 < sm.length
    · have hI : ¬ 200 < (l.length : Int) := by omega
      have hI2 : 200 < (sm.length : Int) := by omega
      go_enter Try.func4, Try.ntmps4
      go_wp2_with fail
      refine (awake10_any _).mono ?_
      rintro e w1 ⟨rfl, e0⟩
      go_wp2
      go_ret
      exact ⟨rfl, e0⟩
    · have hI : (l.length : Int) ≤ 200 := by omega
      have hI2 : (sm.length : Int) ≤ 200 := by omega
      have hIn : ¬ 200 < (l.length : Int) := by omega
      have hIn2 : ¬ 200 < (sm.length : Int) := by omega
      go_enter Try.func4, Try.ntmps4
      go_wp2_with fail
      refine (awake10_any _).mono ?_
      rintro e w1 ⟨rfl, e0⟩
      go_wp2_with fail
      go_loopg [31, 9] sm.length (fun k iv pv wr => ∃ (j : Nat), j + k = sm.length ∧ iv = .int .i64 j ∧ OwnI wr w1.heap.size pv (nearL (sm.take j)) ∧ Ext w1 wr)
      case atStart => exact ⟨0, by omega, rfl, OwnI.nil _ _, Ext.refl _⟩
      case round =>
        obtain ⟨j, hjk, rfl, o1, e1⟩ := hrel
        by_cases hj : j < sm.length
        · have hjI : (j : Int) < (sm.length : Int) := by omega
          obtain ⟨b, off, rfl, -, hc⟩ := ((hS0.ext e0).ext e1).at j hj
          have c0 := hc j hj
          have hy := bounds_u8 (hS0.wf (sm.getD j 0) (by simp [List.getD, hj]))
          have HN := Lib.hid (nearL_snoc (sl := sm) (j := j) (y := sm.getD j 0) (by simp [List.getD, hj]))
          generalize sm.getD j 0 = y at *
          have hyw : IntKind.i64.wrap (y % 20) = y % 20 := by rw [IntKind.wrap_i64]; omega
          have o2 := o1.ext ((Ext.refl wr).alloc #[.int .i64 (y % 20)] 3)
          have e2 := e1.alloc #[.int .i64 (y % 20)] 3
          have hsz := e1.size
          have hnl : (nearL (sm.take j)).length = j := by simp [nearL]; omega
          clear hc o1 e1
          go_wp2_with (at_builtin; refine wpList_append_int rfl _ _ rfl w1.heap.size _ _ rfl o2 wr.heap.size 1 (y % 20) rfl (by simp) (by omega) (by simp; omega) ?_)
          intro v4 w4 o4 K4 hk4
          have e4 := Ext.calm_trans e2 K4 (fun g hg => (o2.lt g (Option.mem_toList.1 hg)).1)
          obtain ⟨ao4, c4', rfl, -, -⟩ := o4.slice
          clear o2 e2 K4 hk4
          go_wp2
          go_roundg (gk - 1)
          case measure => omega
          case rel => exact ⟨j + 1, by omega, rfl, by rw [HN.out]; exact o4, e4⟩
        · obtain rfl : j = sm.length := by omega
          rw [List.take_length] at o1
          have hy : ∀ y ∈ nearL sm, (Lit.int .i64 y).wf = true := fun y hy => by
            obtain ⟨z, _, rfl⟩ := List.mem_map.1 hy
            exact WalkArith.wf_i64 (by omega)
          have A2 := o1.arr hy
          have hnl : (nearL sm).length = sm.length := by simp [nearL]
          have A1 := (hA0.ext e0).ext e1
          obtain ⟨ao1, cc1, rfl, -, -⟩ := o1.slice
          have B1 := Blk.new wr #[.slice ao l.length c, .slice ao1 (nearL sm).length cc1] 22
          have x3 := (Ext.refl wr).alloc #[.slice ao l.length c, .slice ao1 (nearL sm).length cc1] 22
          have e3 := (e0.trans e1).trans x3
          have A1' := A1.ext x3
          have A2' := A2.ext x3
          rw [hnl] at B1 A1' A2' x3 e3
          clear A1 A2 o1 x3 e1 e0 hA0 hS0 hy
          have hnI : ((nearL sm).length : Int) ≤ 200 := by omega
          have HNL := Lib.hid hnl
          go_wp2_with fail
          generalize wr.alloc (.cells #[.slice ao l.length c, .slice ao1 sm.length cc1] 22) = w3 at *
          generalize wr.heap.size = B at *
          clear hnl
          go_loopg [46] 2 (fun k iv wx => ∃ (j : Int), j + (k : Int) = 2 ∧ 0 ≤ j ∧ iv = .int .i64 j ∧ Ext w3 wx)
          case atStart => exact ⟨0, by omega, by omega, rfl, Ext.refl _⟩
          case round =>
            generalize wr = wz at *
            obtain ⟨j, hjk, hj0, rfl, q1⟩ := hrel
            have hc0 := (B1.ext q1).cell 0
            have hc1 := (B1.ext q1).cell 1
            have hk5 : 0 ≤ k % 5 := by omega
            have hk3 := Int.emod_nonneg k (b := 3) (by decide)
            have hk33 := Int.emod_lt_of_pos k (b := 3) (by decide)
            have hk3w : IntKind.i64.wrap (k % 3) = k % 3 := by rw [IntKind.wrap_i64]; omega
            rcases (by omega : j = 0 ∨ j = 1 ∨ j = 2) with rfl | rfl | rfl
            · have AX := A1'.ext q1
              have hvv : 0 ≤ k % 3 := hk3
              go_upto_block 4 with fail
              go_cut [16] (fun v wx => v = .int .i64 (chk0 (k % 5) l.length) ∧ Ext w3 wx)
              case first =>
                rcases (by omega : 2 < (k % 5) ∨ (¬ 2 < (k % 5) ∧ 96 < l.length) ∨ ((k % 5) = 0 ∧ ¬ 96 < l.length ∧ l.length % 3 ≠ 0) ∨ ((k % 5) = 0 ∧ ¬ 96 < l.length ∧ l.length % 3 = 0) ∨ (0 < (k % 5) ∧ ¬ 2 < (k % 5) ∧ ¬ 96 < l.length ∧ l.length = 1) ∨ (0 < (k % 5) ∧ ¬ 2 < (k % 5) ∧ ¬ 96 < l.length ∧ l.length = 2) ∨ (0 < (k % 5) ∧ ¬ 2 < (k % 5) ∧ ¬ 96 < l.length ∧ l.length ≠ 1 ∧ l.length ≠ 2)) with h | h | h | h | h | h | h
                · skip
                  have HC := Lib.hid (show chk0 (k % 5) l.length = 5 by simp [chk0, h])
                  skip
                  go_wp2
                  go_meet
                  exact ⟨by rw [HC.out], q1.alloc _ _⟩
                · obtain ⟨h1, h2⟩ := h
                  have hn : 96 < (l.length : Int) := by omega
                  have HC := Lib.hid (show chk0 (k % 5) l.length = 7 by simp [chk0, h1, h2])
                  skip
                  go_wp2
                  go_meet
                  exact ⟨by rw [HC.out], q1.alloc _ _⟩
                · obtain ⟨h1, h2, h3⟩ := h
                  have hn : ¬ 96 < (l.length : Int) := by omega
                  have hp : ¬ ((l.length : Int) % 3 = 0) := by omega
                  have hk0 : ((k % 5) == 0) = true := by simp [h1]
                  have hk2 : ¬ 2 < (k % 5) := by omega
                  have HC := Lib.hid (show chk0 (k % 5) l.length = 6 by simp [chk0, fitsB, h1, h2, h3])
                  clear h1 h3
                  go_wp2
                  go_meet
                  exact ⟨by rw [HC.out], q1.alloc _ _⟩
                · obtain ⟨h1, h2, h3⟩ := h
                  have hn : ¬ 96 < (l.length : Int) := by omega
                  have hp : (l.length : Int) % 3 = 0 := by omega
                  have hk0 : ((k % 5) == 0) = true := by simp [h1]
                  have hk2 : ¬ 2 < (k % 5) := by omega
                  have hk00 : ¬ 0 < (k % 5) := by omega
                  have HC := Lib.hid (show chk0 (k % 5) l.length = 0 by simp [chk0, fitsB, h1, h2, h3])
                  clear h1 h3
                  go_wp2
                  go_meet
                  exact ⟨by rw [HC.out], q1.alloc _ _⟩
                · obtain ⟨h1, h2, h3, h4⟩ := h
                  have hn : ¬ 96 < (l.length : Int) := by omega
                  have hk0 : ((k % 5) == 0) = false := by simp; omega
                  have hkk0 : ¬ (k % 5) = 0 := by omega
                  have hnI : ((l.length : Int) == 1) = true := by simp; omega
                  have HC := Lib.hid (show chk0 (k % 5) l.length = 6 by simp [chk0, fitsB, hkk0, h2, h4])
                  clear h4 hkk0
                  go_wp2
                  go_meet
                  exact ⟨by rw [HC.out], q1.alloc _ _⟩
                · obtain ⟨h1, h2, h3, h4⟩ := h
                  have hn : ¬ 96 < (l.length : Int) := by omega
                  have hk0 : ((k % 5) == 0) = false := by simp; omega
                  have hkk0 : ¬ (k % 5) = 0 := by omega
                  have hnI : ((l.length : Int) == 2) = true := by simp; omega
                  have hnJ : ((l.length : Int) == 1) = false := by simp; omega
                  have HC := Lib.hid (show chk0 (k % 5) l.length = 6 by simp [chk0, fitsB, hkk0, h2, h4])
                  clear h4 hkk0
                  go_wp2
                  go_meet
                  exact ⟨by rw [HC.out], q1.alloc _ _⟩
                · obtain ⟨h1, h2, h3, h4, h5⟩ := h
                  have hn : ¬ 96 < (l.length : Int) := by omega
                  have hk0 : ((k % 5) == 0) = false := by simp; omega
                  have hkk0 : ¬ (k % 5) = 0 := by omega
                  have hn1 : ((l.length : Int) == 1) = false := by simp; omega
                  have hn2 : ((l.length : Int) == 2) = false := by simp; omega
                  have hfit : (l.length == 0 || decide (3 ≤ l.length)) = true := by rcases (by omega : l.length = 0 ∨ 3 ≤ l.length) with h | h <;> simp [h]
                  have HC := Lib.hid (show chk0 (k % 5) l.length = 0 by simp [chk0, fitsB, hkk0, h2, h3, hfit])
                  skip
                  go_wp2
                  go_meet
                  exact ⟨by rw [HC.out], q1.alloc _ _⟩
              obtain ⟨rfl, q2⟩ := hcut
              have AX2 := A1'.ext q2
              clear AX
              go_wp2_with fail
              go_loopg [94, 16] l.length (fun n0 iv ev wx => ∃ (m : Nat), m + n0 = l.length ∧ iv = .int .i64 m ∧ ev = .int .i64 (wantC (k % 5) l x m) ∧ Ext w3 wx)
              case atStart => exact ⟨0, by omega, rfl, by rw [wantC_start], q2⟩
              case round =>
                obtain ⟨m, hmk, rfl, rfl, q3⟩ := hrel
                have AX3 := A1'.ext q3
                by_cases hm : m < l.length
                · have hmI : (m : Int) < (l.length : Int) := by omega
                  have hm' : m < l.length := by omega
                  obtain ⟨b, off, rfl, -, hc⟩ := AX3.at m hm'
                  have d0 := hc m hm'
                  clear hc
                  by_cases he : wantC (k % 5) l x m = 0
                  · cases hg : okIdx x (l.getD m 0)
                    · have HW := Lib.hid (wantC_bad he hm' hg)
                      rw [he]
                      clear he
                      generalize l.getD m 0 = y at *
                      by_cases hy0 : y < 0
                      · go_wp2
                        go_roundg (gk - 1)
                        case measure => omega
                        case rel => exact ⟨m + 1, by omega, by simp, by rw [HW.out], q3⟩
                      · have hyv : x ≤ y := by simp [okIdx] at hg; omega
                        go_wp2
                        go_roundg (gk - 1)
                        case measure => omega
                        case rel => exact ⟨m + 1, by omega, by simp, by rw [HW.out], q3⟩
                    · have HW := Lib.hid (wantC_good he hm' hg)
                      rw [he]
                      clear he
                      generalize l.getD m 0 = y at *
                      have hy0 : ¬ y < 0 := by simp [okIdx] at hg; omega
                      have hyv : ¬ x ≤ y := by simp [okIdx] at hg; omega
                      go_wp2
                      go_roundg (gk - 1)
                      case measure => omega
                      case rel => exact ⟨m + 1, by omega, by simp, by rw [HW.out], q3⟩
                  · have HW := Lib.hid (wantC_stay he hm')
                    have he0 : (wantC (k % 5) l x m == 0) = false := by simpa using he
                    generalize wantC (k % 5) l x m = e at *
                    generalize l.getD m 0 = y at *
                    go_wp2
                    go_roundg (gk - 1)
                    case measure => omega
                    case rel => exact ⟨m + 1, by omega, by simp, by rw [HW.out], q3⟩
                · obtain rfl : m = l.length := by omega
                  have HE := Lib.hid ((congrArg (wantC (k % 5) l x) (rfl : l.length = l.length).symm).trans (wantC_end (k % 5) l x))
                  go_wp2_with fail
                  refine (checkM_any _ (k % 5) _ l AX3 (by omega) x).mono ?_
                  rintro e w5 ⟨rfl, rfl⟩
                  rw [HE.out]
                  go_wp2
                  go_roundg 1
                  case measure => omega
                  case rel => exact ⟨1, by omega, by omega, rfl, q3⟩
            · have AX := A2'.ext q1
              have hvv : 0 ≤ k % 3 := hk3
              go_upto_block 4 with fail
              go_cut [16] (fun v wx => v = .int .i64 (chk0 (k % 5) sm.length) ∧ Ext w3 wx)
              case first =>
                rcases (by omega : 2 < (k % 5) ∨ (¬ 2 < (k % 5) ∧ 96 < sm.length) ∨ ((k % 5) = 0 ∧ ¬ 96 < sm.length ∧ sm.length % 3 ≠ 0) ∨ ((k % 5) = 0 ∧ ¬ 96 < sm.length ∧ sm.length % 3 = 0) ∨ (0 < (k % 5) ∧ ¬ 2 < (k % 5) ∧ ¬ 96 < sm.length ∧ sm.length = 1) ∨ (0 < (k % 5) ∧ ¬ 2 < (k % 5) ∧ ¬ 96 < sm.length ∧ sm.length = 2) ∨ (0 < (k % 5) ∧ ¬ 2 < (k % 5) ∧ ¬ 96 < sm.length ∧ sm.length ≠ 1 ∧ sm.length ≠ 2)) with h | h | h | h | h | h | h
                · skip
                  have HC := Lib.hid (show chk0 (k % 5) sm.length = 5 by simp [chk0, h])
                  skip
                  go_wp2
                  go_meet
                  exact ⟨by rw [HC.out], q1.alloc _ _⟩
                · obtain ⟨h1, h2⟩ := h
                  have hn : 96 < (sm.length : Int) := by omega
                  have HC := Lib.hid (show chk0 (k % 5) sm.length = 7 by simp [chk0, h1, h2])
                  skip
                  go_wp2
                  go_meet
                  exact ⟨by rw [HC.out], q1.alloc _ _⟩
                · obtain ⟨h1, h2, h3⟩ := h
                  have hn : ¬ 96 < (sm.length : Int) := by omega
                  have hp : ¬ ((sm.length : Int) % 3 = 0) := by omega
                  have hk0 : ((k % 5) == 0) = true := by simp [h1]
                  have hk2 : ¬ 2 < (k % 5) := by omega
                  have HC := Lib.hid (show chk0 (k % 5) sm.length = 6 by simp [chk0, fitsB, h1, h2, h3])
                  clear h1 h3
                  go_wp2
                  go_meet
                  exact ⟨by rw [HC.out], q1.alloc _ _⟩
                · obtain ⟨h1, h2, h3⟩ := h
                  have hn : ¬ 96 < (sm.length : Int) := by omega
                  have hp : (sm.length : Int) % 3 = 0 := by omega
                  have hk0 : ((k % 5) == 0) = true := by simp [h1]
                  have hk2 : ¬ 2 < (k % 5) := by omega
                  have hk00 : ¬ 0 < (k % 5) := by omega
                  have HC := Lib.hid (show chk0 (k % 5) sm.length = 0 by simp [chk0, fitsB, h1, h2, h3])
                  clear h1 h3
                  go_wp2
                  go_meet
                  exact ⟨by rw [HC.out], q1.alloc _ _⟩
                · obtain ⟨h1, h2, h3, h4⟩ := h
                  have hn : ¬ 96 < (sm.length : Int) := by omega
                  have hk0 : ((k % 5) == 0) = false := by simp; omega
                  have hkk0 : ¬ (k % 5) = 0 := by omega
                  have hnI : ((sm.length : Int) == 1) = true := by simp; omega
                  have HC := Lib.hid (show chk0 (k % 5) sm.length = 6 by simp [chk0, fitsB, hkk0, h2, h4])
                  clear h4 hkk0
                  go_wp2
                  go_meet
                  exact ⟨by rw [HC.out], q1.alloc _ _⟩
                · obtain ⟨h1, h2, h3, h4⟩ := h
                  have hn : ¬ 96 < (sm.length : Int) := by omega
                  have hk0 : ((k % 5) == 0) = false := by simp; omega
                  have hkk0 : ¬ (k % 5) = 0 := by omega
                  have hnI : ((sm.length : Int) == 2) = true := by simp; omega
                  have hnJ : ((sm.length : Int) == 1) = false := by simp; omega
                  have HC := Lib.hid (show chk0 (k % 5) sm.length = 6 by simp [chk0, fitsB, hkk0, h2, h4])
                  clear h4 hkk0
                  go_wp2
                  go_meet
                  exact ⟨by rw [HC.out], q1.alloc _ _⟩
                · obtain ⟨h1, h2, h3, h4, h5⟩ := h
                  have hn : ¬ 96 < (sm.length : Int) := by omega
                  have hk0 : ((k % 5) == 0) = false := by simp; omega
                  have hkk0 : ¬ (k % 5) = 0 := by omega
                  have hn1 : ((sm.length : Int) == 1) = false := by simp; omega
                  have hn2 : ((sm.length : Int) == 2) = false := by simp; omega
                  have hfit : (sm.length == 0 || decide (3 ≤ sm.length)) = true := by rcases (by omega : sm.length = 0 ∨ 3 ≤ sm.length) with h | h <;> simp [h]
                  have HC := Lib.hid (show chk0 (k % 5) sm.length = 0 by simp [chk0, fitsB, hkk0, h2, h3, hfit])
                  skip
                  go_wp2
                  go_meet
                  exact ⟨by rw [HC.out], q1.alloc _ _⟩
              obtain ⟨rfl, q2⟩ := hcut
              have AX2 := A2'.ext q2
              clear AX
              go_wp2_with fail
              go_loopg [94, 16] sm.length (fun n0 iv ev wx => ∃ (m : Nat), m + n0 = sm.length ∧ iv = .int .i64 m ∧ ev = .int .i64 (wantC (k % 5) (nearL sm) (19 + k % 3) m) ∧ Ext w3 wx)
              case atStart => exact ⟨0, by omega, rfl, by rw [wantC_start]; rw [HNL.out], q2⟩
              case round =>
                obtain ⟨m, hmk, rfl, rfl, q3⟩ := hrel
                have AX3 := A2'.ext q3
                by_cases hm : m < sm.length
                · have hmI : (m : Int) < (sm.length : Int) := by omega
                  have hm' : m < (nearL sm).length := by have := HNL.out; omega
                  obtain ⟨b, off, rfl, -, hc⟩ := AX3.at m hm'
                  have d0 := hc m hm'
                  clear hc
                  by_cases he : wantC (k % 5) (nearL sm) (19 + k % 3) m = 0
                  · cases hg : okIdx (19 + k % 3) ((nearL sm).getD m 0)
                    · have HW := Lib.hid (wantC_bad he hm' hg)
                      rw [he]
                      clear he
                      generalize (nearL sm).getD m 0 = y at *
                      by_cases hy0 : y < 0
                      · go_wp2
                        go_roundg (gk - 1)
                        case measure => omega
                        case rel => exact ⟨m + 1, by omega, by simp, by rw [HW.out], q3⟩
                      · have hyv : (19 + k % 3) ≤ y := by simp [okIdx] at hg; omega
                        go_wp2
                        go_roundg (gk - 1)
                        case measure => omega
                        case rel => exact ⟨m + 1, by omega, by simp, by rw [HW.out], q3⟩
                    · have HW := Lib.hid (wantC_good he hm' hg)
                      rw [he]
                      clear he
                      generalize (nearL sm).getD m 0 = y at *
                      have hy0 : ¬ y < 0 := by simp [okIdx] at hg; omega
                      have hyv : ¬ (19 + k % 3) ≤ y := by simp [okIdx] at hg; omega
                      go_wp2
                      go_roundg (gk - 1)
                      case measure => omega
                      case rel => exact ⟨m + 1, by omega, by simp, by rw [HW.out], q3⟩
                  · have HW := Lib.hid (wantC_stay he hm')
                    have he0 : (wantC (k % 5) (nearL sm) (19 + k % 3) m == 0) = false := by simpa using he
                    generalize wantC (k % 5) (nearL sm) (19 + k % 3) m = e at *
                    generalize (nearL sm).getD m 0 = y at *
                    go_wp2
                    go_roundg (gk - 1)
                    case measure => omega
                    case rel => exact ⟨m + 1, by omega, by simp, by rw [HW.out], q3⟩
                · obtain rfl : m = sm.length := by omega
                  have HE := Lib.hid ((congrArg (wantC (k % 5) (nearL sm) (19 + k % 3)) HNL.out.symm).trans (wantC_end (k % 5) (nearL sm) (19 + k % 3)))
                  go_wp2_with fail
                  refine (checkM_any _ (k % 5) _ (nearL sm) AX3 (by have := HNL.out; omega) (19 + k % 3)).mono ?_
                  rintro e w5 ⟨rfl, rfl⟩
                  rw [HE.out]
                  go_wp2
                  go_roundg 0
                  case measure => omega
                  case rel => exact ⟨2, by omega, by omega, rfl, q3⟩
            · go_wp2
              go_ret
              exact ⟨rfl, e3.trans q1⟩
end Go.Proofs.Ytcpgcealaomleaa
