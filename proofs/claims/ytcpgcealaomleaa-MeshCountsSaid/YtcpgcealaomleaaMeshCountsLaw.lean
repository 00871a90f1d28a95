/-
  DERIVED. MeshCounts: how many triangles there are; each number is of one at least.
-/
import Derived.Test.YtcpgcealaomleaaMeshAid
import Derived.Test.YtcpgcealaomleaaInts
import Derived.Test.YtcpgcealaomleaaMps
namespace Go.Proofs.Ytcpgcealaomleaa
open Go.RowKit
set_option linter.unusedVariables false

theorem idx3 (x0 x1 x2 : Value) (w : World) :
    (Instr.index 26 (.agg #[x0, x1, x2]) (.int .i64 0)).run Try.prog w = .ok x0 w ∧ (Instr.index 26 (.agg #[x0, x1, x2]) (.int .i64 1)).run Try.prog w = .ok x1 w ∧
    (Instr.index 26 (.agg #[x0, x1, x2]) (.int .i64 2)).run Try.prog w = .ok x2 w := by
  refine ⟨?_, ?_, ?_⟩ <;> simp [Instr.index, asIntOf, run_underlying Try.underlying26, go_sem, part]
def rng (n : Nat) : List Int := (List.range n).map (fun (i : Nat) => (i : Int))
theorem rng_length (n : Nat) : (rng n).length = n := by simp [rng]
theorem rng_succ (n : Nat) : rng (n + 1) = rng n ++ [(n : Int)] := by simp [rng, List.range_succ]
theorem rng_getD {n j : Nat} (h : j < n) : (rng n).getD j 0 = (j : Int) := by simp [rng, List.getD, h]
def top (kk : Int) (n : Nat) : Nat := if kk = 0 then 3 * n else if n = 0 then 0 else n + 2
def mapF (c : Nat) : Int → Option Value := fun y => if 0 ≤ y ∧ y < c then some (.bool true) else none
theorem mapF_zero : mapF 0 = fun _ => none := by
  funext y
  unfold mapF
  rw [if_neg (by omega)]
theorem mapF_put (c x : Nat) (h : x ≤ c) : (fun y => if y = (x : Int) then some (.bool true) else mapF c y) = mapF (max c (x + 1)) := by
  funext y
  unfold mapF
  by_cases e : y = (x : Int)
  · subst e
    rw [if_pos rfl, if_pos (by omega)]
  · rw [if_neg e]
    by_cases h1 : 0 ≤ y ∧ y < c
    · rw [if_pos h1, if_pos (by omega)]
    · rw [if_neg h1, if_neg (by omega)]
theorem mapF_size (c x : Nat) (h : x ≤ c) : (if (mapF c (x : Int)).isSome then c else c + 1) = max c (x + 1) := by
  by_cases h1 : x < c
  · rw [show mapF c (x : Int) = some (.bool true) by unfold mapF; rw [if_pos (by omega)]]
    simp
    omega
  · rw [show mapF c (x : Int) = none by unfold mapF; rw [if_neg (by omega)]]
    simp
    omega
theorem tris_rng (kk : Int) (hk : kk = 0 ∨ kk = 1 ∨ kk = 2) (m n : Nat) (hm : m ≤ 100) (h : n < (tris kk (rng m)).length) :
    ∃ A B C : Nat, (tris kk (rng m))[n]? = some ⟨A, B, C⟩ ∧ A ≤ top kk n ∧ B ≤ max (top kk n) (A + 1) ∧ C ≤ max (max (top kk n) (A + 1)) (B + 1) ∧ max (max (max (top kk n) (A + 1)) (B + 1)) (C + 1) = top kk (n + 1) ∧ A < 200 ∧ B < 200 ∧ C < 200 := by
  rcases hk with rfl | rfl | rfl
  · rw [show tris 0 (rng m) = firsts (at3 (rng m)) ((rng m).length / 3) by simp [tris]] at *
    rw [firsts_length, rng_length] at h
    rw [rng_length]
    refine ⟨n * 3, n * 3 + 1, n * 3 + 2, ?_, ?_⟩
    · rw [firsts_get _ _ _ h]
      unfold at3
      rw [rng_getD (by omega), rng_getD (by omega), rng_getD (by omega)]
    · simp only [top, if_true]
      omega
  · rw [show tris 1 (rng m) = firsts (strip3 (rng m)) ((rng m).length - 2) by simp [tris]] at *
    rw [firsts_length, rng_length] at h
    rw [rng_length]
    by_cases hp : n % 2 = 1
    · refine ⟨n + 1, n, n + 2, ?_, ?_⟩
      · rw [firsts_get _ _ _ h]
        unfold strip3
        rw [if_pos hp, rng_getD (by omega), rng_getD (by omega), rng_getD (by omega)]
      · simp only [top, if_neg (by decide : ¬ (1 : Int) = 0)]
        rw [if_neg (by omega), if_neg (by omega)]
        omega
    · refine ⟨n, n + 1, n + 2, ?_, ?_⟩
      · rw [firsts_get _ _ _ h]
        unfold strip3
        rw [if_neg hp, rng_getD (by omega), rng_getD (by omega), rng_getD (by omega)]
      · simp only [top, if_neg (by decide : ¬ (1 : Int) = 0)]
        by_cases h0 : n = 0
        · subst h0; simp
        · rw [if_neg (by omega), if_neg (by omega)]
          omega
  · rw [show tris 2 (rng m) = firsts (fan3 (rng m)) ((rng m).length - 2) by simp [tris]] at *
    rw [firsts_length, rng_length] at h
    rw [rng_length]
    refine ⟨0, n + 1, n + 2, ?_, ?_⟩
    · rw [firsts_get _ _ _ h]
      unfold fan3
      rw [rng_getD (by omega), rng_getD (by omega), rng_getD (by omega)]
    · simp only [top, if_neg (by decide : ¬ (2 : Int) = 0)]
      by_cases h0 : n = 0
      · subst h0; simp
      · rw [if_neg (by omega), if_neg (by omega)]
        omega
def wantN (kk : Int) (m : Nat) : Nat := if kk = 0 then m / 3 else m - 2
theorem tris_rng_length (kk : Int) (hk : kk = 0 ∨ kk = 1 ∨ kk = 2) (m : Nat) : (tris kk (rng m)).length = wantN kk m := by
  rcases hk with rfl | rfl | rfl
  · simp [tris, wantN, firsts_length, rng_length]
  · simp [tris, wantN, firsts_length, rng_length]
  · simp [tris, wantN, firsts_length, rng_length]

set_option maxRecDepth 100000 in
set_option maxHeartbeats 2000000 in
theorem counts0 {w : World} (k n : Int) (hk : 0 ≤ k ∧ k ≤ 255) (hn : 0 ≤ n ∧ n ≤ 255) (hz : k % 3 = 0) : Calls Try.prog 5 #[.int .u8 k, .int .u8 n] w fun e w' => e = .returned (.bool true) ∧ Ext w w' := by
  have hk0 : (k % 3 == 0) = true := by simp [hz]
  have hks : k % 3 = 0 ∨ k % 3 = 1 ∨ k % 3 = 2 := by omega
  obtain ⟨N, hN, hNl⟩ : ∃ N : Nat, n % 90 = N ∧ N < 90 := ⟨(n % 90).toNat, by omega, by omega⟩
  have hNw : IntKind.i64.wrap (N : Int) = N := by rw [IntKind.wrap_i64]; omega
  obtain ⟨M, hM, hMl, hM3⟩ : ∃ M : Nat, M = N / 3 * 3 ∧ M < 90 ∧ M % 3 = 0 := ⟨_, rfl, by omega, by omega⟩
  have hq : (N : Int).tdiv 3 = ((N / 3 : Nat) : Int) := by rw [Int.tdiv_eq_ediv_of_nonneg (by omega)]; omega
  have hq2 : ((N / 3 : Nat) : Int) * 3 = (M : Int) := by omega
  have hq3 : N / 3 ≤ 30 := by omega
  generalize N / 3 = q at *
  have hMw : IntKind.i64.wrap (M : Int) = M := by rw [IntKind.wrap_i64]; omega
  have hz' := Lib.hid hz
  have hnc : wantN (k % 3) M ≤ 100 := by unfold wantN; split <;> omega
  have htop : wantN (k % 3) M = 0 ∨ top (k % 3) (wantN (k % 3) M) = M := by
    unfold wantN top
    rw [if_pos hz, if_pos hz]; omega
  have hwant : (M : Int).tdiv 3 = (wantN (k % 3) M : Int) := by
    unfold wantN
    rw [if_pos hz, Int.tdiv_eq_ediv_of_nonneg (by omega)]; omega
  have htr := Lib.hid (fun j => tris_rng (k % 3) hks M j (by omega))
  have htl := tris_rng_length (k % 3) hks M
  rw [← htl] at hnc htop hwant
  have HTP := Lib.hid htop
  clear htop htl
  generalize hT : (tris (k % 3) (rng M)).length = T at *
  have HTT := Lib.hid hT
  have htopN : ∀ j, j ≤ 100 → top (k % 3) j ≤ 400 := fun j hj => by unfold top; split <;> (try split) <;> omega
  have HT0 := Lib.hid (show top (k % 3) 0 = 0 by unfold top; split <;> simp)
  have HTN := Lib.hid htopN
  clear hz hks htopN hT
  have hmm := @run_makeMap Try.prog
  clear hM
  go_enter Try.func5, Try.ntmps5
  go_wp2_with fail
  refine (awake10_any _).mono ?_
  rintro e w1 ⟨rfl, e0⟩
  go_wp2_with fail
  have HMN := Lib.hid hN
  clear hN
  go_loopg [27, 6] M (fun n0 iv pv wr => ∃ (j : Nat), j + n0 = M ∧ iv = .int .i64 j ∧ OwnI wr w1.heap.size pv (rng j) ∧ Ext w1 wr)
  case atStart => exact ⟨0, by omega, rfl, OwnI.nil _ _, Ext.refl _⟩
  case round =>
    obtain ⟨j, hjk, rfl, o1, e1⟩ := hrel
    by_cases hj : j < M
    · have hjI : (j : Int) < (M : Int) := by omega
      have HN := Lib.hid (rng_succ j)
      have o2 := o1.ext ((Ext.refl wr).alloc #[.int .i64 j] 3)
      have e2 := e1.alloc #[.int .i64 j] 3
      have hsz := e1.size
      have hnl := rng_length j
      clear o1 e1
      go_wp2_with (at_builtin; refine wpList_append_int rfl _ _ rfl w1.heap.size _ _ rfl o2 wr.heap.size 1 (j : Int) rfl (by simp) (by omega) (by simp; omega) ?_)
      intro v4 w4 o4 K4 hk4
      have e4 := Ext.calm_trans e2 K4 (fun g hg => (o2.lt g (Option.mem_toList.1 hg)).1)
      obtain ⟨ao4, c4', rfl, -, -⟩ := o4.slice
      clear o2 e2 K4 hk4
      go_wp2
      go_roundg (gk - 1)
      case measure => omega
      case rel => exact ⟨j + 1, by omega, by simp, by rw [HN.out]; exact o4, e4⟩
    · obtain rfl : j = M := by omega
      have hy : ∀ y ∈ rng j, (Lit.int .i64 y).wf = true := fun y hy => by
        obtain ⟨z, hz, rfl⟩ := List.mem_map.1 hy
        have := List.mem_range.1 hz
        exact WalkArith.wf_i64 (by omega)
      have A1 := o1.arr hy
      have hlen := rng_length j
      clear hy
      go_wp2_with fail
      refine (triangles_any _ (k % 3) _ _ A1 (by omega)).mono ?_
      rintro e w3 ⟨v3, rfl, o3, e3⟩
      have e03 := (e0.trans e1).trans e3
      have hb := o3.lt
      have MP := Mp.made anyV w3
      have x4 : Ext w3 (w3.alloc (.map #[] 0)) := ⟨(Ext.refl w3).bel.alloc (Nat.le_refl _) _⟩
      have o4 := o3.ext x4
      have hG : ∀ kk, v3.ownBlock = some kk → kk ≠ w3.heap.size := fun kk h => by have := (hb kk h).2; omega
      obtain ⟨ao3, c3, hv3, -, -⟩ := o4.slice
      rw [HTT.out] at hv3
      subst hv3
      clear A1 o1 e1 e3 o3 hb
      go_wp2_with fail
      have hb3 := e03.size
      generalize hbm : w3.heap.size = bm at *
      generalize w3.alloc (.map #[] 0) = w4 at *
      have hx34 := x4.size
      rw [hbm] at hx34
      have e04 := e03.trans x4
      go_loopg [42] T (fun n0 iv wx => ∃ (i : Nat), i + n0 = T ∧ iv = .int .i64 i ∧ Mp anyV wx bm (mapF (top (k % 3) i)) (top (k % 3) i) ∧ Calm [bm] w4 wx)
      case atStart => exact ⟨0, by omega, by simp, by rw [HT0.out, mapF_zero]; exact MP, Calm.refl _ _⟩
      case round =>
        generalize wr = wz at *
        obtain ⟨i, hik, rfl, MQ, KC⟩ := hrel
        by_cases hi : i < T
        · have hiI : (i : Int) < (T : Int) := by omega
          obtain ⟨A, B, C, ht, hA, hB, hC, hABC, lA, lB, lC⟩ := htr.out i hi
          obtain ⟨g, t, rfl, -, ht', hc⟩ := (o4.calm KC (fun kk h => by simpa using hG kk h)).nth i (by rw [HTT.out]; exact hi)
          rw [ht] at ht'
          cases ht'
          obtain ⟨c0, c1, c2⟩ := cells_of hc
          simp only [LT] at c0 c1 c2
          have htt := HTN.out i (by omega)
          have HABC := Lib.hid hABC
          generalize top (k % 3) i = tp at *
          clear hc ht hABC
          have x5 := (Ext.refl wz).alloc #[.int .i64 (A : Int), .int .i64 (B : Int), .int .i64 (C : Int)] 26
          have MP0 := MQ.ext x5
          have KC0 := KC.trans (x5.calm [bm])
          clear MQ KC x5
          go_wp2_with fail
          generalize wz.alloc (.cells #[.int .i64 (A : Int), .int .i64 (B : Int), .int .i64 (C : Int)] 26) = wq at *
          have hix := idx3 (.int .i64 (A : Int)) (.int .i64 (B : Int)) (.int .i64 (C : Int))
          refine wp_loop_rounds 4 ?_
          rw [rounds_succ]
          go_wp2_with (at_mapUpdate; refine wpList_store_mp rfl _ _ _ 34 rfl 4 Try.underlying34 anyV bm _ (mapF tp) rfl MP0 (by unfold maxLen; omega) (A : Int) (wfi (by omega)) (.bool true) rfl rfl rfl ?_; intro wq1 MP1 KQ1)
          rw [mapF_put _ _ hA, mapF_size _ _ hA] at MP1
          have KC1 := KC0.trans KQ1
          clear MP0 KC0 KQ1
          rw [rounds_succ]
          go_wp2_with (at_mapUpdate; refine wpList_store_mp rfl _ _ _ 34 rfl 4 Try.underlying34 anyV bm _ (mapF (max tp (A + 1))) rfl MP1 (by unfold maxLen; omega) (B : Int) (wfi (by omega)) (.bool true) rfl rfl rfl ?_; intro wq2 MP2 KQ2)
          rw [mapF_put _ _ hB, mapF_size _ _ hB] at MP2
          have KC2 := KC1.trans KQ2
          clear MP1 KC1 KQ2
          rw [rounds_succ]
          go_wp2_with (at_mapUpdate; refine wpList_store_mp rfl _ _ _ 34 rfl 4 Try.underlying34 anyV bm _ (mapF (max (max tp (A + 1)) (B + 1))) rfl MP2 (by unfold maxLen; omega) (C : Int) (wfi (by omega)) (.bool true) rfl rfl rfl ?_; intro wq3 MP3 KQ3)
          rw [mapF_put _ _ hC, mapF_size _ _ hC] at MP3
          have KC3 := KC2.trans KQ3
          clear MP2 KC2 KQ3
          rw [rounds_succ]
          go_wp2
          go_roundg (T - (i + 1))
          case measure => omega
          case rel => exact ⟨i + 1, by omega, by simp, by rw [← HABC.out]; exact MP3, KC3⟩
        · obtain rfl : i = T := by omega
          have hlenm := fun ty => MQ.len 34 4 Try.underlying34 ty
          have e9 := Ext.calm_trans e04 KC (fun g hg => by simp at hg; omega)
          rcases HTP.out with h0 | h0
          · have h0' : ((i : Int) == 0) = true := by simp [h0]
            go_wp2
            all_goals (go_ret; exact ⟨rfl, e9⟩)
          · rw [h0] at hlenm
            by_cases h1 : i = 0
            · have h0' : ((i : Int) == 0) = true := by simp [h1]
              go_wp2
              all_goals (go_ret; exact ⟨rfl, e9⟩)
            · have h0' : ((i : Int) == 0) = false := by simp; omega
              go_wp2
              all_goals (go_ret; exact ⟨rfl, e9⟩)

set_option maxRecDepth 100000 in
set_option maxHeartbeats 2000000 in
theorem counts1 {w : World} (k n : Int) (hk : 0 ≤ k ∧ k ≤ 255) (hn : 0 ≤ n ∧ n ≤ 255) (hz : ¬ k % 3 = 0) : Calls Try.prog 5 #[.int .u8 k, .int .u8 n] w fun e w' => e = .returned (.bool true) ∧ Ext w w' := by
  have hk0 : (k % 3 == 0) = false := by simp; omega
  have hks : k % 3 = 0 ∨ k % 3 = 1 ∨ k % 3 = 2 := by omega
  obtain ⟨N, hN, hNl⟩ : ∃ N : Nat, n % 90 = N ∧ N < 90 := ⟨(n % 90).toNat, by omega, by omega⟩
  have hNw : IntKind.i64.wrap (N : Int) = N := by rw [IntKind.wrap_i64]; omega
  obtain ⟨M, hM, hMl, hM3⟩ : ∃ M : Nat, M = N ∧ M < 90 ∧ True := ⟨_, rfl, by omega, trivial⟩
  skip
  subst hM
  skip
  skip
  have hMw : IntKind.i64.wrap (M : Int) = M := by rw [IntKind.wrap_i64]; omega
  have hz' := Lib.hid hz
  have hnc : wantN (k % 3) M ≤ 100 := by unfold wantN; split <;> omega
  have htop : wantN (k % 3) M = 0 ∨ top (k % 3) (wantN (k % 3) M) = M := by
    unfold wantN top
    rw [if_neg hz, if_neg hz]; rcases (by omega : M - 2 = 0 ∨ M - 2 ≠ 0) with h | h; exact .inl h; rw [if_neg h]; omega
  have hwant : (if ((M : Int) - 2) < 0 then (0 : Int) else (M : Int) - 2) = (wantN (k % 3) M : Int) := by
    unfold wantN
    rw [if_neg hz]; split <;> omega
  have htr := Lib.hid (fun j => tris_rng (k % 3) hks M j (by omega))
  have htl := tris_rng_length (k % 3) hks M
  rw [← htl] at hnc htop hwant
  have HTP := Lib.hid htop
  clear htop htl
  generalize hT : (tris (k % 3) (rng M)).length = T at *
  have HTT := Lib.hid hT
  have htopN : ∀ j, j ≤ 100 → top (k % 3) j ≤ 400 := fun j hj => by unfold top; split <;> (try split) <;> omega
  have HT0 := Lib.hid (show top (k % 3) 0 = 0 by unfold top; split <;> simp)
  have HTN := Lib.hid htopN
  clear hz hks htopN hT
  have hmm := @run_makeMap Try.prog
  skip
  go_enter Try.func5, Try.ntmps5
  go_wp2_with fail
  refine (awake10_any _).mono ?_
  rintro e w1 ⟨rfl, e0⟩
  go_wp2_with fail
  have HMN := Lib.hid hN
  clear hN
  go_loopg [27, 6] M (fun n0 iv pv wr => ∃ (j : Nat), j + n0 = M ∧ iv = .int .i64 j ∧ OwnI wr w1.heap.size pv (rng j) ∧ Ext w1 wr)
  case atStart => exact ⟨0, by omega, rfl, OwnI.nil _ _, Ext.refl _⟩
  case round =>
    obtain ⟨j, hjk, rfl, o1, e1⟩ := hrel
    by_cases hj : j < M
    · have hjI : (j : Int) < (M : Int) := by omega
      have HN := Lib.hid (rng_succ j)
      have o2 := o1.ext ((Ext.refl wr).alloc #[.int .i64 j] 3)
      have e2 := e1.alloc #[.int .i64 j] 3
      have hsz := e1.size
      have hnl := rng_length j
      clear o1 e1
      go_wp2_with (at_builtin; refine wpList_append_int rfl _ _ rfl w1.heap.size _ _ rfl o2 wr.heap.size 1 (j : Int) rfl (by simp) (by omega) (by simp; omega) ?_)
      intro v4 w4 o4 K4 hk4
      have e4 := Ext.calm_trans e2 K4 (fun g hg => (o2.lt g (Option.mem_toList.1 hg)).1)
      obtain ⟨ao4, c4', rfl, -, -⟩ := o4.slice
      clear o2 e2 K4 hk4
      go_wp2
      go_roundg (gk - 1)
      case measure => omega
      case rel => exact ⟨j + 1, by omega, by simp, by rw [HN.out]; exact o4, e4⟩
    · obtain rfl : j = M := by omega
      have hy : ∀ y ∈ rng j, (Lit.int .i64 y).wf = true := fun y hy => by
        obtain ⟨z, hz, rfl⟩ := List.mem_map.1 hy
        have := List.mem_range.1 hz
        exact WalkArith.wf_i64 (by omega)
      have A1 := o1.arr hy
      have hlen := rng_length j
      clear hy
      go_wp2_with fail
      refine (triangles_any _ (k % 3) _ _ A1 (by omega)).mono ?_
      rintro e w3 ⟨v3, rfl, o3, e3⟩
      have e03 := (e0.trans e1).trans e3
      have hb := o3.lt
      have MP := Mp.made anyV w3
      have x4 : Ext w3 (w3.alloc (.map #[] 0)) := ⟨(Ext.refl w3).bel.alloc (Nat.le_refl _) _⟩
      have o4 := o3.ext x4
      have hG : ∀ kk, v3.ownBlock = some kk → kk ≠ w3.heap.size := fun kk h => by have := (hb kk h).2; omega
      obtain ⟨ao3, c3, hv3, -, -⟩ := o4.slice
      rw [HTT.out] at hv3
      subst hv3
      clear A1 o1 e1 e3 o3 hb
      go_wp2_with fail
      have hb3 := e03.size
      generalize hbm : w3.heap.size = bm at *
      generalize w3.alloc (.map #[] 0) = w4 at *
      have hx34 := x4.size
      rw [hbm] at hx34
      have e04 := e03.trans x4
      go_loopg [42] T (fun n0 iv wx => ∃ (i : Nat), i + n0 = T ∧ iv = .int .i64 i ∧ Mp anyV wx bm (mapF (top (k % 3) i)) (top (k % 3) i) ∧ Calm [bm] w4 wx)
      case atStart => exact ⟨0, by omega, by simp, by rw [HT0.out, mapF_zero]; exact MP, Calm.refl _ _⟩
      case round =>
        generalize wr = wz at *
        obtain ⟨i, hik, rfl, MQ, KC⟩ := hrel
        by_cases hi : i < T
        · have hiI : (i : Int) < (T : Int) := by omega
          obtain ⟨A, B, C, ht, hA, hB, hC, hABC, lA, lB, lC⟩ := htr.out i hi
          obtain ⟨g, t, rfl, -, ht', hc⟩ := (o4.calm KC (fun kk h => by simpa using hG kk h)).nth i (by rw [HTT.out]; exact hi)
          rw [ht] at ht'
          cases ht'
          obtain ⟨c0, c1, c2⟩ := cells_of hc
          simp only [LT] at c0 c1 c2
          have htt := HTN.out i (by omega)
          have HABC := Lib.hid hABC
          generalize top (k % 3) i = tp at *
          clear hc ht hABC
          have x5 := (Ext.refl wz).alloc #[.int .i64 (A : Int), .int .i64 (B : Int), .int .i64 (C : Int)] 26
          have MP0 := MQ.ext x5
          have KC0 := KC.trans (x5.calm [bm])
          clear MQ KC x5
          go_wp2_with fail
          generalize wz.alloc (.cells #[.int .i64 (A : Int), .int .i64 (B : Int), .int .i64 (C : Int)] 26) = wq at *
          have hix := idx3 (.int .i64 (A : Int)) (.int .i64 (B : Int)) (.int .i64 (C : Int))
          refine wp_loop_rounds 4 ?_
          rw [rounds_succ]
          go_wp2_with (at_mapUpdate; refine wpList_store_mp rfl _ _ _ 34 rfl 4 Try.underlying34 anyV bm _ (mapF tp) rfl MP0 (by unfold maxLen; omega) (A : Int) (wfi (by omega)) (.bool true) rfl rfl rfl ?_; intro wq1 MP1 KQ1)
          rw [mapF_put _ _ hA, mapF_size _ _ hA] at MP1
          have KC1 := KC0.trans KQ1
          clear MP0 KC0 KQ1
          rw [rounds_succ]
          go_wp2_with (at_mapUpdate; refine wpList_store_mp rfl _ _ _ 34 rfl 4 Try.underlying34 anyV bm _ (mapF (max tp (A + 1))) rfl MP1 (by unfold maxLen; omega) (B : Int) (wfi (by omega)) (.bool true) rfl rfl rfl ?_; intro wq2 MP2 KQ2)
          rw [mapF_put _ _ hB, mapF_size _ _ hB] at MP2
          have KC2 := KC1.trans KQ2
          clear MP1 KC1 KQ2
          rw [rounds_succ]
          go_wp2_with (at_mapUpdate; refine wpList_store_mp rfl _ _ _ 34 rfl 4 Try.underlying34 anyV bm _ (mapF (max (max tp (A + 1)) (B + 1))) rfl MP2 (by unfold maxLen; omega) (C : Int) (wfi (by omega)) (.bool true) rfl rfl rfl ?_; intro wq3 MP3 KQ3)
          rw [mapF_put _ _ hC, mapF_size _ _ hC] at MP3
          have KC3 := KC2.trans KQ3
          clear MP2 KC2 KQ3
          rw [rounds_succ]
          go_wp2
          go_roundg (T - (i + 1))
          case measure => omega
          case rel => exact ⟨i + 1, by omega, by simp, by rw [← HABC.out]; exact MP3, KC3⟩
        · obtain rfl : i = T := by omega
          have hlenm := fun ty => MQ.len 34 4 Try.underlying34 ty
          have e9 := Ext.calm_trans e04 KC (fun g hg => by simp at hg; omega)
          rcases HTP.out with h0 | h0
          · have h0' : ((i : Int) == 0) = true := by simp [h0]
            go_wp2
            all_goals (go_ret; exact ⟨rfl, e9⟩)
          · rw [h0] at hlenm
            by_cases h1 : i = 0
            · have h0' : ((i : Int) == 0) = true := by simp [h1]
              go_wp2
              all_goals (go_ret; exact ⟨rfl, e9⟩)
            · have h0' : ((i : Int) == 0) = false := by simp; omega
              go_wp2
              all_goals (go_ret; exact ⟨rfl, e9⟩)

theorem meshCounts_row {w : World} (k n : Int) (hk : 0 ≤ k ∧ k ≤ 255) (hn : 0 ≤ n ∧ n ≤ 255) : Calls Try.prog 5 #[.int .u8 k, .int .u8 n] w fun e w' => e = .returned (.bool true) ∧ Ext w w' := by
  by_cases hz : k % 3 = 0
  · exact counts0 k n hk hn hz
  · exact counts1 k n hk hn hz
end Go.Proofs.Ytcpgcealaomleaa
