/-
  DERIVED. THE WALKS of layer 10 (mesh): lists, strips, fans.
-/
import Derived.Test.YtcpgcealaomleaaGs
import Derived.Test.YtcpgcealaomleaaArr
import Derived.Test.YtcpgcealaomleaaBlkLaws
import Derived.Deep.DeepCutAuto
import Derived.RegionTactic
import Derived.Deep.RegionLaw
namespace Go.Proofs.Ytcpgcealaomleaa
open Go.RowKit
set_option linter.unusedVariables false

/-- a triangle of indices -/
structure T3 where
  a : Int
  b : Int
  c : Int
deriving DecidableEq

theorem info_t3 : (Try.prog.info? 26).map (fun i => (i.zero, i.size, i.bytes)) = some (some (.agg #[.int .i64 0, .int .i64 0, .int .i64 0]), 3, 24) := by kernel_rfl
def LT : Lay T3 where
  st := 24
  et := 26
  n := 3
  bytes := 24
  zero := .agg #[.int .i64 0, .int .i64 0, .int .i64 0]
  cells := fun t => [.int .i64 t.a, .int .i64 t.b, .int .i64 t.c]
  len := fun _ => rfl
  one := fun x u hu => by
    simp at hu
    rcases hu with rfl | rfl | rfl <;> rfl
  pos := by decide
  small := by decide
  und := Try.underlying24
  info := info_t3
  zcells := rfl

def at3 (l : List Int) (n : Nat) : T3 := ⟨l.getD (n * 3) 0, l.getD (n * 3 + 1) 0, l.getD (n * 3 + 2) 0⟩
def strip3 (l : List Int) (n : Nat) : T3 := if n % 2 = 1 then ⟨l.getD (n + 1) 0, l.getD n 0, l.getD (n + 2) 0⟩ else ⟨l.getD n 0, l.getD (n + 1) 0, l.getD (n + 2) 0⟩
def fan3 (l : List Int) (n : Nat) : T3 := ⟨l.getD 0 0, l.getD (n + 1) 0, l.getD (n + 2) 0⟩
def firsts (f : Nat → T3) (n : Nat) : List T3 := (List.range n).map f
theorem firsts_succ (f : Nat → T3) (n : Nat) : firsts f (n + 1) = firsts f n ++ [f n] := by simp [firsts, List.range_succ]
theorem firsts_length (f : Nat → T3) (n : Nat) : (firsts f n).length = n := by simp [firsts]
theorem firsts_get (f : Nat → T3) (n j : Nat) (h : j < n) : (firsts f n)[j]? = some (f j) := by simp [firsts, h]

/-- a number of a slice that came in -/
theorem Arr.at {w : World} {k : IntKind} {ao : Option Addr} {n c : Nat} {xs : List Int} (h : Arr w k (.slice ao n c) xs) (j : Nat) (hj : j < xs.length) : ∃ g off, ao = some ⟨g, off, none⟩ ∧ n = xs.length ∧ ∀ j, j < xs.length → w.cell? ⟨g, off + j, none⟩ = some (.int k (xs.getD j 0)) := by
  obtain ⟨⟨ao', c', e, h0, h1, h2⟩, _, _⟩ := h
  cases e
  obtain ⟨b, off, rfl, hc⟩ := h1 (by intro e; subst e; simp at hj)
  exact ⟨b, off, rfl, rfl, hc⟩
theorem cells3 (w : World) (t : T3) : ∀ i u, (LT.cells t)[i]? = some u → (w.alloc (.cells #[.int .i64 t.a, .int .i64 t.b, .int .i64 t.c] 26)).cell? ⟨w.heap.size, i, none⟩ = some u := fun i u hu => by
  rw [(Blk.new w _ _).cell]
  simpa [LT] using hu

theorem run_array3 (w : World) (a : Option Addr) (n c : Nat) (h : 3 ≤ n) : (Instr.arrayAt 26 (.slice a n c)).run Try.prog w = .ok (.pointer a) w := by
  unfold Instr.arrayAt
  simp [go_sem, underlying, Try.underlying26, Nat.not_lt.2 h]

set_option maxRecDepth 100000 in
theorem list_any (w : World) (v : Value) (l : List Int) (h : Arr w .i64 v l) (hl : l.length ≤ 100000) : Calls Try.prog 10 #[v] w fun e w' => ∃ v', e = .returned v' ∧ OwnG LT w' w.heap.size v' (firsts (at3 l) (l.length / 3)) ∧ Ext w w' := by
  have hA := h
  obtain ⟨⟨ao, c, rfl, hcap, -, -⟩, -, -⟩ := h
  have hlI : (l.length : Int) ≤ 100000 := by omega
  have hq : (l.length : Int).tdiv 3 = ((l.length / 3 : Nat) : Int) := by rw [Int.tdiv_eq_ediv_of_nonneg (by omega)]; omega
  have hq3 : l.length / 3 * 3 ≤ l.length := by omega
  generalize l.length / 3 = m at *
  go_enter Try.func10, Try.ntmps10
  go_wp2_with fail
  go_loopg [8, 3] m (fun k iv pv wr => ∃ (j : Nat), j + k = m ∧ iv = .int .i64 j ∧ OwnG LT wr w.heap.size pv (firsts (at3 l) j) ∧ Ext w wr)
  case atStart => exact ⟨0, by omega, rfl, OwnG.nil _ _ _, Ext.refl _⟩
  case round =>
    obtain ⟨j, hjk, rfl, o1, e1⟩ := hrel
    by_cases hj : j < m
    · have hjI : (j : Int) < (m : Int) := by omega
      obtain ⟨b, off, rfl, -, hc⟩ := (hA.ext e1).at (j * 3) (by omega)
      have R3 : wr.rangeAt b (off + j * 3) (LT.cells (at3 l j)) := fun i u hu => by
        match i, hu with
        | 0, hu => cases hu; exact hc (j * 3) (by omega)
        | 1, hu => cases hu; exact hc (j * 3 + 1) (by omega)
        | 2, hu => cases hu; exact hc (j * 3 + 2) (by omega)
        | i + 3, hu => cases hu
      clear hc
      have o2 := o1.ext ((Ext.refl wr).alloc #[.int .i64 (at3 l j).a, .int .i64 (at3 l j).b, .int .i64 (at3 l j).c] 26)
      have e2 := e1.alloc #[.int .i64 (at3 l j).a, .int .i64 (at3 l j).b, .int .i64 (at3 l j).c] 26
      have hcn := cells3 wr (at3 l j)
      have hz := e1.size
      have hra := run_array3 wr (some ⟨b, off + j * 3, none⟩) (l.length - j * 3) (c - j * 3) (by omega)
      have hsn := Lib.hid (firsts_succ (at3 l) j)
      have hfl := firsts_length (at3 l) j
      generalize at3 l j = t at R3 o2 e2 hcn hsn
      clear o1 e1
      go_wp2_with (first
        | refine wpList_load_mid rfl 26 (.tmp 16) rfl b (off + j * 3) rfl [.int .i64 t.a, .int .i64 t.b, .int .i64 t.c] _ R3 Try.underlying26 rfl (by kernel_rfl) ?_
        | (at_builtin; refine wpList_append_g1 LT rfl _ _ rfl w.heap.size _ _ rfl o2 wr.heap.size 1 t rfl hcn (by rw [hfl]; omega) (by simp; omega) ?_))
      intro v4 w4 o4 K4 hk4
      have e4 := Ext.calm_trans e2 K4 (fun g hg => (o2.lt g (Option.mem_toList.1 hg)).1)
      obtain ⟨ao4, c4', rfl, -, -⟩ := o4.slice
      clear o2 e2 hcn K4 hk4
      go_wp2
      go_roundg (gk - 1)
      case measure => omega
      case rel => exact ⟨j + 1, by omega, rfl, by rw [hsn.out]; exact o4, e4⟩
    · obtain rfl : j = m := by omega
      go_wp2
      go_ret
      exact ⟨_, rfl, o1, e1⟩
theorem range3 {w : World} {b off : Nat} {l : List Int} (hc : ∀ j, j < l.length → w.cell? ⟨b, off + j, none⟩ = some (.int .i64 (l.getD j 0))) (j : Nat) (hj : j + 2 < l.length) : w.rangeAt b (off + j) [.int .i64 (l.getD j 0), .int .i64 (l.getD (j + 1) 0), .int .i64 (l.getD (j + 2) 0)] := fun i u hu => by
  match i, hu with
  | 0, hu => cases hu; exact hc j (by omega)
  | 1, hu => cases hu; exact hc (j + 1) (by omega)
  | 2, hu => cases hu; exact hc (j + 2) (by omega)
  | i + 3, hu => cases hu
set_option maxRecDepth 100000 in
theorem strip_any (w : World) (v : Value) (l : List Int) (h : Arr w .i64 v l) (hl : l.length ≤ 100000) : Calls Try.prog 11 #[v] w fun e w' => ∃ v', e = .returned v' ∧ OwnG LT w' w.heap.size v' (firsts (strip3 l) (l.length - 2)) ∧ Ext w w' := by
  have hA := h
  obtain ⟨⟨ao, c, rfl, hcap, -, -⟩, -, -⟩ := h
  have hlI : (l.length : Int) ≤ 100000 := by omega
  go_enter Try.func11, Try.ntmps11
  go_wp2_with fail
  go_loopg [9, 3] (l.length - 2) (fun k iv pv wr => ∃ (j : Nat), j + k = l.length - 2 ∧ iv = .int .i64 j ∧ OwnG LT wr w.heap.size pv (firsts (strip3 l) j) ∧ Ext w wr)
  case atStart => exact ⟨0, by omega, rfl, OwnG.nil _ _ _, Ext.refl _⟩
  case round =>
    obtain ⟨j, hjk, rfl, o1, e1⟩ := hrel
    by_cases hj : j < l.length - 2
    · have hjI : (j : Int) < (l.length : Int) - 2 := by omega
      obtain ⟨b, off, rfl, -, hc⟩ := (hA.ext e1).at j (by omega)
      have R3 := range3 hc j (by omega)
      have hpar : (j : Int).tmod 2 = ((j % 2 : Nat) : Int) := by rw [Int.tmod_eq_emod_of_nonneg (by omega)]; omega
      have hz := e1.size
      have hra := run_array3 wr (some ⟨b, off + j, none⟩) (l.length - j) (c - j) (by omega)
      have hsn := Lib.hid (firsts_succ (strip3 l) j)
      have hfl := firsts_length (strip3 l) j
      have hcase : j % 2 = 0 ∨ j % 2 = 1 := by omega
      clear hc
      rcases hcase with hp | hp
      · have ht : strip3 l j = ⟨l.getD j 0, l.getD (j + 1) 0, l.getD (j + 2) 0⟩ := by simp [strip3, hp]
        have HT := Lib.hid ht
        rw [hp] at hpar
        generalize l.getD j 0 = x at *
        generalize l.getD (j + 1) 0 = y at *
        generalize l.getD (j + 2) 0 = z at *
        clear ht hp
        have x2 := ((Ext.refl wr).alloc #[.int .i64 x, .int .i64 y, .int .i64 z] 26).alloc #[.int .i64 x, .int .i64 y, .int .i64 z] 26
        have o2 := o1.ext x2
        have e2 := e1.trans x2
        have hcn := cells3 (wr.alloc (.cells #[.int .i64 x, .int .i64 y, .int .i64 z] 26)) ⟨x, y, z⟩
        rw [show (wr.alloc (.cells #[.int .i64 x, .int .i64 y, .int .i64 z] 26)).heap.size = wr.heap.size + 1 by simp] at hcn
        clear o1 e1 x2
        go_wp2_with (first
          | refine wpList_load_mid rfl 26 (.tmp 15) rfl b (off + j) rfl [.int .i64 x, .int .i64 y, .int .i64 z] _ R3 Try.underlying26 rfl (by kernel_rfl) ?_
          | (at_builtin; refine wpList_append_g1 LT rfl _ _ rfl w.heap.size _ _ rfl o2 (wr.heap.size + 1) 1 ⟨x, y, z⟩ rfl hcn (by rw [hfl]; omega) (by simp; omega) ?_))
        intro v4 w4 o4 K4 hk4
        have e4 := Ext.calm_trans e2 K4 (fun g hg => (o2.lt g (Option.mem_toList.1 hg)).1)
        obtain ⟨ao4, c4', rfl, -, -⟩ := o4.slice
        clear o2 e2 hcn K4 hk4
        go_wp2
        go_roundg (gk - 1)
        case measure => omega
        case rel => exact ⟨j + 1, by omega, rfl, by rw [hsn.out, HT.out]; exact o4, e4⟩
      · have ht : strip3 l j = ⟨l.getD (j + 1) 0, l.getD j 0, l.getD (j + 2) 0⟩ := by simp [strip3, hp]
        have HT := Lib.hid ht
        rw [hp] at hpar
        generalize l.getD j 0 = x at *
        generalize l.getD (j + 1) 0 = y at *
        generalize l.getD (j + 2) 0 = z at *
        clear ht hp
        have x2 := ((Ext.refl wr).alloc #[.int .i64 y, .int .i64 x, .int .i64 z] 26).alloc #[.int .i64 y, .int .i64 x, .int .i64 z] 26
        have o2 := o1.ext x2
        have e2 := e1.trans x2
        have hcn := cells3 (wr.alloc (.cells #[.int .i64 y, .int .i64 x, .int .i64 z] 26)) ⟨y, x, z⟩
        rw [show (wr.alloc (.cells #[.int .i64 y, .int .i64 x, .int .i64 z] 26)).heap.size = wr.heap.size + 1 by simp] at hcn
        clear o1 e1 x2
        go_wp2_with (first
          | refine wpList_load_mid rfl 26 (.tmp 15) rfl b (off + j) rfl [.int .i64 x, .int .i64 y, .int .i64 z] _ R3 Try.underlying26 rfl (by kernel_rfl) ?_
          | (at_builtin; refine wpList_append_g1 LT rfl _ _ rfl w.heap.size _ _ rfl o2 (wr.heap.size + 1) 1 ⟨y, x, z⟩ rfl hcn (by rw [hfl]; omega) (by simp; omega) ?_))
        intro v4 w4 o4 K4 hk4
        have e4 := Ext.calm_trans e2 K4 (fun g hg => (o2.lt g (Option.mem_toList.1 hg)).1)
        obtain ⟨ao4, c4', rfl, -, -⟩ := o4.slice
        clear o2 e2 hcn K4 hk4
        go_wp2
        go_roundg (gk - 1)
        case measure => omega
        case rel => exact ⟨j + 1, by omega, rfl, by rw [hsn.out, HT.out]; exact o4, e4⟩
    · obtain rfl : j = l.length - 2 := by omega
      have hjI : ¬ ((l.length - 2 : Nat) : Int) < (l.length : Int) - 2 := by omega
      go_wp2
      go_ret
      exact ⟨_, rfl, o1, e1⟩
set_option maxRecDepth 100000 in
set_option maxHeartbeats 2000000 in
theorem fan_any (w : World) (v : Value) (l : List Int) (h : Arr w .i64 v l) (hl : l.length ≤ 100000) : Calls Try.prog 12 #[v] w fun e w' => ∃ v', e = .returned v' ∧ OwnG LT w' w.heap.size v' (firsts (fan3 l) (l.length - 2)) ∧ Ext w w' := by
  have hA := h
  obtain ⟨⟨ao, c, rfl, hcap, -, -⟩, -, -⟩ := h
  have hlI : (l.length : Int) ≤ 100000 := by omega
  go_enter Try.func12, Try.ntmps12
  go_wp2_with fail
  go_loopg [8, 3] (l.length - 2) (fun k iv pv wr => ∃ (j : Nat), j + k = l.length - 2 ∧ iv = .int .i64 j ∧ OwnG LT wr w.heap.size pv (firsts (fan3 l) j) ∧ Ext w wr)
  case atStart => exact ⟨0, by omega, rfl, OwnG.nil _ _ _, Ext.refl _⟩
  case round =>
    obtain ⟨j, hjk, rfl, o1, e1⟩ := hrel
    by_cases hj : j < l.length - 2
    · have hjI : (j : Int) < (l.length : Int) - 2 := by omega
      obtain ⟨b, off, rfl, -, hc⟩ := (hA.ext e1).at j (by omega)
      have hbl : b < wr.heap.size := cell_lt (hc 0 (by omega))
      have c0 := hc 0 (by omega)
      rw [Nat.add_zero] at c0
      have c1 := hc (j + 1) (by omega)
      have c2 := hc (j + 2) (by omega)
      have gne : 0 < l.length := by omega
      have p1 : (0 : Int) ≤ (j : Int) + 1 := by omega
      have p2 : (0 : Int) ≤ (j : Int) + 2 := by omega
      have p3 : ((j : Int) + 2).toNat = j + 2 := by omega
      have wp1 : IntKind.i64.wrap ((j : Int) + 1) = (j : Int) + 1 := by rw [IntKind.wrap_i64]; omega
      have wp2 : IntKind.i64.wrap ((j : Int) + 2) = (j : Int) + 2 := by rw [IntKind.wrap_i64]; omega
      have g1 : (j : Int) + 1 < (l.length : Int) := by omega
      have g2 : (j : Int) + 2 < (l.length : Int) := by omega
      have hz := e1.size
      have hsn := Lib.hid (firsts_succ (fan3 l) j)
      have hfl := firsts_length (fan3 l) j
      have HT := Lib.hid (show fan3 l j = ⟨l.getD 0 0, l.getD (j + 1) 0, l.getD (j + 2) 0⟩ from rfl)
      generalize l.getD 0 0 = x at *
      generalize l.getD (j + 1) 0 = y at *
      generalize l.getD (j + 2) 0 = z at *
      obtain ⟨ao1, cc1, rfl, -, -⟩ := o1.slice
      rw [hfl] at o1
      clear hc
      go_wp2_with fail
      have x2 := ((Ext.refl wr).alloc #[.int .i64 x, .int .i64 y, .int .i64 z] 26).drew
      have o2 := o1.ext x2
      have e2 := e1.trans x2
      have hcn := cells3 wr ⟨x, y, z⟩
      clear x2
      go_region_law (refine step_append_g1 LT rfl (.tmp 11) (.tmp 26) rfl w.heap.size _ _ rfl o2 wr.heap.size 1 ⟨x, y, z⟩ rfl hcn (by rw [hfl]; omega) (by simp; omega) ?_; intro v4 w4 o4 K4 hk4; have e4 := Ext.calm_trans e2 K4 (fun g hg => (o2.lt g (Option.mem_toList.1 hg)).1); obtain ⟨ao4, c4', rfl, -, -⟩ := o4.slice; clear o2 e2 hcn K4 hk4)
      all_goals go_wp2
      all_goals
        go_roundg (gk - 1)
        case measure => omega
        case rel => exact ⟨j + 1, by omega, rfl, by rw [hsn.out, HT.out]; have h5 := o4; simp only [List.length_append, hfl, List.length_singleton] at h5; exact h5, e4⟩
    · obtain rfl : j = l.length - 2 := by omega
      have hjI : ¬ ((l.length - 2 : Nat) : Int) < (l.length : Int) - 2 := by omega
      go_wp2
      go_ret
      exact ⟨_, rfl, o1, e1⟩
def tris (k : Int) (l : List Int) : List T3 := if k = 0 then firsts (at3 l) (l.length / 3) else if k = 1 then firsts (strip3 l) (l.length - 2) else if k = 2 then firsts (fan3 l) (l.length - 2) else []
theorem tris_length_le (k : Int) (l : List Int) : (tris k l).length ≤ l.length := by
  unfold tris
  split
  · rw [firsts_length]; omega
  · split
    · rw [firsts_length]; omega
    · split
      · rw [firsts_length]; omega
      · simp
set_option maxRecDepth 100000 in
theorem triangles_any (w : World) (k : Int) (v : Value) (l : List Int) (h : Arr w .i64 v l) (hl : l.length ≤ 100000) : Calls Try.prog 8 #[.int .u8 k, v] w fun e w' => ∃ v', e = .returned v' ∧ OwnG LT w' w.heap.size v' (tris k l) ∧ Ext w w' := by
  by_cases h0 : k = 0
  · subst h0
    rw [show tris 0 l = firsts (at3 l) (l.length / 3) by simp [tris]]
    go_enter Try.func8, Try.ntmps8
    go_wp2_with fail
    refine (list_any _ _ _ h hl).mono ?_
    rintro e w1 ⟨v', rfl, o1, e1⟩
    go_wp2
    go_ret
    exact ⟨_, rfl, o1, e1⟩
  · by_cases h1 : k = 1
    · subst h1
      rw [show tris 1 l = firsts (strip3 l) (l.length - 2) by simp [tris]]
      go_enter Try.func8, Try.ntmps8
      go_wp2_with fail
      refine (strip_any _ _ _ h hl).mono ?_
      rintro e w1 ⟨v', rfl, o1, e1⟩
      go_wp2
      go_ret
      exact ⟨_, rfl, o1, e1⟩
    · by_cases h2 : k = 2
      · subst h2
        rw [show tris 2 l = firsts (fan3 l) (l.length - 2) by simp [tris]]
        go_enter Try.func8, Try.ntmps8
        go_wp2_with fail
        refine (fan_any _ _ _ h hl).mono ?_
        rintro e w1 ⟨v', rfl, o1, e1⟩
        go_wp2
        go_ret
        exact ⟨_, rfl, o1, e1⟩
      · rw [show tris k l = [] by simp [tris, h0, h1, h2]]
        have k0 : (k == 0) = false := by simpa using h0
        have k1 : (k == 1) = false := by simpa using h1
        have k2 : (k == 2) = false := by simpa using h2
        go_enter Try.func8, Try.ntmps8
        go_wp2
        go_ret
        exact ⟨_, rfl, OwnG.nil _ _ _, Ext.refl _⟩
end Go.Proofs.Ytcpgcealaomleaa
