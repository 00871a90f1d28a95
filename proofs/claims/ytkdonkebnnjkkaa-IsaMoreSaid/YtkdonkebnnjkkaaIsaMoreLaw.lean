/-
  DERIVED. THE WALK of IsaMore.
-/
import Derived.Test.YtkdonkebnnjkkaaIsaProg
namespace Go.Proofs.Ytkdonkebnnjkkaa
open Go.RowKit
set_option linter.unusedVariables false
def moreI (m : Int) : In := ⟨1, m, m, 0, 0⟩
theorem more_all {d : Bool} {m : Int} (hm : 0 ≤ m ∧ m ≤ 11) (k : Nat) : allAt d (List.replicate k (moreI m)) := by
  intro i x hx
  have : x = moreI m := by
    have := List.mem_of_getElem? hx
    exact (List.mem_replicate.1 this).2
  subst this
  rw [at1_zero]
  refine ⟨by simp [moreI], by simp [moreI], ?_, by simp [moreI], by simp [moreI]⟩
  have h11 : decide (11 < m) = false := by simp; omega
  simp [regs, moreI]
  exact ⟨h11, h11⟩
theorem more_ok {m : Int} (hm : 0 ≤ m ∧ m ≤ 11) : (moreI m).ok := by
  unfold In.ok moreI
  simp only
  omega
theorem chk_three {d : Bool} {xs : List In} (h : allAt d xs) : chk d xs = if 24 < xs.length then 7 else if 200 < fuelL xs then 6 else 0 := by
  by_cases h1 : 24 < xs.length
  · rw [if_pos h1, chk_many h1]
  · rw [if_neg h1, chk_all (by omega) h]
theorem rep_snoc (xs : List In) (j : Nat) (y : In) : xs ++ List.replicate (j + 1) y = (xs ++ List.replicate j y) ++ [y] := by
  rw [List.replicate_succ', List.append_assoc]
set_option maxRecDepth 100000 in
set_option maxHeartbeats 2000000 in
theorem isaMore_main {w : World} (u : Value) (sl : List Sm) (n : Int) (hn : 0 ≤ n ∧ n ≤ 255) (h2 : SArr w u sl) (l2 : sl.length ≤ 40) :
    Calls Try.prog 6 #[u, .int .u8 n] w fun e w' => e = .returned (.bool true) ∧ Ext w w' := by
  have hS := h2
  obtain ⟨⟨a2, c2, rfl, -⟩, -, -⟩ := h2
  have i2 : (sl.length : Int) ≤ 40 := by omega
  obtain ⟨r, hr⟩ : ∃ r : Nat, n % 8 = r := ⟨(n % 8).toNat, by omega⟩
  obtain ⟨m, hm⟩ : ∃ m : Int, n % 12 = m := ⟨_, rfl⟩
  have hmb : 0 ≤ m ∧ m ≤ 11 := by omega
  have hrb : r < 8 := by omega
  have hrI : (r : Int) < 8 := by omega
  go_enter Try.func6, Try.ntmps6
  go_wp2_with fail
  refine (awake7_any _).mono ?_
  rintro e w1 ⟨rfl, e1⟩
  go_wp2_with fail
  refine (program_any true _ _ sl (hS.ext e1) l2).mono ?_
  rintro e w2 ⟨v2, xs, rfl, o2, hok, hxl, hck, x2⟩
  have hx20 : xs.length ≤ 20 := by omega
  have e2 := e1.trans x2
  have z1 := e1.size
  have HA := Lib.hid (chk_zero hck).2.1
  have HOK := Lib.hid hok
  have o2' := o2.mono z1
  clear hck hok hxl x2 o2 e1
  go_wp2_with fail
  have HR := Lib.hid hr
  clear hr
  go_loopg [17, 5] r (fun k iv pv wr => ∃ (j : Nat), j + k = r ∧ iv = .int .i64 j ∧ OwnP wr w.heap.size pv (xs ++ List.replicate j (moreI m)) ∧ Ext w wr)
  case atStart => exact ⟨0, by omega, rfl, by simpa using o2', e2⟩
  case round =>
    clear o2' e2
    obtain ⟨j, hjr, rfl, o3, e3⟩ := hrel
    by_cases hj : j < r
    · have hjI : (j : Int) < (r : Int) := by omega
      have x4 := (Ext.refl wr).alloc #[.int .u8 1, .int .u8 m, .int .u8 m, .int .u8 0, .int .i16 0] 49
      have o4 := o3.ext x4
      have e4 := e3.trans x4
      have hcn := lit_in wr (moreI m) 49
      dsimp only [moreI] at hcn
      have hlen : (xs ++ List.replicate j (moreI m)).length < 1000000 := by simp; omega
      have HLEN := Lib.hid hlen
      have hzz := e3.size
      clear hlen o3 e3 x4
      go_wp2_with (at_builtin; refine wpList_append_in rfl _ _ rfl w.heap.size _ _ rfl o4 wr.heap.size 1 ⟨1, m, m, 0, 0⟩ rfl hcn HLEN.out (by simp; omega) ?_)
      intro v5 w5 o5 K5 hk5
      have e5 := Ext.calm_trans e4 K5 (fun g hg => (o4.lt g (Option.mem_toList.1 hg)).1)
      obtain ⟨ao5, c5, rfl, -, -⟩ := o5.slice
      clear o4 e4 hcn K5 hk5
      go_wp2
      go_roundg (gk - 1)
      case measure => omega
      case rel => exact ⟨j + 1, by omega, rfl, by rw [rep_snoc, List.append_assoc]; exact o5, e5⟩
    · obtain rfl : j = r := by omega
      have hall := allAt_append HA.out (more_all (d := true) hmb j)
      have hokA : ∀ x ∈ xs ++ List.replicate j (moreI m), x.ok := fun x hx => by
        rcases List.mem_append.1 hx with h | h
        · exact HOK.out x h
        · rw [(List.mem_replicate.1 h).2]; exact more_ok hmb
      have hc := chk_three hall
      have hlA : (xs ++ List.replicate j (moreI m)).length ≤ 1000 := by simp; omega
      generalize xs ++ List.replicate j (moreI m) = ys at *
      have HC := Lib.hid hc
      have HOKA := Lib.hid hokA
      clear hc hokA hall HA HOK
      obtain ⟨aoy, cy, rfl, -, -⟩ := o3.slice
      have hlI : (ys.length : Int) ≤ 1000 := by omega
      go_wp2_with fail
      refine (check_any true _ _ _ ys o3 HOKA.out (by omega)).mono ?_
      rintro e w6 ⟨rfl, x6⟩
      have e6 := e3.trans x6
      have o6 := o3.ext x6
      rw [HC.out]
      by_cases h24 : 24 < ys.length
      · have h24I : (24 : Int) < (ys.length : Int) := by omega
        have h24d : decide ((ys.length : Int) ≤ 24) = false := by simp; omega
        have h24n : ¬ ys.length ≤ 24 := by omega
        rw [if_pos h24]
        go_wp2
        go_ret
        exact ⟨rfl, e6⟩
      · have h24I : (ys.length : Int) ≤ 24 := by omega
        have h24n : ys.length ≤ 24 := by omega
        rw [if_neg h24]
        by_cases hf : 200 < fuelL ys
        · rw [if_pos hf]
          have hfd : decide (fuelL ys ≤ 200) = false := by simp; omega
          go_wp2_with fail
          refine (fuel_any _ _ _ ys o6 HOKA.out (by omega)).mono ?_
          rintro e w7 ⟨rfl, x7⟩
          go_wp2
          go_ret
          exact ⟨rfl, e6.trans x7⟩
        · rw [if_neg hf]
          have hfd : fuelL ys ≤ 200 := by omega
          go_wp2_with fail
          refine (fuel_any _ _ _ ys o6 HOKA.out (by omega)).mono ?_
          rintro e w7 ⟨rfl, x7⟩
          go_wp2
          go_ret
          exact ⟨rfl, e6.trans x7⟩
set_option maxRecDepth 100000 in
theorem isaMore_row {w : World} (u : Value) (sl : List Sm) (n : Int) (h2 : SArr w u sl) (hn : 0 ≤ n ∧ n ≤ 255) :
    Calls Try.prog 6 #[u, .int .u8 n] w fun e w' => e = .returned (.bool true) ∧ Ext w w' := by
  have m2 := h2.most
  unfold maxLen at m2
  have hmain := fun l2 => isaMore_main u sl n hn h2 l2
  obtain ⟨⟨a2, c2, rfl, -⟩, -, -⟩ := h2
  by_cases l2 : sl.length ≤ 40
  · exact hmain l2
  · clear hmain
    have i2 : (40 : Int) < (sl.length : Int) := by omega
    clear l2
    go_enter Try.func6, Try.ntmps6
    go_wp2_with fail
    refine (awake7_any _).mono ?_
    rintro e w1 ⟨rfl, e1⟩
    go_wp2
    go_ret
    exact ⟨rfl, e1⟩
end Go.Proofs.Ytkdonkebnnjkkaa
