/-
  DERIVED. THE WALKS of layer 10 (mesh): lists, strips, fans. · THE WALKS of layer 10 (mesh): whether a list of indices may be.
-/
import Derived.Test.YtbbfmlehddfneaaPkGs
import Derived.Test.YtbbfmlehddfneaaPkFix
import Derived.Deep.DeepCutAuto
import Derived.RegionTactic
import Derived.Deep.RegionLaw
namespace Go.Proofs.Ytbbfmlehddfneaa
open Go.RowKit
set_option linter.unusedVariables false

/-- a triangle of indices -/
structure T3 where
  a : Int
  b : Int
  c : Int
deriving DecidableEq

def at3 (l : List Int) (n : Nat) : T3 := ⟨l.getD (n * 3) 0, l.getD (n * 3 + 1) 0, l.getD (n * 3 + 2) 0⟩
def strip3 (l : List Int) (n : Nat) : T3 := if n % 2 = 1 then ⟨l.getD (n + 1) 0, l.getD n 0, l.getD (n + 2) 0⟩ else ⟨l.getD n 0, l.getD (n + 1) 0, l.getD (n + 2) 0⟩
def fan3 (l : List Int) (n : Nat) : T3 := ⟨l.getD 0 0, l.getD (n + 1) 0, l.getD (n + 2) 0⟩
def firsts (f : Nat → T3) (n : Nat) : List T3 := (List.range n).map f
theorem firsts_succ (f : Nat → T3) (n : Nat) : firsts f (n + 1) = firsts f n ++ [f n] := by simp [firsts, List.range_succ]
theorem firsts_length (f : Nat → T3) (n : Nat) : (firsts f n).length = n := by simp [firsts]
theorem firsts_get (f : Nat → T3) (n j : Nat) (h : j < n) : (firsts f n)[j]? = some (f j) := by simp [firsts, h]

/-- a number of a slice that came in -/
theorem Arr.at {w : World} {k : IntKind} {ao : Option Addr} {n c : Nat} {xs : List Int} (h : Arr w k (.slice ao n c) xs) (j : Nat) (hj : j < xs.length) : ∃ g off, ao = some ⟨g, off, none⟩ ∧ n = xs.length ∧ ∀ j, j < xs.length → w.cell? ⟨g, off + j, none⟩ = some (.int k (xs.getD j 0)) := by
  obtain ⟨⟨ao', c', e, h0, h1, h2⟩, _, _⟩ := h
  cases e
  obtain ⟨b, off, rfl, hc⟩ := h1 (by intro e; subst e; simp at hj)
  exact ⟨b, off, rfl, rfl, hc⟩
theorem range3 {w : World} {b off : Nat} {l : List Int} (hc : ∀ j, j < l.length → w.cell? ⟨b, off + j, none⟩ = some (.int .i64 (l.getD j 0))) (j : Nat) (hj : j + 2 < l.length) : w.rangeAt b (off + j) [.int .i64 (l.getD j 0), .int .i64 (l.getD (j + 1) 0), .int .i64 (l.getD (j + 2) 0)] := fun i u hu => by
  match i, hu with
  | 0, hu => cases hu; exact hc j (by omega)
  | 1, hu => cases hu; exact hc (j + 1) (by omega)
  | 2, hu => cases hu; exact hc (j + 2) (by omega)
  | i + 3, hu => cases hu
def tris (k : Int) (l : List Int) : List T3 := if k = 0 then firsts (at3 l) (l.length / 3) else if k = 1 then firsts (strip3 l) (l.length - 2) else if k = 2 then firsts (fan3 l) (l.length - 2) else []
theorem tris_length_le (k : Int) (l : List Int) : (tris k l).length ≤ l.length := by
  unfold tris
  split
  · rw [firsts_length]; omega
  · split
    · rw [firsts_length]; omega
    · split
      · rw [firsts_length]; omega
      · simp
end Go.Proofs.Ytbbfmlehddfneaa

namespace Go.Proofs.Ytbbfmlehddfneaa
open Go.RowKit
set_option linter.unusedVariables false

def fitsB (k : Int) (n : Nat) : Bool := if k = 0 then n % 3 == 0 else (n == 0 || decide (3 ≤ n))
def okIdx (v : Int) (n : Int) : Bool := decide (0 ≤ n) && decide (n < v)
def chk0 (k : Int) (n : Nat) : Int := if 2 < k then 5 else if 96 < n then 7 else if fitsB k n = false then 6 else 0
def chkM (k : Int) (l : List Int) (v : Int) : Int := if chk0 k l.length ≠ 0 then chk0 k l.length else if l.all (okIdx v) = true then 0 else 14

set_option maxRecDepth 100000 in
theorem fits_any (w : World) (k : Int) (n : Nat) (hn : n ≤ 1000000) : Calls Try.prog 84 #[.int .u8 k, .int .i64 n] w fun e w' => e = .returned (.bool (fitsB k n)) ∧ w = w' := by
  unfold fitsB
  by_cases h0 : k = 0
  · subst h0
    have hm : (n : Int).tmod 3 = ((n % 3 : Nat) : Int) := by rw [Int.tmod_eq_emod_of_nonneg (by omega)]; omega
    generalize n % 3 = r at *
    go_enter Try.func84, Try.ntmps84
    go_wp2
    go_ret
    refine ⟨congrArg (fun b => Ending.returned (.bool b)) ?_, rfl⟩
    rcases Nat.eq_zero_or_pos r with h | h
    · subst h; rfl
    · have h1 : (r == 0) = false := by simp; omega
      have h2 : ((r : Int) == 0) = false := by simp; omega
      simp [h1, h2]
  · have k0 : (k == 0) = false := by simpa using h0
    rw [if_neg h0]
    by_cases hz : n = 0
    · subst hz
      go_enter Try.func84, Try.ntmps84
      go_wp2
      go_ret
      exact ⟨rfl, rfl⟩
    · have hzI : ((n : Int) == 0) = false := by simp; omega
      have hzN : (n == 0) = false := by simp; omega
      rw [hzN, Bool.false_or]
      have h3 : decide ((3 : Int) ≤ (n : Int)) = decide (3 ≤ n) := by
        by_cases h : 3 ≤ n
        · simp [h]; omega
        · simp [h]; omega
      go_enter Try.func84, Try.ntmps84
      go_wp2
      go_ret
      exact ⟨by rw [← h3]; simp, rfl⟩

theorem all_snoc {l : List Int} {j : Nat} (p : Int → Bool) (h : j < l.length) : (l.take (j + 1)).all p = ((l.take j).all p && p (l.getD j 0)) := by
  rw [List.take_add_one, List.all_append]
  simp [List.getD, h]
theorem all_bad {l : List Int} {j : Nat} (p : Int → Bool) (h : j < l.length) (hp : p (l.getD j 0) = false) : l.all p = false := by
  have hm : l.getD j 0 ∈ l := by simp [List.getD, h]
  rw [List.all_eq_false]
  exact ⟨_, hm, by rw [hp]; simp⟩

set_option maxRecDepth 100000 in
theorem mwithin_any (w : World) (v : Value) (l : List Int) (h : Arr w .i64 v l) (hl : l.length ≤ 1000000) (x : Int) : Calls Try.prog 85 #[v, .int .i64 x] w fun e w' => e = .returned (.bool (l.all (okIdx x))) ∧ w = w' := by
  have hA := h
  obtain ⟨⟨ao, c, rfl, hcap, -, -⟩, -, -⟩ := h
  have hlI : (l.length : Int) ≤ 1000000 := by omega
  go_enter Try.func85, Try.ntmps85
  go_wp2_with fail
  go_loopg [9] l.length (fun k iv wr => ∃ (j : Nat), j + k = l.length ∧ iv = .int .i64 j ∧ w = wr ∧ (l.take j).all (okIdx x) = true)
  case atStart => exact ⟨0, by omega, rfl, rfl, by simp⟩
  case round =>
    obtain ⟨j, hjk, rfl, rfl, hall⟩ := hrel
    by_cases hj : j < l.length
    · have hjI : (j : Int) < (l.length : Int) := by omega
      obtain ⟨b, off, rfl, -, hc⟩ := hA.at j hj
      have c0 := hc j hj
      have hs := all_snoc (okIdx x) hj
      have hbad := all_bad (okIdx x) hj
      rw [hall, Bool.true_and] at hs
      generalize l.getD j 0 = y at *
      clear hc hall
      by_cases h1 : y < 0
      · have hb : okIdx x y = false := by simp [okIdx]; omega
        have HB := Lib.hid (hbad hb)
        clear hbad hs hb
        go_wp2
        go_ret
        exact ⟨by rw [HB.out]; rfl, rfl⟩
      · by_cases h2 : x ≤ y
        · have hb : okIdx x y = false := by simp [okIdx]; omega
          have HB := Lib.hid (hbad hb)
          clear hbad hs hb
          go_wp2
          go_ret
          exact ⟨by rw [HB.out]; rfl, rfl⟩
        · have hg : okIdx x y = true := by simp [okIdx]; omega
          have HS := Lib.hid (hs.trans hg)
          clear hbad hs hg
          go_wp2
          go_roundg (gk - 1)
          case measure => omega
          case rel => exact ⟨j + 1, by omega, rfl, rfl, HS.out⟩
    · obtain rfl : j = l.length := by omega
      rw [List.take_length] at hall
      go_wp2
      go_ret
      exact ⟨by rw [hall]; rfl, rfl⟩

set_option maxRecDepth 100000 in
theorem checkM_any (w : World) (k : Int) (v : Value) (l : List Int) (h : Arr w .i64 v l) (hl : l.length ≤ 1000000) (x : Int) : Calls Try.prog 66 #[.int .u8 k, v, .int .i64 x] w fun e w' => e = .returned (.int .i64 (chkM k l x)) ∧ w = w' := by
  have hA := h
  obtain ⟨⟨ao, c, rfl, hcap, -, -⟩, -, -⟩ := h
  by_cases h2 : 2 < k
  · have h3 : 3 ≤ k := by omega
    have HC := Lib.hid (show chkM k l x = 5 by simp [chkM, chk0, h2])
    go_enter Try.func66, Try.ntmps66
    go_wp2
    go_ret
    exact ⟨by rw [HC.out]; rfl, rfl⟩
  · have h3 : ¬ 3 ≤ k := by omega
    by_cases h96 : 96 < l.length
    · have hI : 96 < (l.length : Int) := by omega
      have HC := Lib.hid (show chkM k l x = 7 by simp [chkM, chk0, h2, h96])
      go_enter Try.func66, Try.ntmps66
      go_wp2
      go_ret
      exact ⟨by rw [HC.out]; rfl, rfl⟩
    · have hI : ¬ 96 < (l.length : Int) := by omega
      cases hf : fitsB k l.length
      · have HC := Lib.hid (show chkM k l x = 6 by simp [chkM, chk0, h2, h96, hf])
        go_enter Try.func66, Try.ntmps66
        go_wp2_with fail
        refine (fits_any _ _ _ hl).mono ?_
        rintro e w1 ⟨rfl, rfl⟩
        rw [hf]
        go_wp2
        go_ret
        exact ⟨by rw [HC.out]; rfl, rfl⟩
      · cases ha : l.all (okIdx x)
        · have HC := Lib.hid (show chkM k l x = 14 by simp [chkM, chk0, h2, h96, hf, ha])
          go_enter Try.func66, Try.ntmps66
          go_wp2_with fail
          refine (fits_any _ _ _ hl).mono ?_
          rintro e w1 ⟨rfl, rfl⟩
          rw [hf]
          go_wp2_with fail
          refine (mwithin_any _ _ _ hA hl _).mono ?_
          rintro e w1 ⟨rfl, rfl⟩
          rw [ha]
          go_wp2
          go_ret
          exact ⟨by rw [HC.out]; rfl, rfl⟩
        · have HC := Lib.hid (show chkM k l x = 0 by simp [chkM, chk0, h2, h96, hf, ha])
          go_enter Try.func66, Try.ntmps66
          go_wp2_with fail
          refine (fits_any _ _ _ hl).mono ?_
          rintro e w1 ⟨rfl, rfl⟩
          rw [hf]
          go_wp2_with fail
          refine (mwithin_any _ _ _ hA hl _).mono ?_
          rintro e w1 ⟨rfl, rfl⟩
          rw [ha]
          go_wp2
          go_ret
          exact ⟨by rw [HC.out]; rfl, rfl⟩
end Go.Proofs.Ytbbfmlehddfneaa

