/-
  DERIVED. vec.Within alone (of the walks of layer 2): what each call returns, over every world; it makes memory, and of what was there nothing turns.
-/
import Derived.Test.YtglehnmkdapnpaaPkFix
import Derived.Deep.RegionHeld3
namespace Go.Proofs.Ytglehnmkdapnpaa
open Go.RowKit
set_option linter.unusedVariables false

/-- a number of 64 bits -/
def In64 (a : Int) : Prop := -9223372036854775808 ≤ a ∧ a ≤ 9223372036854775807
def minZ (a b : Int) : Int := min (clampZ a) (clampZ b)
def maxZ (a b : Int) : Int := max (clampZ a) (clampZ b)
/-- fix.Within, whatever the bound (the negation of the least number is itself) -/
def withinW (a b : Int) : Int := if b = -9223372036854775808 then b else withinZ a b

set_option maxHeartbeats 400000 in
theorem withinW_any (a b : Int) (w : World) (h1 : -9223372036854775808 ≤ a) (h2 : a ≤ 9223372036854775807) (h3 : -9223372036854775808 ≤ b) (h4 : b ≤ 9223372036854775807) :
    Calls Try.prog 53 #[.int .i64 a, .int .i64 b] w fun e w' => e = .returned (.int .i64 (withinW a b)) ∧ w = w' := by
  by_cases hb : b = -9223372036854775808
  · subst hb
    have hw : wrap64 9223372036854775808 ≤ -9223372036854775808 := by decide +kernel
    have hw' : -9223372036854775808 ≤ wrap64 9223372036854775808 := by decide +kernel
    go_enter Try.func53, Try.ntmps53
    go_wp2
    all_goals (go_ret; exact ⟨ret_int (by unfold withinW; omega), rfl⟩)
  · have e : withinW a b = withinZ a b := if_neg hb
    rw [e]
    exact within_any a b w h1 h2 (by omega) h4

set_option maxHeartbeats 400000 in
theorem pw_withinW (w : World) :
    Calls Try.prog 55 #[.func (.func 53) #[] #[]] w fun e w' => e = .returned (.func (.func 61) #[] #[.pointer (some ⟨w.heap.size, 0, none⟩)]) ∧ w.alloc (.cells #[.func (.func 53) #[] #[]] 101) = w' := by
  go_enter Try.func55, Try.ntmps55
  go_wp2
  go_ret
  exact ⟨rfl, rfl⟩

set_option maxHeartbeats 800000 in
theorem each_withinW ( a0 a1 a2 a3 b0 b1 b2 b3 : Int)  (ha0 : -9223372036854775808 ≤ a0 ∧ a0 ≤ 9223372036854775807) (hb0 : -9223372036854775808 ≤ b0 ∧ b0 ≤ 9223372036854775807) (ha1 : -9223372036854775808 ≤ a1 ∧ a1 ≤ 9223372036854775807) (hb1 : -9223372036854775808 ≤ b1 ∧ b1 ≤ 9223372036854775807) (ha2 : -9223372036854775808 ≤ a2 ∧ a2 ≤ 9223372036854775807) (hb2 : -9223372036854775808 ≤ b2 ∧ b2 ≤ 9223372036854775807) (ha3 : -9223372036854775808 ≤ a3 ∧ a3 ≤ 9223372036854775807) (hb3 : -9223372036854775808 ≤ b3 ∧ b3 ≤ 9223372036854775807) (k : Nat) (w : World) (hc : w.cell? ⟨k, 0, none⟩ = some (.func (.func 53) #[] #[])) :
    Calls Try.prog 61 #[.agg #[.int .i64 a0, .int .i64 a1, .int .i64 a2, .int .i64 a3], .agg #[.int .i64 b0, .int .i64 b1, .int .i64 b2, .int .i64 b3], .pointer (some ⟨k, 0, none⟩)] w
      fun e w' => e = .returned (.agg #[.int .i64 (withinW a0 b0), .int .i64 (withinW a1 b1), .int .i64 (withinW a2 b2), .int .i64 (withinW a3 b3)]) ∧ Ext w w' := by
  have hk := cell_lt hc
  have e1 : w.heap.size ≠ k := by omega
  have e2 : w.heap.size + 1 ≠ k := by omega
  have e3 : w.heap.size + 1 + 1 ≠ k := by omega
  have e7 : k < w.heap.size + 1 := by omega
  have e8 : k < w.heap.size + 1 + 1 := by omega
  have hsd : ∀ (u : World) (n : Nat) (p : Addr) (v : Value), (u.drewN n).setCell p v = (u.setCell p v).drewN n := fun _ _ _ _ => rfl
  go_enter Try.func61, Try.ntmps61
  go_wp2
  refine wp_loop_rounds 5 ?_
  rw [rounds_succ]
  go_wp2
  go_region_held3 (fun w' => w'.cell? ⟨k, 0, none⟩ = some (.func (.func 53) #[] #[]) ∧ w'.cell? ⟨w.heap.size, 0, none⟩ = some (.int .i64 a0) ∧ w'.cell? ⟨w.heap.size + 1, 0, none⟩ = some (.int .i64 b0)) (simp [go_sem, World.cell?_alloc_lt, *])
    (first | (go_at_call 53; refine (withinW_any _ _ _ (by omega) (by omega) (by omega) (by omega)).mono ?_; rintro e w1 ⟨rfl, rfl⟩))
  go_wp2
  rw [rounds_succ]
  go_wp2
  go_region_held3 (fun w' => w'.cell? ⟨k, 0, none⟩ = some (.func (.func 53) #[] #[]) ∧ w'.cell? ⟨w.heap.size, 1, none⟩ = some (.int .i64 a1) ∧ w'.cell? ⟨w.heap.size + 1, 1, none⟩ = some (.int .i64 b1)) (simp [go_sem, World.cell?_alloc_lt, *])
    (first | (go_at_call 53; refine (withinW_any _ _ _ (by omega) (by omega) (by omega) (by omega)).mono ?_; rintro e w1 ⟨rfl, rfl⟩))
  go_wp2
  rw [rounds_succ]
  go_wp2
  go_region_held3 (fun w' => w'.cell? ⟨k, 0, none⟩ = some (.func (.func 53) #[] #[]) ∧ w'.cell? ⟨w.heap.size, 2, none⟩ = some (.int .i64 a2) ∧ w'.cell? ⟨w.heap.size + 1, 2, none⟩ = some (.int .i64 b2)) (simp [go_sem, World.cell?_alloc_lt, *])
    (first | (go_at_call 53; refine (withinW_any _ _ _ (by omega) (by omega) (by omega) (by omega)).mono ?_; rintro e w1 ⟨rfl, rfl⟩))
  go_wp2
  rw [rounds_succ]
  go_wp2
  go_region_held3 (fun w' => w'.cell? ⟨k, 0, none⟩ = some (.func (.func 53) #[] #[]) ∧ w'.cell? ⟨w.heap.size, 3, none⟩ = some (.int .i64 a3) ∧ w'.cell? ⟨w.heap.size + 1, 3, none⟩ = some (.int .i64 b3)) (simp [go_sem, World.cell?_alloc_lt, *])
    (first | (go_at_call 53; refine (withinW_any _ _ _ (by omega) (by omega) (by omega) (by omega)).mono ?_; rintro e w1 ⟨rfl, rfl⟩))
  go_wp2
  rw [rounds_succ]
  go_wp2
  refine bodyPost_ret (v := .agg #[.int .i64 (withinW a0 b0), .int .i64 (withinW a1 b1), .int .i64 (withinW a2 b2), .int .i64 (withinW a3 b3)]) (by simp [results, Try.results61, go_sem]) rfl ⟨rfl, ?_⟩
  repeat (first | exact Ext.refl _ | apply Ext.drew | apply Ext.drewN | apply Ext.alloc)

set_option maxHeartbeats 400000 in
theorem all_any (n : Int) (w : World) :
    Calls Try.prog 56 #[.int .i64 n] w fun e w' => e = .returned (.agg #[.int .i64 n, .int .i64 n, .int .i64 n, .int .i64 n]) ∧ Ext w w' := by
  go_enter Try.func56, Try.ntmps56
  go_wp2
  refine bodyPost_ret (v := .agg #[.int .i64 n, .int .i64 n, .int .i64 n, .int .i64 n]) (by simp [results, Try.results56, go_sem]) rfl ⟨rfl, ?_⟩
  repeat (first | exact Ext.refl _ | apply Ext.drew | apply Ext.drewN | apply Ext.alloc)

set_option maxHeartbeats 400000 in
theorem vec_within ( a0 a1 a2 a3 n : Int)  (ha0 : -9223372036854775808 ≤ a0 ∧ a0 ≤ 9223372036854775807) (ha1 : -9223372036854775808 ≤ a1 ∧ a1 ≤ 9223372036854775807) (ha2 : -9223372036854775808 ≤ a2 ∧ a2 ≤ 9223372036854775807) (ha3 : -9223372036854775808 ≤ a3 ∧ a3 ≤ 9223372036854775807) (hn : -9223372036854775808 ≤ n ∧ n ≤ 9223372036854775807) (w : World) :
    Calls Try.prog 33 #[.agg #[.int .i64 a0, .int .i64 a1, .int .i64 a2, .int .i64 a3], .int .i64 n] w
      fun e w' => e = .returned (.agg #[.int .i64 (withinW a0 n), .int .i64 (withinW a1 n), .int .i64 (withinW a2 n), .int .i64 (withinW a3 n)]) ∧ Ext w w' := by
  go_enter Try.func33, Try.ntmps33
  go_wp2
  go_region_held3 (fun w' => w'.cell? ⟨w.heap.size, 0, none⟩ = some (.int .i64 a0) ∧ w'.cell? ⟨w.heap.size, 1, none⟩ = some (.int .i64 a1) ∧ w'.cell? ⟨w.heap.size, 2, none⟩ = some (.int .i64 a2) ∧ w'.cell? ⟨w.heap.size, 3, none⟩ = some (.int .i64 a3)) (simp [go_sem, World.cell?_alloc_lt, *])
    (first | (go_at_call 55; refine (pw_withinW _).mono ?_; rintro e w1 ⟨rfl, rfl⟩) | (go_at_call 56; refine (all_any _ _).mono ?_; rintro e w1 ⟨rfl, hx⟩; have hxc := hx.cells; have hxf := hx.fr; have hz := hx.size; have hz0 : w.heap.size < w1.heap.size := (by simp at hz; omega); have hz1 : w.heap.size + 1 < w1.heap.size := (by simp at hz; omega)) | (go_at_call 61; refine (each_withinW _ _ _ _ _ _ _ _ (by omega) (by omega) (by omega) (by omega) (by omega) (by omega) (by omega) (by omega) _ _ ?_).mono ?_; (simp [go_sem, hxc]); rintro e w2 ⟨rfl, hy⟩; have hyc := hy.cells; have hyf := hy.fr))
  go_wp2
  refine bodyPost_ret (v := .agg #[.int .i64 (withinW a0 n), .int .i64 (withinW a1 n), .int .i64 (withinW a2 n), .int .i64 (withinW a3 n)]) (by simp [results, Try.results33, go_sem, hxc, hyc, hz1]) rfl ⟨rfl, ?_⟩
  repeat (refine Ext.setCell ?_ (by simp only; omega) _)
  refine Ext.trans (Ext.trans ?_ hx) hy
  repeat (first | exact Ext.refl _ | apply Ext.drew | apply Ext.drewN | apply Ext.alloc)

theorem withinW_iff {a n : Int} (h0 : 0 ≤ n) (h1 : n ≤ 9223372036854775807) : withinW a n = a ↔ (-n ≤ a ∧ a ≤ n) := by
  unfold withinW withinZ
  rw [if_neg (by omega)]
  omega
end Go.Proofs.Ytglehnmkdapnpaa

