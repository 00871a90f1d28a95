/-
  DERIVED. THE WALKS of layer 2 (vec): the operations on two vectors, a closure each: what each call returns, over every world; it makes memory, and of what was there nothing turns. · THE WALKS of layer 2 (vec): the methods of Vec: Add, Sub, Mul, Min, Max, Scale, Within. · THE WALKS of layer 2 (vec): Dot, and the document's own.
-/
import Derived.Test.YtellfhnfifgpoaaPkFix
import Derived.Deep.RegionHeld3
namespace Go.Proofs.Ytellfhnfifgpoaa
open Go.RowKit
set_option linter.unusedVariables false

/-- a number of 64 bits -/
def In64 (a : Int) : Prop := -9223372036854775808 ≤ a ∧ a ≤ 9223372036854775807
def minZ (a b : Int) : Int := min (clampZ a) (clampZ b)
def maxZ (a b : Int) : Int := max (clampZ a) (clampZ b)
/-- fix.Within, whatever the bound (the negation of the least number is itself) -/
def withinW (a b : Int) : Int := if b = -9223372036854775808 then b else withinZ a b

set_option maxHeartbeats 400000 in
theorem withinW_any (a b : Int) (w : World) (h1 : -9223372036854775808 ≤ a) (h2 : a ≤ 9223372036854775807) (h3 : -9223372036854775808 ≤ b) (h4 : b ≤ 9223372036854775807) :
    Calls Try.prog 37 #[.int .i64 a, .int .i64 b] w fun e w' => e = .returned (.int .i64 (withinW a b)) ∧ w = w' := by
  by_cases hb : b = -9223372036854775808
  · subst hb
    have hw : wrap64 9223372036854775808 ≤ -9223372036854775808 := by decide +kernel
    have hw' : -9223372036854775808 ≤ wrap64 9223372036854775808 := by decide +kernel
    go_enter Try.func37, Try.ntmps37
    go_wp2
    all_goals (go_ret; exact ⟨ret_int (by unfold withinW; omega), rfl⟩)
  · have e : withinW a b = withinZ a b := if_neg hb
    rw [e]
    exact within_any a b w h1 h2 (by omega) h4

set_option maxHeartbeats 400000 in
theorem min1_any (a b : Int) (w : World) (h1 : -9223372036854775808 ≤ a) (h2 : a ≤ 9223372036854775807) (h3 : -9223372036854775808 ≤ b) (h4 : b ≤ 9223372036854775807) :
    Calls Try.prog 44 #[.int .i64 a, .int .i64 b] w fun e w' => e = .returned (.int .i64 (minZ a b)) ∧ w = w' := by
  go_enter Try.func44, Try.ntmps44
  go_wp2_with fail
  with_reducible refine (clamp_any _ _ (by omega) (by omega)).mono ?_
  rintro e w' ⟨rfl, rfl⟩
  go_wp2_with fail
  with_reducible refine (clamp_any _ _ (by omega) (by omega)).mono ?_
  rintro e w' ⟨rfl, rfl⟩
  go_wp2
  all_goals (go_ret; exact ⟨ret_int (by unfold minZ; omega), rfl⟩)

set_option maxHeartbeats 400000 in
theorem max1_any (a b : Int) (w : World) (h1 : -9223372036854775808 ≤ a) (h2 : a ≤ 9223372036854775807) (h3 : -9223372036854775808 ≤ b) (h4 : b ≤ 9223372036854775807) :
    Calls Try.prog 43 #[.int .i64 a, .int .i64 b] w fun e w' => e = .returned (.int .i64 (maxZ a b)) ∧ w = w' := by
  go_enter Try.func43, Try.ntmps43
  go_wp2_with fail
  with_reducible refine (clamp_any _ _ (by omega) (by omega)).mono ?_
  rintro e w' ⟨rfl, rfl⟩
  go_wp2_with fail
  with_reducible refine (clamp_any _ _ (by omega) (by omega)).mono ?_
  rintro e w' ⟨rfl, rfl⟩
  go_wp2
  all_goals (go_ret; exact ⟨ret_int (by unfold maxZ; omega), rfl⟩)

set_option maxHeartbeats 400000 in
theorem pw_addZ (w : World) :
    Calls Try.prog 36 #[.func (.func 62) #[] #[]] w fun e w' => e = .returned (.func (.func 48) #[] #[.pointer (some ⟨w.heap.size, 0, none⟩)]) ∧ w.alloc (.cells #[.func (.func 62) #[] #[]] 91) = w' := by
  go_enter Try.func36, Try.ntmps36
  go_wp2
  go_ret
  exact ⟨rfl, rfl⟩

set_option maxHeartbeats 800000 in
theorem each_addZ ( a0 a1 a2 a3 b0 b1 b2 b3 : Int)  (ha0 : -9223372036854775808 ≤ a0 ∧ a0 ≤ 9223372036854775807) (hb0 : -9223372036854775808 ≤ b0 ∧ b0 ≤ 9223372036854775807) (ha1 : -9223372036854775808 ≤ a1 ∧ a1 ≤ 9223372036854775807) (hb1 : -9223372036854775808 ≤ b1 ∧ b1 ≤ 9223372036854775807) (ha2 : -9223372036854775808 ≤ a2 ∧ a2 ≤ 9223372036854775807) (hb2 : -9223372036854775808 ≤ b2 ∧ b2 ≤ 9223372036854775807) (ha3 : -9223372036854775808 ≤ a3 ∧ a3 ≤ 9223372036854775807) (hb3 : -9223372036854775808 ≤ b3 ∧ b3 ≤ 9223372036854775807) (k : Nat) (w : World) (hc : w.cell? ⟨k, 0, none⟩ = some (.func (.func 62) #[] #[])) :
    Calls Try.prog 48 #[.agg #[.int .i64 a0, .int .i64 a1, .int .i64 a2, .int .i64 a3], .agg #[.int .i64 b0, .int .i64 b1, .int .i64 b2, .int .i64 b3], .pointer (some ⟨k, 0, none⟩)] w
      fun e w' => e = .returned (.agg #[.int .i64 (addZ a0 b0), .int .i64 (addZ a1 b1), .int .i64 (addZ a2 b2), .int .i64 (addZ a3 b3)]) ∧ Ext w w' := by
  have hk := cell_lt hc
  have e1 : w.heap.size ≠ k := by omega
  have e2 : w.heap.size + 1 ≠ k := by omega
  have e3 : w.heap.size + 1 + 1 ≠ k := by omega
  have e7 : k < w.heap.size + 1 := by omega
  have e8 : k < w.heap.size + 1 + 1 := by omega
  have hsd : ∀ (u : World) (n : Nat) (p : Addr) (v : Value), (u.drewN n).setCell p v = (u.setCell p v).drewN n := fun _ _ _ _ => rfl
  go_enter Try.func48, Try.ntmps48
  go_wp2
  refine wp_loop_rounds 5 ?_
  rw [rounds_succ]
  go_wp2
  go_region_held3 (fun w' => w'.cell? ⟨k, 0, none⟩ = some (.func (.func 62) #[] #[]) ∧ w'.cell? ⟨w.heap.size, 0, none⟩ = some (.int .i64 a0) ∧ w'.cell? ⟨w.heap.size + 1, 0, none⟩ = some (.int .i64 b0)) (simp [go_sem, World.cell?_alloc_lt, *])
    (first | (go_at_call 62; refine (add_any _ _ _ (by omega) (by omega) (by omega) (by omega)).mono ?_; rintro e w1 ⟨rfl, rfl⟩))
  go_wp2
  rw [rounds_succ]
  go_wp2
  go_region_held3 (fun w' => w'.cell? ⟨k, 0, none⟩ = some (.func (.func 62) #[] #[]) ∧ w'.cell? ⟨w.heap.size, 1, none⟩ = some (.int .i64 a1) ∧ w'.cell? ⟨w.heap.size + 1, 1, none⟩ = some (.int .i64 b1)) (simp [go_sem, World.cell?_alloc_lt, *])
    (first | (go_at_call 62; refine (add_any _ _ _ (by omega) (by omega) (by omega) (by omega)).mono ?_; rintro e w1 ⟨rfl, rfl⟩))
  go_wp2
  rw [rounds_succ]
  go_wp2
  go_region_held3 (fun w' => w'.cell? ⟨k, 0, none⟩ = some (.func (.func 62) #[] #[]) ∧ w'.cell? ⟨w.heap.size, 2, none⟩ = some (.int .i64 a2) ∧ w'.cell? ⟨w.heap.size + 1, 2, none⟩ = some (.int .i64 b2)) (simp [go_sem, World.cell?_alloc_lt, *])
    (first | (go_at_call 62; refine (add_any _ _ _ (by omega) (by omega) (by omega) (by omega)).mono ?_; rintro e w1 ⟨rfl, rfl⟩))
  go_wp2
  rw [rounds_succ]
  go_wp2
  go_region_held3 (fun w' => w'.cell? ⟨k, 0, none⟩ = some (.func (.func 62) #[] #[]) ∧ w'.cell? ⟨w.heap.size, 3, none⟩ = some (.int .i64 a3) ∧ w'.cell? ⟨w.heap.size + 1, 3, none⟩ = some (.int .i64 b3)) (simp [go_sem, World.cell?_alloc_lt, *])
    (first | (go_at_call 62; refine (add_any _ _ _ (by omega) (by omega) (by omega) (by omega)).mono ?_; rintro e w1 ⟨rfl, rfl⟩))
  go_wp2
  rw [rounds_succ]
  go_wp2
  refine bodyPost_ret (v := .agg #[.int .i64 (addZ a0 b0), .int .i64 (addZ a1 b1), .int .i64 (addZ a2 b2), .int .i64 (addZ a3 b3)]) (by simp [results, Try.results48, go_sem]) rfl ⟨rfl, ?_⟩
  repeat (first | exact Ext.refl _ | apply Ext.drew | apply Ext.drewN | apply Ext.alloc)

set_option maxHeartbeats 400000 in
theorem pw_subZ (w : World) :
    Calls Try.prog 36 #[.func (.func 63) #[] #[]] w fun e w' => e = .returned (.func (.func 48) #[] #[.pointer (some ⟨w.heap.size, 0, none⟩)]) ∧ w.alloc (.cells #[.func (.func 63) #[] #[]] 91) = w' := by
  go_enter Try.func36, Try.ntmps36
  go_wp2
  go_ret
  exact ⟨rfl, rfl⟩

set_option maxHeartbeats 800000 in
theorem each_subZ ( a0 a1 a2 a3 b0 b1 b2 b3 : Int)  (ha0 : -9223372036854775808 ≤ a0 ∧ a0 ≤ 9223372036854775807) (hb0 : -9223372036854775808 ≤ b0 ∧ b0 ≤ 9223372036854775807) (ha1 : -9223372036854775808 ≤ a1 ∧ a1 ≤ 9223372036854775807) (hb1 : -9223372036854775808 ≤ b1 ∧ b1 ≤ 9223372036854775807) (ha2 : -9223372036854775808 ≤ a2 ∧ a2 ≤ 9223372036854775807) (hb2 : -9223372036854775808 ≤ b2 ∧ b2 ≤ 9223372036854775807) (ha3 : -9223372036854775808 ≤ a3 ∧ a3 ≤ 9223372036854775807) (hb3 : -9223372036854775808 ≤ b3 ∧ b3 ≤ 9223372036854775807) (k : Nat) (w : World) (hc : w.cell? ⟨k, 0, none⟩ = some (.func (.func 63) #[] #[])) :
    Calls Try.prog 48 #[.agg #[.int .i64 a0, .int .i64 a1, .int .i64 a2, .int .i64 a3], .agg #[.int .i64 b0, .int .i64 b1, .int .i64 b2, .int .i64 b3], .pointer (some ⟨k, 0, none⟩)] w
      fun e w' => e = .returned (.agg #[.int .i64 (subZ a0 b0), .int .i64 (subZ a1 b1), .int .i64 (subZ a2 b2), .int .i64 (subZ a3 b3)]) ∧ Ext w w' := by
  have hk := cell_lt hc
  have e1 : w.heap.size ≠ k := by omega
  have e2 : w.heap.size + 1 ≠ k := by omega
  have e3 : w.heap.size + 1 + 1 ≠ k := by omega
  have e7 : k < w.heap.size + 1 := by omega
  have e8 : k < w.heap.size + 1 + 1 := by omega
  have hsd : ∀ (u : World) (n : Nat) (p : Addr) (v : Value), (u.drewN n).setCell p v = (u.setCell p v).drewN n := fun _ _ _ _ => rfl
  go_enter Try.func48, Try.ntmps48
  go_wp2
  refine wp_loop_rounds 5 ?_
  rw [rounds_succ]
  go_wp2
  go_region_held3 (fun w' => w'.cell? ⟨k, 0, none⟩ = some (.func (.func 63) #[] #[]) ∧ w'.cell? ⟨w.heap.size, 0, none⟩ = some (.int .i64 a0) ∧ w'.cell? ⟨w.heap.size + 1, 0, none⟩ = some (.int .i64 b0)) (simp [go_sem, World.cell?_alloc_lt, *])
    (first | (go_at_call 63; refine (sub_any _ _ _ (by omega) (by omega) (by omega) (by omega)).mono ?_; rintro e w1 ⟨rfl, rfl⟩))
  go_wp2
  rw [rounds_succ]
  go_wp2
  go_region_held3 (fun w' => w'.cell? ⟨k, 0, none⟩ = some (.func (.func 63) #[] #[]) ∧ w'.cell? ⟨w.heap.size, 1, none⟩ = some (.int .i64 a1) ∧ w'.cell? ⟨w.heap.size + 1, 1, none⟩ = some (.int .i64 b1)) (simp [go_sem, World.cell?_alloc_lt, *])
    (first | (go_at_call 63; refine (sub_any _ _ _ (by omega) (by omega) (by omega) (by omega)).mono ?_; rintro e w1 ⟨rfl, rfl⟩))
  go_wp2
  rw [rounds_succ]
  go_wp2
  go_region_held3 (fun w' => w'.cell? ⟨k, 0, none⟩ = some (.func (.func 63) #[] #[]) ∧ w'.cell? ⟨w.heap.size, 2, none⟩ = some (.int .i64 a2) ∧ w'.cell? ⟨w.heap.size + 1, 2, none⟩ = some (.int .i64 b2)) (simp [go_sem, World.cell?_alloc_lt, *])
    (first | (go_at_call 63; refine (sub_any _ _ _ (by omega) (by omega) (by omega) (by omega)).mono ?_; rintro e w1 ⟨rfl, rfl⟩))
  go_wp2
  rw [rounds_succ]
  go_wp2
  go_region_held3 (fun w' => w'.cell? ⟨k, 0, none⟩ = some (.func (.func 63) #[] #[]) ∧ w'.cell? ⟨w.heap.size, 3, none⟩ = some (.int .i64 a3) ∧ w'.cell? ⟨w.heap.size + 1, 3, none⟩ = some (.int .i64 b3)) (simp [go_sem, World.cell?_alloc_lt, *])
    (first | (go_at_call 63; refine (sub_any _ _ _ (by omega) (by omega) (by omega) (by omega)).mono ?_; rintro e w1 ⟨rfl, rfl⟩))
  go_wp2
  rw [rounds_succ]
  go_wp2
  refine bodyPost_ret (v := .agg #[.int .i64 (subZ a0 b0), .int .i64 (subZ a1 b1), .int .i64 (subZ a2 b2), .int .i64 (subZ a3 b3)]) (by simp [results, Try.results48, go_sem]) rfl ⟨rfl, ?_⟩
  repeat (first | exact Ext.refl _ | apply Ext.drew | apply Ext.drewN | apply Ext.alloc)

set_option maxHeartbeats 400000 in
theorem pw_mulZ (w : World) :
    Calls Try.prog 36 #[.func (.func 64) #[] #[]] w fun e w' => e = .returned (.func (.func 48) #[] #[.pointer (some ⟨w.heap.size, 0, none⟩)]) ∧ w.alloc (.cells #[.func (.func 64) #[] #[]] 91) = w' := by
  go_enter Try.func36, Try.ntmps36
  go_wp2
  go_ret
  exact ⟨rfl, rfl⟩

set_option maxHeartbeats 800000 in
theorem each_mulZ ( a0 a1 a2 a3 b0 b1 b2 b3 : Int)  (ha0 : -9223372036854775808 ≤ a0 ∧ a0 ≤ 9223372036854775807) (hb0 : -9223372036854775808 ≤ b0 ∧ b0 ≤ 9223372036854775807) (ha1 : -9223372036854775808 ≤ a1 ∧ a1 ≤ 9223372036854775807) (hb1 : -9223372036854775808 ≤ b1 ∧ b1 ≤ 9223372036854775807) (ha2 : -9223372036854775808 ≤ a2 ∧ a2 ≤ 9223372036854775807) (hb2 : -9223372036854775808 ≤ b2 ∧ b2 ≤ 9223372036854775807) (ha3 : -9223372036854775808 ≤ a3 ∧ a3 ≤ 9223372036854775807) (hb3 : -9223372036854775808 ≤ b3 ∧ b3 ≤ 9223372036854775807) (k : Nat) (w : World) (hc : w.cell? ⟨k, 0, none⟩ = some (.func (.func 64) #[] #[])) :
    Calls Try.prog 48 #[.agg #[.int .i64 a0, .int .i64 a1, .int .i64 a2, .int .i64 a3], .agg #[.int .i64 b0, .int .i64 b1, .int .i64 b2, .int .i64 b3], .pointer (some ⟨k, 0, none⟩)] w
      fun e w' => e = .returned (.agg #[.int .i64 (mulZ a0 b0), .int .i64 (mulZ a1 b1), .int .i64 (mulZ a2 b2), .int .i64 (mulZ a3 b3)]) ∧ Ext w w' := by
  have hk := cell_lt hc
  have e1 : w.heap.size ≠ k := by omega
  have e2 : w.heap.size + 1 ≠ k := by omega
  have e3 : w.heap.size + 1 + 1 ≠ k := by omega
  have e7 : k < w.heap.size + 1 := by omega
  have e8 : k < w.heap.size + 1 + 1 := by omega
  have hsd : ∀ (u : World) (n : Nat) (p : Addr) (v : Value), (u.drewN n).setCell p v = (u.setCell p v).drewN n := fun _ _ _ _ => rfl
  go_enter Try.func48, Try.ntmps48
  go_wp2
  refine wp_loop_rounds 5 ?_
  rw [rounds_succ]
  go_wp2
  go_region_held3 (fun w' => w'.cell? ⟨k, 0, none⟩ = some (.func (.func 64) #[] #[]) ∧ w'.cell? ⟨w.heap.size, 0, none⟩ = some (.int .i64 a0) ∧ w'.cell? ⟨w.heap.size + 1, 0, none⟩ = some (.int .i64 b0)) (simp [go_sem, World.cell?_alloc_lt, *])
    (first | (go_at_call 64; refine (mul_any _ _ _ (by omega) (by omega) (by omega) (by omega)).mono ?_; rintro e w1 ⟨rfl,  n1, rfl⟩))
  go_wp2
  rw [rounds_succ]
  go_wp2
  go_region_held3 (fun w' => w'.cell? ⟨k, 0, none⟩ = some (.func (.func 64) #[] #[]) ∧ w'.cell? ⟨w.heap.size, 1, none⟩ = some (.int .i64 a1) ∧ w'.cell? ⟨w.heap.size + 1, 1, none⟩ = some (.int .i64 b1)) (simp [go_sem, World.cell?_alloc_lt, *])
    (first | (go_at_call 64; refine (mul_any _ _ _ (by omega) (by omega) (by omega) (by omega)).mono ?_; rintro e w1 ⟨rfl,  n1, rfl⟩))
  go_wp2
  rw [rounds_succ]
  go_wp2
  go_region_held3 (fun w' => w'.cell? ⟨k, 0, none⟩ = some (.func (.func 64) #[] #[]) ∧ w'.cell? ⟨w.heap.size, 2, none⟩ = some (.int .i64 a2) ∧ w'.cell? ⟨w.heap.size + 1, 2, none⟩ = some (.int .i64 b2)) (simp [go_sem, World.cell?_alloc_lt, *])
    (first | (go_at_call 64; refine (mul_any _ _ _ (by omega) (by omega) (by omega) (by omega)).mono ?_; rintro e w1 ⟨rfl,  n1, rfl⟩))
  go_wp2
  rw [rounds_succ]
  go_wp2
  go_region_held3 (fun w' => w'.cell? ⟨k, 0, none⟩ = some (.func (.func 64) #[] #[]) ∧ w'.cell? ⟨w.heap.size, 3, none⟩ = some (.int .i64 a3) ∧ w'.cell? ⟨w.heap.size + 1, 3, none⟩ = some (.int .i64 b3)) (simp [go_sem, World.cell?_alloc_lt, *])
    (first | (go_at_call 64; refine (mul_any _ _ _ (by omega) (by omega) (by omega) (by omega)).mono ?_; rintro e w1 ⟨rfl,  n1, rfl⟩))
  go_wp2
  rw [rounds_succ]
  go_wp2
  refine bodyPost_ret (v := .agg #[.int .i64 (mulZ a0 b0), .int .i64 (mulZ a1 b1), .int .i64 (mulZ a2 b2), .int .i64 (mulZ a3 b3)]) (by simp [results, Try.results48, go_sem]) rfl ⟨rfl, ?_⟩
  repeat (first | exact Ext.refl _ | apply Ext.drew | apply Ext.drewN | apply Ext.alloc)

set_option maxHeartbeats 400000 in
theorem pw_minZ (w : World) :
    Calls Try.prog 36 #[.func (.func 44) #[] #[]] w fun e w' => e = .returned (.func (.func 48) #[] #[.pointer (some ⟨w.heap.size, 0, none⟩)]) ∧ w.alloc (.cells #[.func (.func 44) #[] #[]] 91) = w' := by
  go_enter Try.func36, Try.ntmps36
  go_wp2
  go_ret
  exact ⟨rfl, rfl⟩

set_option maxHeartbeats 800000 in
theorem each_minZ ( a0 a1 a2 a3 b0 b1 b2 b3 : Int)  (ha0 : -9223372036854775808 ≤ a0 ∧ a0 ≤ 9223372036854775807) (hb0 : -9223372036854775808 ≤ b0 ∧ b0 ≤ 9223372036854775807) (ha1 : -9223372036854775808 ≤ a1 ∧ a1 ≤ 9223372036854775807) (hb1 : -9223372036854775808 ≤ b1 ∧ b1 ≤ 9223372036854775807) (ha2 : -9223372036854775808 ≤ a2 ∧ a2 ≤ 9223372036854775807) (hb2 : -9223372036854775808 ≤ b2 ∧ b2 ≤ 9223372036854775807) (ha3 : -9223372036854775808 ≤ a3 ∧ a3 ≤ 9223372036854775807) (hb3 : -9223372036854775808 ≤ b3 ∧ b3 ≤ 9223372036854775807) (k : Nat) (w : World) (hc : w.cell? ⟨k, 0, none⟩ = some (.func (.func 44) #[] #[])) :
    Calls Try.prog 48 #[.agg #[.int .i64 a0, .int .i64 a1, .int .i64 a2, .int .i64 a3], .agg #[.int .i64 b0, .int .i64 b1, .int .i64 b2, .int .i64 b3], .pointer (some ⟨k, 0, none⟩)] w
      fun e w' => e = .returned (.agg #[.int .i64 (minZ a0 b0), .int .i64 (minZ a1 b1), .int .i64 (minZ a2 b2), .int .i64 (minZ a3 b3)]) ∧ Ext w w' := by
  have hk := cell_lt hc
  have e1 : w.heap.size ≠ k := by omega
  have e2 : w.heap.size + 1 ≠ k := by omega
  have e3 : w.heap.size + 1 + 1 ≠ k := by omega
  have e7 : k < w.heap.size + 1 := by omega
  have e8 : k < w.heap.size + 1 + 1 := by omega
  have hsd : ∀ (u : World) (n : Nat) (p : Addr) (v : Value), (u.drewN n).setCell p v = (u.setCell p v).drewN n := fun _ _ _ _ => rfl
  go_enter Try.func48, Try.ntmps48
  go_wp2
  refine wp_loop_rounds 5 ?_
  rw [rounds_succ]
  go_wp2
  go_region_held3 (fun w' => w'.cell? ⟨k, 0, none⟩ = some (.func (.func 44) #[] #[]) ∧ w'.cell? ⟨w.heap.size, 0, none⟩ = some (.int .i64 a0) ∧ w'.cell? ⟨w.heap.size + 1, 0, none⟩ = some (.int .i64 b0)) (simp [go_sem, World.cell?_alloc_lt, *])
    (first | (go_at_call 44; refine (min1_any _ _ _ (by omega) (by omega) (by omega) (by omega)).mono ?_; rintro e w1 ⟨rfl, rfl⟩))
  go_wp2
  rw [rounds_succ]
  go_wp2
  go_region_held3 (fun w' => w'.cell? ⟨k, 0, none⟩ = some (.func (.func 44) #[] #[]) ∧ w'.cell? ⟨w.heap.size, 1, none⟩ = some (.int .i64 a1) ∧ w'.cell? ⟨w.heap.size + 1, 1, none⟩ = some (.int .i64 b1)) (simp [go_sem, World.cell?_alloc_lt, *])
    (first | (go_at_call 44; refine (min1_any _ _ _ (by omega) (by omega) (by omega) (by omega)).mono ?_; rintro e w1 ⟨rfl, rfl⟩))
  go_wp2
  rw [rounds_succ]
  go_wp2
  go_region_held3 (fun w' => w'.cell? ⟨k, 0, none⟩ = some (.func (.func 44) #[] #[]) ∧ w'.cell? ⟨w.heap.size, 2, none⟩ = some (.int .i64 a2) ∧ w'.cell? ⟨w.heap.size + 1, 2, none⟩ = some (.int .i64 b2)) (simp [go_sem, World.cell?_alloc_lt, *])
    (first | (go_at_call 44; refine (min1_any _ _ _ (by omega) (by omega) (by omega) (by omega)).mono ?_; rintro e w1 ⟨rfl, rfl⟩))
  go_wp2
  rw [rounds_succ]
  go_wp2
  go_region_held3 (fun w' => w'.cell? ⟨k, 0, none⟩ = some (.func (.func 44) #[] #[]) ∧ w'.cell? ⟨w.heap.size, 3, none⟩ = some (.int .i64 a3) ∧ w'.cell? ⟨w.heap.size + 1, 3, none⟩ = some (.int .i64 b3)) (simp [go_sem, World.cell?_alloc_lt, *])
    (first | (go_at_call 44; refine (min1_any _ _ _ (by omega) (by omega) (by omega) (by omega)).mono ?_; rintro e w1 ⟨rfl, rfl⟩))
  go_wp2
  rw [rounds_succ]
  go_wp2
  refine bodyPost_ret (v := .agg #[.int .i64 (minZ a0 b0), .int .i64 (minZ a1 b1), .int .i64 (minZ a2 b2), .int .i64 (minZ a3 b3)]) (by simp [results, Try.results48, go_sem]) rfl ⟨rfl, ?_⟩
  repeat (first | exact Ext.refl _ | apply Ext.drew | apply Ext.drewN | apply Ext.alloc)

set_option maxHeartbeats 400000 in
theorem pw_maxZ (w : World) :
    Calls Try.prog 36 #[.func (.func 43) #[] #[]] w fun e w' => e = .returned (.func (.func 48) #[] #[.pointer (some ⟨w.heap.size, 0, none⟩)]) ∧ w.alloc (.cells #[.func (.func 43) #[] #[]] 91) = w' := by
  go_enter Try.func36, Try.ntmps36
  go_wp2
  go_ret
  exact ⟨rfl, rfl⟩

set_option maxHeartbeats 800000 in
theorem each_maxZ ( a0 a1 a2 a3 b0 b1 b2 b3 : Int)  (ha0 : -9223372036854775808 ≤ a0 ∧ a0 ≤ 9223372036854775807) (hb0 : -9223372036854775808 ≤ b0 ∧ b0 ≤ 9223372036854775807) (ha1 : -9223372036854775808 ≤ a1 ∧ a1 ≤ 9223372036854775807) (hb1 : -9223372036854775808 ≤ b1 ∧ b1 ≤ 9223372036854775807) (ha2 : -9223372036854775808 ≤ a2 ∧ a2 ≤ 9223372036854775807) (hb2 : -9223372036854775808 ≤ b2 ∧ b2 ≤ 9223372036854775807) (ha3 : -9223372036854775808 ≤ a3 ∧ a3 ≤ 9223372036854775807) (hb3 : -9223372036854775808 ≤ b3 ∧ b3 ≤ 9223372036854775807) (k : Nat) (w : World) (hc : w.cell? ⟨k, 0, none⟩ = some (.func (.func 43) #[] #[])) :
    Calls Try.prog 48 #[.agg #[.int .i64 a0, .int .i64 a1, .int .i64 a2, .int .i64 a3], .agg #[.int .i64 b0, .int .i64 b1, .int .i64 b2, .int .i64 b3], .pointer (some ⟨k, 0, none⟩)] w
      fun e w' => e = .returned (.agg #[.int .i64 (maxZ a0 b0), .int .i64 (maxZ a1 b1), .int .i64 (maxZ a2 b2), .int .i64 (maxZ a3 b3)]) ∧ Ext w w' := by
  have hk := cell_lt hc
  have e1 : w.heap.size ≠ k := by omega
  have e2 : w.heap.size + 1 ≠ k := by omega
  have e3 : w.heap.size + 1 + 1 ≠ k := by omega
  have e7 : k < w.heap.size + 1 := by omega
  have e8 : k < w.heap.size + 1 + 1 := by omega
  have hsd : ∀ (u : World) (n : Nat) (p : Addr) (v : Value), (u.drewN n).setCell p v = (u.setCell p v).drewN n := fun _ _ _ _ => rfl
  go_enter Try.func48, Try.ntmps48
  go_wp2
  refine wp_loop_rounds 5 ?_
  rw [rounds_succ]
  go_wp2
  go_region_held3 (fun w' => w'.cell? ⟨k, 0, none⟩ = some (.func (.func 43) #[] #[]) ∧ w'.cell? ⟨w.heap.size, 0, none⟩ = some (.int .i64 a0) ∧ w'.cell? ⟨w.heap.size + 1, 0, none⟩ = some (.int .i64 b0)) (simp [go_sem, World.cell?_alloc_lt, *])
    (first | (go_at_call 43; refine (max1_any _ _ _ (by omega) (by omega) (by omega) (by omega)).mono ?_; rintro e w1 ⟨rfl, rfl⟩))
  go_wp2
  rw [rounds_succ]
  go_wp2
  go_region_held3 (fun w' => w'.cell? ⟨k, 0, none⟩ = some (.func (.func 43) #[] #[]) ∧ w'.cell? ⟨w.heap.size, 1, none⟩ = some (.int .i64 a1) ∧ w'.cell? ⟨w.heap.size + 1, 1, none⟩ = some (.int .i64 b1)) (simp [go_sem, World.cell?_alloc_lt, *])
    (first | (go_at_call 43; refine (max1_any _ _ _ (by omega) (by omega) (by omega) (by omega)).mono ?_; rintro e w1 ⟨rfl, rfl⟩))
  go_wp2
  rw [rounds_succ]
  go_wp2
  go_region_held3 (fun w' => w'.cell? ⟨k, 0, none⟩ = some (.func (.func 43) #[] #[]) ∧ w'.cell? ⟨w.heap.size, 2, none⟩ = some (.int .i64 a2) ∧ w'.cell? ⟨w.heap.size + 1, 2, none⟩ = some (.int .i64 b2)) (simp [go_sem, World.cell?_alloc_lt, *])
    (first | (go_at_call 43; refine (max1_any _ _ _ (by omega) (by omega) (by omega) (by omega)).mono ?_; rintro e w1 ⟨rfl, rfl⟩))
  go_wp2
  rw [rounds_succ]
  go_wp2
  go_region_held3 (fun w' => w'.cell? ⟨k, 0, none⟩ = some (.func (.func 43) #[] #[]) ∧ w'.cell? ⟨w.heap.size, 3, none⟩ = some (.int .i64 a3) ∧ w'.cell? ⟨w.heap.size + 1, 3, none⟩ = some (.int .i64 b3)) (simp [go_sem, World.cell?_alloc_lt, *])
    (first | (go_at_call 43; refine (max1_any _ _ _ (by omega) (by omega) (by omega) (by omega)).mono ?_; rintro e w1 ⟨rfl, rfl⟩))
  go_wp2
  rw [rounds_succ]
  go_wp2
  refine bodyPost_ret (v := .agg #[.int .i64 (maxZ a0 b0), .int .i64 (maxZ a1 b1), .int .i64 (maxZ a2 b2), .int .i64 (maxZ a3 b3)]) (by simp [results, Try.results48, go_sem]) rfl ⟨rfl, ?_⟩
  repeat (first | exact Ext.refl _ | apply Ext.drew | apply Ext.drewN | apply Ext.alloc)

set_option maxHeartbeats 400000 in
theorem pw_withinW (w : World) :
    Calls Try.prog 36 #[.func (.func 37) #[] #[]] w fun e w' => e = .returned (.func (.func 48) #[] #[.pointer (some ⟨w.heap.size, 0, none⟩)]) ∧ w.alloc (.cells #[.func (.func 37) #[] #[]] 91) = w' := by
  go_enter Try.func36, Try.ntmps36
  go_wp2
  go_ret
  exact ⟨rfl, rfl⟩

set_option maxHeartbeats 800000 in
theorem each_withinW ( a0 a1 a2 a3 b0 b1 b2 b3 : Int)  (ha0 : -9223372036854775808 ≤ a0 ∧ a0 ≤ 9223372036854775807) (hb0 : -9223372036854775808 ≤ b0 ∧ b0 ≤ 9223372036854775807) (ha1 : -9223372036854775808 ≤ a1 ∧ a1 ≤ 9223372036854775807) (hb1 : -9223372036854775808 ≤ b1 ∧ b1 ≤ 9223372036854775807) (ha2 : -9223372036854775808 ≤ a2 ∧ a2 ≤ 9223372036854775807) (hb2 : -9223372036854775808 ≤ b2 ∧ b2 ≤ 9223372036854775807) (ha3 : -9223372036854775808 ≤ a3 ∧ a3 ≤ 9223372036854775807) (hb3 : -9223372036854775808 ≤ b3 ∧ b3 ≤ 9223372036854775807) (k : Nat) (w : World) (hc : w.cell? ⟨k, 0, none⟩ = some (.func (.func 37) #[] #[])) :
    Calls Try.prog 48 #[.agg #[.int .i64 a0, .int .i64 a1, .int .i64 a2, .int .i64 a3], .agg #[.int .i64 b0, .int .i64 b1, .int .i64 b2, .int .i64 b3], .pointer (some ⟨k, 0, none⟩)] w
      fun e w' => e = .returned (.agg #[.int .i64 (withinW a0 b0), .int .i64 (withinW a1 b1), .int .i64 (withinW a2 b2), .int .i64 (withinW a3 b3)]) ∧ Ext w w' := by
  have hk := cell_lt hc
  have e1 : w.heap.size ≠ k := by omega
  have e2 : w.heap.size + 1 ≠ k := by omega
  have e3 : w.heap.size + 1 + 1 ≠ k := by omega
  have e7 : k < w.heap.size + 1 := by omega
  have e8 : k < w.heap.size + 1 + 1 := by omega
  have hsd : ∀ (u : World) (n : Nat) (p : Addr) (v : Value), (u.drewN n).setCell p v = (u.setCell p v).drewN n := fun _ _ _ _ => rfl
  go_enter Try.func48, Try.ntmps48
  go_wp2
  refine wp_loop_rounds 5 ?_
  rw [rounds_succ]
  go_wp2
  go_region_held3 (fun w' => w'.cell? ⟨k, 0, none⟩ = some (.func (.func 37) #[] #[]) ∧ w'.cell? ⟨w.heap.size, 0, none⟩ = some (.int .i64 a0) ∧ w'.cell? ⟨w.heap.size + 1, 0, none⟩ = some (.int .i64 b0)) (simp [go_sem, World.cell?_alloc_lt, *])
    (first | (go_at_call 37; refine (withinW_any _ _ _ (by omega) (by omega) (by omega) (by omega)).mono ?_; rintro e w1 ⟨rfl, rfl⟩))
  go_wp2
  rw [rounds_succ]
  go_wp2
  go_region_held3 (fun w' => w'.cell? ⟨k, 0, none⟩ = some (.func (.func 37) #[] #[]) ∧ w'.cell? ⟨w.heap.size, 1, none⟩ = some (.int .i64 a1) ∧ w'.cell? ⟨w.heap.size + 1, 1, none⟩ = some (.int .i64 b1)) (simp [go_sem, World.cell?_alloc_lt, *])
    (first | (go_at_call 37; refine (withinW_any _ _ _ (by omega) (by omega) (by omega) (by omega)).mono ?_; rintro e w1 ⟨rfl, rfl⟩))
  go_wp2
  rw [rounds_succ]
  go_wp2
  go_region_held3 (fun w' => w'.cell? ⟨k, 0, none⟩ = some (.func (.func 37) #[] #[]) ∧ w'.cell? ⟨w.heap.size, 2, none⟩ = some (.int .i64 a2) ∧ w'.cell? ⟨w.heap.size + 1, 2, none⟩ = some (.int .i64 b2)) (simp [go_sem, World.cell?_alloc_lt, *])
    (first | (go_at_call 37; refine (withinW_any _ _ _ (by omega) (by omega) (by omega) (by omega)).mono ?_; rintro e w1 ⟨rfl, rfl⟩))
  go_wp2
  rw [rounds_succ]
  go_wp2
  go_region_held3 (fun w' => w'.cell? ⟨k, 0, none⟩ = some (.func (.func 37) #[] #[]) ∧ w'.cell? ⟨w.heap.size, 3, none⟩ = some (.int .i64 a3) ∧ w'.cell? ⟨w.heap.size + 1, 3, none⟩ = some (.int .i64 b3)) (simp [go_sem, World.cell?_alloc_lt, *])
    (first | (go_at_call 37; refine (withinW_any _ _ _ (by omega) (by omega) (by omega) (by omega)).mono ?_; rintro e w1 ⟨rfl, rfl⟩))
  go_wp2
  rw [rounds_succ]
  go_wp2
  refine bodyPost_ret (v := .agg #[.int .i64 (withinW a0 b0), .int .i64 (withinW a1 b1), .int .i64 (withinW a2 b2), .int .i64 (withinW a3 b3)]) (by simp [results, Try.results48, go_sem]) rfl ⟨rfl, ?_⟩
  repeat (first | exact Ext.refl _ | apply Ext.drew | apply Ext.drewN | apply Ext.alloc)

end Go.Proofs.Ytellfhnfifgpoaa

namespace Go.Proofs.Ytellfhnfifgpoaa
open Go.RowKit
set_option linter.unusedVariables false

set_option maxHeartbeats 400000 in
theorem all_any (n : Int) (w : World) :
    Calls Try.prog 38 #[.int .i64 n] w fun e w' => e = .returned (.agg #[.int .i64 n, .int .i64 n, .int .i64 n, .int .i64 n]) ∧ Ext w w' := by
  go_enter Try.func38, Try.ntmps38
  go_wp2
  refine bodyPost_ret (v := .agg #[.int .i64 n, .int .i64 n, .int .i64 n, .int .i64 n]) (by simp [results, Try.results38, go_sem]) rfl ⟨rfl, ?_⟩
  repeat (first | exact Ext.refl _ | apply Ext.drew | apply Ext.drewN | apply Ext.alloc)

set_option maxHeartbeats 400000 in
theorem vec_addZ ( a0 a1 a2 a3 b0 b1 b2 b3 : Int)  (ha0 : -9223372036854775808 ≤ a0 ∧ a0 ≤ 9223372036854775807) (hb0 : -9223372036854775808 ≤ b0 ∧ b0 ≤ 9223372036854775807) (ha1 : -9223372036854775808 ≤ a1 ∧ a1 ≤ 9223372036854775807) (hb1 : -9223372036854775808 ≤ b1 ∧ b1 ≤ 9223372036854775807) (ha2 : -9223372036854775808 ≤ a2 ∧ a2 ≤ 9223372036854775807) (hb2 : -9223372036854775808 ≤ b2 ∧ b2 ≤ 9223372036854775807) (ha3 : -9223372036854775808 ≤ a3 ∧ a3 ≤ 9223372036854775807) (hb3 : -9223372036854775808 ≤ b3 ∧ b3 ≤ 9223372036854775807) (w : World) :
    Calls Try.prog 55 #[.agg #[.int .i64 a0, .int .i64 a1, .int .i64 a2, .int .i64 a3], .agg #[.int .i64 b0, .int .i64 b1, .int .i64 b2, .int .i64 b3]] w
      fun e w' => e = .returned (.agg #[.int .i64 (addZ a0 b0), .int .i64 (addZ a1 b1), .int .i64 (addZ a2 b2), .int .i64 (addZ a3 b3)]) ∧ Ext w w' := by
  go_enter Try.func55, Try.ntmps55
  go_wp2
  go_region_held3 (fun w' => w'.cell? ⟨w.heap.size, 0, none⟩ = some (.int .i64 a0) ∧ w'.cell? ⟨w.heap.size, 1, none⟩ = some (.int .i64 a1) ∧ w'.cell? ⟨w.heap.size, 2, none⟩ = some (.int .i64 a2) ∧ w'.cell? ⟨w.heap.size, 3, none⟩ = some (.int .i64 a3) ∧ w'.cell? ⟨w.heap.size + 1, 0, none⟩ = some (.int .i64 b0) ∧ w'.cell? ⟨w.heap.size + 1, 1, none⟩ = some (.int .i64 b1) ∧ w'.cell? ⟨w.heap.size + 1, 2, none⟩ = some (.int .i64 b2) ∧ w'.cell? ⟨w.heap.size + 1, 3, none⟩ = some (.int .i64 b3)) (simp [go_sem, World.cell?_alloc_lt, *])
    (first | (go_at_call 36; refine (pw_addZ _).mono ?_; rintro e w1 ⟨rfl, rfl⟩) | (go_at_call 48; refine (each_addZ _ _ _ _ _ _ _ _ (by omega) (by omega) (by omega) (by omega) (by omega) (by omega) (by omega) (by omega) _ _ ?_).mono ?_; (simp [go_sem]); rintro e w1 ⟨rfl, hx⟩; have hxc := hx.cells; have hxf := hx.fr))
  go_wp2
  refine bodyPost_ret (v := .agg #[.int .i64 (addZ a0 b0), .int .i64 (addZ a1 b1), .int .i64 (addZ a2 b2), .int .i64 (addZ a3 b3)]) (by simp [results, Try.results55, go_sem, hxc]) rfl ⟨rfl, ?_⟩
  repeat (refine Ext.setCell ?_ (by simp only; omega) _)
  refine Ext.trans ?_ hx
  repeat (first | exact Ext.refl _ | apply Ext.drew | apply Ext.drewN | apply Ext.alloc)

set_option maxHeartbeats 400000 in
theorem vec_subZ ( a0 a1 a2 a3 b0 b1 b2 b3 : Int)  (ha0 : -9223372036854775808 ≤ a0 ∧ a0 ≤ 9223372036854775807) (hb0 : -9223372036854775808 ≤ b0 ∧ b0 ≤ 9223372036854775807) (ha1 : -9223372036854775808 ≤ a1 ∧ a1 ≤ 9223372036854775807) (hb1 : -9223372036854775808 ≤ b1 ∧ b1 ≤ 9223372036854775807) (ha2 : -9223372036854775808 ≤ a2 ∧ a2 ≤ 9223372036854775807) (hb2 : -9223372036854775808 ≤ b2 ∧ b2 ≤ 9223372036854775807) (ha3 : -9223372036854775808 ≤ a3 ∧ a3 ≤ 9223372036854775807) (hb3 : -9223372036854775808 ≤ b3 ∧ b3 ≤ 9223372036854775807) (w : World) :
    Calls Try.prog 56 #[.agg #[.int .i64 a0, .int .i64 a1, .int .i64 a2, .int .i64 a3], .agg #[.int .i64 b0, .int .i64 b1, .int .i64 b2, .int .i64 b3]] w
      fun e w' => e = .returned (.agg #[.int .i64 (subZ a0 b0), .int .i64 (subZ a1 b1), .int .i64 (subZ a2 b2), .int .i64 (subZ a3 b3)]) ∧ Ext w w' := by
  go_enter Try.func56, Try.ntmps56
  go_wp2
  go_region_held3 (fun w' => w'.cell? ⟨w.heap.size, 0, none⟩ = some (.int .i64 a0) ∧ w'.cell? ⟨w.heap.size, 1, none⟩ = some (.int .i64 a1) ∧ w'.cell? ⟨w.heap.size, 2, none⟩ = some (.int .i64 a2) ∧ w'.cell? ⟨w.heap.size, 3, none⟩ = some (.int .i64 a3) ∧ w'.cell? ⟨w.heap.size + 1, 0, none⟩ = some (.int .i64 b0) ∧ w'.cell? ⟨w.heap.size + 1, 1, none⟩ = some (.int .i64 b1) ∧ w'.cell? ⟨w.heap.size + 1, 2, none⟩ = some (.int .i64 b2) ∧ w'.cell? ⟨w.heap.size + 1, 3, none⟩ = some (.int .i64 b3)) (simp [go_sem, World.cell?_alloc_lt, *])
    (first | (go_at_call 36; refine (pw_subZ _).mono ?_; rintro e w1 ⟨rfl, rfl⟩) | (go_at_call 48; refine (each_subZ _ _ _ _ _ _ _ _ (by omega) (by omega) (by omega) (by omega) (by omega) (by omega) (by omega) (by omega) _ _ ?_).mono ?_; (simp [go_sem]); rintro e w1 ⟨rfl, hx⟩; have hxc := hx.cells; have hxf := hx.fr))
  go_wp2
  refine bodyPost_ret (v := .agg #[.int .i64 (subZ a0 b0), .int .i64 (subZ a1 b1), .int .i64 (subZ a2 b2), .int .i64 (subZ a3 b3)]) (by simp [results, Try.results56, go_sem, hxc]) rfl ⟨rfl, ?_⟩
  repeat (refine Ext.setCell ?_ (by simp only; omega) _)
  refine Ext.trans ?_ hx
  repeat (first | exact Ext.refl _ | apply Ext.drew | apply Ext.drewN | apply Ext.alloc)

set_option maxHeartbeats 400000 in
theorem vec_mulZ ( a0 a1 a2 a3 b0 b1 b2 b3 : Int)  (ha0 : -9223372036854775808 ≤ a0 ∧ a0 ≤ 9223372036854775807) (hb0 : -9223372036854775808 ≤ b0 ∧ b0 ≤ 9223372036854775807) (ha1 : -9223372036854775808 ≤ a1 ∧ a1 ≤ 9223372036854775807) (hb1 : -9223372036854775808 ≤ b1 ∧ b1 ≤ 9223372036854775807) (ha2 : -9223372036854775808 ≤ a2 ∧ a2 ≤ 9223372036854775807) (hb2 : -9223372036854775808 ≤ b2 ∧ b2 ≤ 9223372036854775807) (ha3 : -9223372036854775808 ≤ a3 ∧ a3 ≤ 9223372036854775807) (hb3 : -9223372036854775808 ≤ b3 ∧ b3 ≤ 9223372036854775807) (w : World) :
    Calls Try.prog 57 #[.agg #[.int .i64 a0, .int .i64 a1, .int .i64 a2, .int .i64 a3], .agg #[.int .i64 b0, .int .i64 b1, .int .i64 b2, .int .i64 b3]] w
      fun e w' => e = .returned (.agg #[.int .i64 (mulZ a0 b0), .int .i64 (mulZ a1 b1), .int .i64 (mulZ a2 b2), .int .i64 (mulZ a3 b3)]) ∧ Ext w w' := by
  go_enter Try.func57, Try.ntmps57
  go_wp2
  go_region_held3 (fun w' => w'.cell? ⟨w.heap.size, 0, none⟩ = some (.int .i64 a0) ∧ w'.cell? ⟨w.heap.size, 1, none⟩ = some (.int .i64 a1) ∧ w'.cell? ⟨w.heap.size, 2, none⟩ = some (.int .i64 a2) ∧ w'.cell? ⟨w.heap.size, 3, none⟩ = some (.int .i64 a3) ∧ w'.cell? ⟨w.heap.size + 1, 0, none⟩ = some (.int .i64 b0) ∧ w'.cell? ⟨w.heap.size + 1, 1, none⟩ = some (.int .i64 b1) ∧ w'.cell? ⟨w.heap.size + 1, 2, none⟩ = some (.int .i64 b2) ∧ w'.cell? ⟨w.heap.size + 1, 3, none⟩ = some (.int .i64 b3)) (simp [go_sem, World.cell?_alloc_lt, *])
    (first | (go_at_call 36; refine (pw_mulZ _).mono ?_; rintro e w1 ⟨rfl, rfl⟩) | (go_at_call 48; refine (each_mulZ _ _ _ _ _ _ _ _ (by omega) (by omega) (by omega) (by omega) (by omega) (by omega) (by omega) (by omega) _ _ ?_).mono ?_; (simp [go_sem]); rintro e w1 ⟨rfl, hx⟩; have hxc := hx.cells; have hxf := hx.fr))
  go_wp2
  refine bodyPost_ret (v := .agg #[.int .i64 (mulZ a0 b0), .int .i64 (mulZ a1 b1), .int .i64 (mulZ a2 b2), .int .i64 (mulZ a3 b3)]) (by simp [results, Try.results57, go_sem, hxc]) rfl ⟨rfl, ?_⟩
  repeat (refine Ext.setCell ?_ (by simp only; omega) _)
  refine Ext.trans ?_ hx
  repeat (first | exact Ext.refl _ | apply Ext.drew | apply Ext.drewN | apply Ext.alloc)

set_option maxHeartbeats 400000 in
theorem vec_minZ ( a0 a1 a2 a3 b0 b1 b2 b3 : Int)  (ha0 : -9223372036854775808 ≤ a0 ∧ a0 ≤ 9223372036854775807) (hb0 : -9223372036854775808 ≤ b0 ∧ b0 ≤ 9223372036854775807) (ha1 : -9223372036854775808 ≤ a1 ∧ a1 ≤ 9223372036854775807) (hb1 : -9223372036854775808 ≤ b1 ∧ b1 ≤ 9223372036854775807) (ha2 : -9223372036854775808 ≤ a2 ∧ a2 ≤ 9223372036854775807) (hb2 : -9223372036854775808 ≤ b2 ∧ b2 ≤ 9223372036854775807) (ha3 : -9223372036854775808 ≤ a3 ∧ a3 ≤ 9223372036854775807) (hb3 : -9223372036854775808 ≤ b3 ∧ b3 ≤ 9223372036854775807) (w : World) :
    Calls Try.prog 33 #[.agg #[.int .i64 a0, .int .i64 a1, .int .i64 a2, .int .i64 a3], .agg #[.int .i64 b0, .int .i64 b1, .int .i64 b2, .int .i64 b3]] w
      fun e w' => e = .returned (.agg #[.int .i64 (minZ a0 b0), .int .i64 (minZ a1 b1), .int .i64 (minZ a2 b2), .int .i64 (minZ a3 b3)]) ∧ Ext w w' := by
  go_enter Try.func33, Try.ntmps33
  go_wp2_with fail
  with_reducible refine (pw_minZ _).mono ?_
  rintro e w1 ⟨rfl, rfl⟩
  go_wp2_with fail
  refine (each_minZ _ _ _ _ _ _ _ _ (by omega) (by omega) (by omega) (by omega) (by omega) (by omega) (by omega) (by omega) _ _ ?_).mono ?_
  · simp [go_sem]
  rintro e w1 ⟨rfl, hx⟩
  have hxc := hx.cells
  have hxf := hx.fr
  go_wp2
  refine bodyPost_ret (v := .agg #[.int .i64 (minZ a0 b0), .int .i64 (minZ a1 b1), .int .i64 (minZ a2 b2), .int .i64 (minZ a3 b3)]) (by simp [results, Try.results33, go_sem, hxc]) rfl ⟨rfl, ?_⟩
  repeat (refine Ext.setCell ?_ (by simp only; omega) _)
  refine Ext.trans ?_ hx
  repeat (first | exact Ext.refl _ | apply Ext.drew | apply Ext.drewN | apply Ext.alloc)

set_option maxHeartbeats 400000 in
theorem vec_maxZ ( a0 a1 a2 a3 b0 b1 b2 b3 : Int)  (ha0 : -9223372036854775808 ≤ a0 ∧ a0 ≤ 9223372036854775807) (hb0 : -9223372036854775808 ≤ b0 ∧ b0 ≤ 9223372036854775807) (ha1 : -9223372036854775808 ≤ a1 ∧ a1 ≤ 9223372036854775807) (hb1 : -9223372036854775808 ≤ b1 ∧ b1 ≤ 9223372036854775807) (ha2 : -9223372036854775808 ≤ a2 ∧ a2 ≤ 9223372036854775807) (hb2 : -9223372036854775808 ≤ b2 ∧ b2 ≤ 9223372036854775807) (ha3 : -9223372036854775808 ≤ a3 ∧ a3 ≤ 9223372036854775807) (hb3 : -9223372036854775808 ≤ b3 ∧ b3 ≤ 9223372036854775807) (w : World) :
    Calls Try.prog 31 #[.agg #[.int .i64 a0, .int .i64 a1, .int .i64 a2, .int .i64 a3], .agg #[.int .i64 b0, .int .i64 b1, .int .i64 b2, .int .i64 b3]] w
      fun e w' => e = .returned (.agg #[.int .i64 (maxZ a0 b0), .int .i64 (maxZ a1 b1), .int .i64 (maxZ a2 b2), .int .i64 (maxZ a3 b3)]) ∧ Ext w w' := by
  go_enter Try.func31, Try.ntmps31
  go_wp2_with fail
  with_reducible refine (pw_maxZ _).mono ?_
  rintro e w1 ⟨rfl, rfl⟩
  go_wp2_with fail
  refine (each_maxZ _ _ _ _ _ _ _ _ (by omega) (by omega) (by omega) (by omega) (by omega) (by omega) (by omega) (by omega) _ _ ?_).mono ?_
  · simp [go_sem]
  rintro e w1 ⟨rfl, hx⟩
  have hxc := hx.cells
  have hxf := hx.fr
  go_wp2
  refine bodyPost_ret (v := .agg #[.int .i64 (maxZ a0 b0), .int .i64 (maxZ a1 b1), .int .i64 (maxZ a2 b2), .int .i64 (maxZ a3 b3)]) (by simp [results, Try.results31, go_sem, hxc]) rfl ⟨rfl, ?_⟩
  repeat (refine Ext.setCell ?_ (by simp only; omega) _)
  refine Ext.trans ?_ hx
  repeat (first | exact Ext.refl _ | apply Ext.drew | apply Ext.drewN | apply Ext.alloc)

set_option maxHeartbeats 400000 in
theorem vec_within ( a0 a1 a2 a3 n : Int)  (ha0 : -9223372036854775808 ≤ a0 ∧ a0 ≤ 9223372036854775807) (ha1 : -9223372036854775808 ≤ a1 ∧ a1 ≤ 9223372036854775807) (ha2 : -9223372036854775808 ≤ a2 ∧ a2 ≤ 9223372036854775807) (ha3 : -9223372036854775808 ≤ a3 ∧ a3 ≤ 9223372036854775807) (hn : -9223372036854775808 ≤ n ∧ n ≤ 9223372036854775807) (w : World) :
    Calls Try.prog 24 #[.agg #[.int .i64 a0, .int .i64 a1, .int .i64 a2, .int .i64 a3], .int .i64 n] w
      fun e w' => e = .returned (.agg #[.int .i64 (withinW a0 n), .int .i64 (withinW a1 n), .int .i64 (withinW a2 n), .int .i64 (withinW a3 n)]) ∧ Ext w w' := by
  go_enter Try.func24, Try.ntmps24
  go_wp2
  go_region_held3 (fun w' => w'.cell? ⟨w.heap.size, 0, none⟩ = some (.int .i64 a0) ∧ w'.cell? ⟨w.heap.size, 1, none⟩ = some (.int .i64 a1) ∧ w'.cell? ⟨w.heap.size, 2, none⟩ = some (.int .i64 a2) ∧ w'.cell? ⟨w.heap.size, 3, none⟩ = some (.int .i64 a3)) (simp [go_sem, World.cell?_alloc_lt, *])
    (first | (go_at_call 36; refine (pw_withinW _).mono ?_; rintro e w1 ⟨rfl, rfl⟩) | (go_at_call 38; refine (all_any _ _).mono ?_; rintro e w1 ⟨rfl, hx⟩; have hxc := hx.cells; have hxf := hx.fr; have hz := hx.size; have hz0 : w.heap.size < w1.heap.size := (by simp at hz; omega); have hz1 : w.heap.size + 1 < w1.heap.size := (by simp at hz; omega)) | (go_at_call 48; refine (each_withinW _ _ _ _ _ _ _ _ (by omega) (by omega) (by omega) (by omega) (by omega) (by omega) (by omega) (by omega) _ _ ?_).mono ?_; (simp [go_sem, hxc]); rintro e w2 ⟨rfl, hy⟩; have hyc := hy.cells; have hyf := hy.fr))
  go_wp2
  refine bodyPost_ret (v := .agg #[.int .i64 (withinW a0 n), .int .i64 (withinW a1 n), .int .i64 (withinW a2 n), .int .i64 (withinW a3 n)]) (by simp [results, Try.results24, go_sem, hxc, hyc, hz1]) rfl ⟨rfl, ?_⟩
  repeat (refine Ext.setCell ?_ (by simp only; omega) _)
  refine Ext.trans (Ext.trans ?_ hx) hy
  repeat (first | exact Ext.refl _ | apply Ext.drew | apply Ext.drewN | apply Ext.alloc)

end Go.Proofs.Ytellfhnfifgpoaa

namespace Go.Proofs.Ytellfhnfifgpoaa
open Go.RowKit
set_option linter.unusedVariables false

def dotZ (a0 a1 a2 a3 b0 b1 b2 b3 : Int) : Int := addZ (addZ (addZ (mulZ a0 b0) (mulZ a1 b1)) (mulZ a2 b2)) (mulZ a3 b3)
theorem addZ_bd (a b : Int) : -2147483647 ≤ addZ a b ∧ addZ a b ≤ 2147483647 := clampZ_bd _
theorem mulZ_bd (a b : Int) : -2147483647 ≤ mulZ a b ∧ mulZ a b ≤ 2147483647 := clampZ_bd _
theorem dotZ_bd (a0 a1 a2 a3 b0 b1 b2 b3 : Int) : -2147483647 ≤ dotZ a0 a1 a2 a3 b0 b1 b2 b3 ∧ dotZ a0 a1 a2 a3 b0 b1 b2 b3 ≤ 2147483647 := clampZ_bd _
theorem addZ_zero_mul (a b : Int) : addZ 0 (mulZ a b) = mulZ a b := by
  have := mulZ_bd a b
  unfold addZ clampZ; omega

set_option maxHeartbeats 800000 in
theorem dot_any ( a0 a1 a2 a3 b0 b1 b2 b3 : Int)  (ha0 : -9223372036854775808 ≤ a0 ∧ a0 ≤ 9223372036854775807) (hb0 : -9223372036854775808 ≤ b0 ∧ b0 ≤ 9223372036854775807) (ha1 : -9223372036854775808 ≤ a1 ∧ a1 ≤ 9223372036854775807) (hb1 : -9223372036854775808 ≤ b1 ∧ b1 ≤ 9223372036854775807) (ha2 : -9223372036854775808 ≤ a2 ∧ a2 ≤ 9223372036854775807) (hb2 : -9223372036854775808 ≤ b2 ∧ b2 ≤ 9223372036854775807) (ha3 : -9223372036854775808 ≤ a3 ∧ a3 ≤ 9223372036854775807) (hb3 : -9223372036854775808 ≤ b3 ∧ b3 ≤ 9223372036854775807) (w : World) :
    Calls Try.prog 58 #[.agg #[.int .i64 a0, .int .i64 a1, .int .i64 a2, .int .i64 a3], .agg #[.int .i64 b0, .int .i64 b1, .int .i64 b2, .int .i64 b3]] w
      fun e w' => e = .returned (.int .i64 (dotZ a0 a1 a2 a3 b0 b1 b2 b3)) ∧ Ext w w' := by
  have m0 := mulZ_bd a0 b0
  have m1 := mulZ_bd a1 b1
  have m2 := mulZ_bd a2 b2
  have m3 := mulZ_bd a3 b3
  have s1 := addZ_bd (mulZ a0 b0) (mulZ a1 b1)
  have s2 := addZ_bd (addZ (mulZ a0 b0) (mulZ a1 b1)) (mulZ a2 b2)
  have hI := idxV
  go_enter Try.func58, Try.ntmps58
  go_wp2_with fail
  with_reducible refine (vec_mulZ _ _ _ _ _ _ _ _ (by omega) (by omega) (by omega) (by omega) (by omega) (by omega) (by omega) (by omega) _).mono ?_
  rintro e w1 ⟨rfl, hx⟩
  go_wp2
  refine wp_loop_rounds 5 ?_
  rw [rounds_succ]
  go_wp2_with fail
  with_reducible refine (add_any _ _ _ (by omega) (by omega) (by omega) (by omega)).mono ?_
  rintro e w2 ⟨rfl, rfl⟩
  rw [addZ_zero_mul]
  go_wp2
  rw [rounds_succ]
  go_wp2_with fail
  with_reducible refine (add_any _ _ _ (by omega) (by omega) (by omega) (by omega)).mono ?_
  rintro e w2 ⟨rfl, rfl⟩
  go_wp2
  rw [rounds_succ]
  go_wp2_with fail
  with_reducible refine (add_any _ _ _ (by omega) (by omega) (by omega) (by omega)).mono ?_
  rintro e w2 ⟨rfl, rfl⟩
  go_wp2
  rw [rounds_succ]
  go_wp2_with fail
  with_reducible refine (add_any _ _ _ (by omega) (by omega) (by omega) (by omega)).mono ?_
  rintro e w2 ⟨rfl, rfl⟩
  go_wp2
  rw [rounds_succ]
  go_wp2
  go_ret
  refine ⟨rfl, Ext.trans ?_ hx⟩
  repeat (first | exact Ext.refl _ | apply Ext.drew | apply Ext.drewN | apply Ext.alloc)

set_option maxHeartbeats 400000 in
theorem radd_any (a b : Int) (w : World) (h1 : -9223372036854775808 ≤ a) (h2 : a ≤ 9223372036854775807) (h3 : -9223372036854775808 ≤ b) (h4 : b ≤ 9223372036854775807) :
    Calls Try.prog 39 #[.int .i64 a, .int .i64 b] w fun e w' => e = .returned (.int .i64 (addZ a b)) ∧ w = w' := by
  obtain ⟨ca1, ca2⟩ := clampZ_bd a
  obtain ⟨cb1, cb2⟩ := clampZ_bd b
  go_enter Try.func39, Try.ntmps39
  go_wp2_with fail
  with_reducible refine (rclamp_any _ _ (by omega) (by omega)).mono ?_
  rintro e w' ⟨rfl, rfl⟩
  go_wp2_with fail
  with_reducible refine (rclamp_any _ _ (by omega) (by omega)).mono ?_
  rintro e w' ⟨rfl, rfl⟩
  go_wp2_with fail
  with_reducible refine (rclamp_any _ _ (by omega) (by omega)).mono ?_
  rintro e w' ⟨rfl, rfl⟩
  go_wp2
  go_ret
  exact ⟨rfl, rfl⟩

set_option maxHeartbeats 800000 in
theorem rdot_any ( a0 a1 a2 a3 b0 b1 b2 b3 : Int)  (ha0 : -9223372036854775808 ≤ a0 ∧ a0 ≤ 9223372036854775807) (hb0 : -9223372036854775808 ≤ b0 ∧ b0 ≤ 9223372036854775807) (ha1 : -9223372036854775808 ≤ a1 ∧ a1 ≤ 9223372036854775807) (hb1 : -9223372036854775808 ≤ b1 ∧ b1 ≤ 9223372036854775807) (ha2 : -9223372036854775808 ≤ a2 ∧ a2 ≤ 9223372036854775807) (hb2 : -9223372036854775808 ≤ b2 ∧ b2 ≤ 9223372036854775807) (ha3 : -9223372036854775808 ≤ a3 ∧ a3 ≤ 9223372036854775807) (hb3 : -9223372036854775808 ≤ b3 ∧ b3 ≤ 9223372036854775807) (w : World) :
    Calls Try.prog 26 #[.agg #[.int .i64 a0, .int .i64 a1, .int .i64 a2, .int .i64 a3], .agg #[.int .i64 b0, .int .i64 b1, .int .i64 b2, .int .i64 b3]] w
      fun e w' => e = .returned (.int .i64 (dotZ a0 a1 a2 a3 b0 b1 b2 b3)) ∧ Ext w w' := by
  have m0 := mulZ_bd a0 b0
  have m1 := mulZ_bd a1 b1
  have m2 := mulZ_bd a2 b2
  have m3 := mulZ_bd a3 b3
  have s1 := addZ_bd (mulZ a0 b0) (mulZ a1 b1)
  have s2 := addZ_bd (addZ (mulZ a0 b0) (mulZ a1 b1)) (mulZ a2 b2)
  go_enter Try.func26, Try.ntmps26
  go_wp2
  go_quiet (first | (go_at_call 40; exact quiet_eq (rmul_any _ _ _ (by omega) (by omega) (by omega) (by omega))) | (go_at_call 39; exact quiet_eq (radd_any _ _ _ (by omega) (by omega) (by omega) (by omega))))
  go_wp2
  go_ret
  refine ⟨rfl, ?_⟩
  repeat (first | exact Ext.refl _ | apply Ext.drew | apply Ext.drewN | apply Ext.alloc)

end Go.Proofs.Ytellfhnfifgpoaa

