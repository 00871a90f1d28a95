/-
  DERIVED. vec.Min, vec.Max alone (of the walks of layer 2): what each call returns, over every world; it makes memory, and of what was there nothing turns.
-/
import Derived.Test.YtglehnmkdapnpaaPkVecW
namespace Go.Proofs.Ytglehnmkdapnpaa
open Go.RowKit
set_option linter.unusedVariables false

set_option maxHeartbeats 400000 in
theorem min1_any (a b : Int) (w : World) (h1 : -9223372036854775808 ≤ a) (h2 : a ≤ 9223372036854775807) (h3 : -9223372036854775808 ≤ b) (h4 : b ≤ 9223372036854775807) :
    Calls Try.prog 64 #[.int .i64 a, .int .i64 b] w fun e w' => e = .returned (.int .i64 (minZ a b)) ∧ w = w' := by
  go_enter Try.func64, Try.ntmps64
  go_wp2_with fail
  with_reducible refine (clamp_any _ _ (by omega) (by omega)).mono ?_
  rintro e w' ⟨rfl, rfl⟩
  go_wp2_with fail
  with_reducible refine (clamp_any _ _ (by omega) (by omega)).mono ?_
  rintro e w' ⟨rfl, rfl⟩
  go_wp2
  all_goals (go_ret; exact ⟨ret_int (by unfold minZ; omega), rfl⟩)

set_option maxHeartbeats 400000 in
theorem max1_any (a b : Int) (w : World) (h1 : -9223372036854775808 ≤ a) (h2 : a ≤ 9223372036854775807) (h3 : -9223372036854775808 ≤ b) (h4 : b ≤ 9223372036854775807) :
    Calls Try.prog 62 #[.int .i64 a, .int .i64 b] w fun e w' => e = .returned (.int .i64 (maxZ a b)) ∧ w = w' := by
  go_enter Try.func62, Try.ntmps62
  go_wp2_with fail
  with_reducible refine (clamp_any _ _ (by omega) (by omega)).mono ?_
  rintro e w' ⟨rfl, rfl⟩
  go_wp2_with fail
  with_reducible refine (clamp_any _ _ (by omega) (by omega)).mono ?_
  rintro e w' ⟨rfl, rfl⟩
  go_wp2
  all_goals (go_ret; exact ⟨ret_int (by unfold maxZ; omega), rfl⟩)

set_option maxHeartbeats 400000 in
theorem pw_minZ (w : World) :
    Calls Try.prog 55 #[.func (.func 64) #[] #[]] w fun e w' => e = .returned (.func (.func 61) #[] #[.pointer (some ⟨w.heap.size, 0, none⟩)]) ∧ w.alloc (.cells #[.func (.func 64) #[] #[]] 101) = w' := by
  go_enter Try.func55, Try.ntmps55
  go_wp2
  go_ret
  exact ⟨rfl, rfl⟩

set_option maxHeartbeats 800000 in
theorem each_minZ ( a0 a1 a2 a3 b0 b1 b2 b3 : Int)  (ha0 : -9223372036854775808 ≤ a0 ∧ a0 ≤ 9223372036854775807) (hb0 : -9223372036854775808 ≤ b0 ∧ b0 ≤ 9223372036854775807) (ha1 : -9223372036854775808 ≤ a1 ∧ a1 ≤ 9223372036854775807) (hb1 : -9223372036854775808 ≤ b1 ∧ b1 ≤ 9223372036854775807) (ha2 : -9223372036854775808 ≤ a2 ∧ a2 ≤ 9223372036854775807) (hb2 : -9223372036854775808 ≤ b2 ∧ b2 ≤ 9223372036854775807) (ha3 : -9223372036854775808 ≤ a3 ∧ a3 ≤ 9223372036854775807) (hb3 : -9223372036854775808 ≤ b3 ∧ b3 ≤ 9223372036854775807) (k : Nat) (w : World) (hc : w.cell? ⟨k, 0, none⟩ = some (.func (.func 64) #[] #[])) :
    Calls Try.prog 61 #[.agg #[.int .i64 a0, .int .i64 a1, .int .i64 a2, .int .i64 a3], .agg #[.int .i64 b0, .int .i64 b1, .int .i64 b2, .int .i64 b3], .pointer (some ⟨k, 0, none⟩)] w
      fun e w' => e = .returned (.agg #[.int .i64 (minZ a0 b0), .int .i64 (minZ a1 b1), .int .i64 (minZ a2 b2), .int .i64 (minZ a3 b3)]) ∧ Ext w w' := by
  have hk := cell_lt hc
  have e1 : w.heap.size ≠ k := by omega
  have e2 : w.heap.size + 1 ≠ k := by omega
  have e3 : w.heap.size + 1 + 1 ≠ k := by omega
  have e7 : k < w.heap.size + 1 := by omega
  have e8 : k < w.heap.size + 1 + 1 := by omega
  have hsd : ∀ (u : World) (n : Nat) (p : Addr) (v : Value), (u.drewN n).setCell p v = (u.setCell p v).drewN n := fun _ _ _ _ => rfl
  go_enter Try.func61, Try.ntmps61
  go_wp2
  refine wp_loop_rounds 5 ?_
  rw [rounds_succ]
  go_wp2
  go_region_held3 (fun w' => w'.cell? ⟨k, 0, none⟩ = some (.func (.func 64) #[] #[]) ∧ w'.cell? ⟨w.heap.size, 0, none⟩ = some (.int .i64 a0) ∧ w'.cell? ⟨w.heap.size + 1, 0, none⟩ = some (.int .i64 b0)) (simp [go_sem, World.cell?_alloc_lt, *])
    (first | (go_at_call 64; refine (min1_any _ _ _ (by omega) (by omega) (by omega) (by omega)).mono ?_; rintro e w1 ⟨rfl, rfl⟩))
  go_wp2
  rw [rounds_succ]
  go_wp2
  go_region_held3 (fun w' => w'.cell? ⟨k, 0, none⟩ = some (.func (.func 64) #[] #[]) ∧ w'.cell? ⟨w.heap.size, 1, none⟩ = some (.int .i64 a1) ∧ w'.cell? ⟨w.heap.size + 1, 1, none⟩ = some (.int .i64 b1)) (simp [go_sem, World.cell?_alloc_lt, *])
    (first | (go_at_call 64; refine (min1_any _ _ _ (by omega) (by omega) (by omega) (by omega)).mono ?_; rintro e w1 ⟨rfl, rfl⟩))
  go_wp2
  rw [rounds_succ]
  go_wp2
  go_region_held3 (fun w' => w'.cell? ⟨k, 0, none⟩ = some (.func (.func 64) #[] #[]) ∧ w'.cell? ⟨w.heap.size, 2, none⟩ = some (.int .i64 a2) ∧ w'.cell? ⟨w.heap.size + 1, 2, none⟩ = some (.int .i64 b2)) (simp [go_sem, World.cell?_alloc_lt, *])
    (first | (go_at_call 64; refine (min1_any _ _ _ (by omega) (by omega) (by omega) (by omega)).mono ?_; rintro e w1 ⟨rfl, rfl⟩))
  go_wp2
  rw [rounds_succ]
  go_wp2
  go_region_held3 (fun w' => w'.cell? ⟨k, 0, none⟩ = some (.func (.func 64) #[] #[]) ∧ w'.cell? ⟨w.heap.size, 3, none⟩ = some (.int .i64 a3) ∧ w'.cell? ⟨w.heap.size + 1, 3, none⟩ = some (.int .i64 b3)) (simp [go_sem, World.cell?_alloc_lt, *])
    (first | (go_at_call 64; refine (min1_any _ _ _ (by omega) (by omega) (by omega) (by omega)).mono ?_; rintro e w1 ⟨rfl, rfl⟩))
  go_wp2
  rw [rounds_succ]
  go_wp2
  refine bodyPost_ret (v := .agg #[.int .i64 (minZ a0 b0), .int .i64 (minZ a1 b1), .int .i64 (minZ a2 b2), .int .i64 (minZ a3 b3)]) (by simp [results, Try.results61, go_sem]) rfl ⟨rfl, ?_⟩
  repeat (first | exact Ext.refl _ | apply Ext.drew | apply Ext.drewN | apply Ext.alloc)

set_option maxHeartbeats 400000 in
theorem pw_maxZ (w : World) :
    Calls Try.prog 55 #[.func (.func 62) #[] #[]] w fun e w' => e = .returned (.func (.func 61) #[] #[.pointer (some ⟨w.heap.size, 0, none⟩)]) ∧ w.alloc (.cells #[.func (.func 62) #[] #[]] 101) = w' := by
  go_enter Try.func55, Try.ntmps55
  go_wp2
  go_ret
  exact ⟨rfl, rfl⟩

set_option maxHeartbeats 800000 in
theorem each_maxZ ( a0 a1 a2 a3 b0 b1 b2 b3 : Int)  (ha0 : -9223372036854775808 ≤ a0 ∧ a0 ≤ 9223372036854775807) (hb0 : -9223372036854775808 ≤ b0 ∧ b0 ≤ 9223372036854775807) (ha1 : -9223372036854775808 ≤ a1 ∧ a1 ≤ 9223372036854775807) (hb1 : -9223372036854775808 ≤ b1 ∧ b1 ≤ 9223372036854775807) (ha2 : -9223372036854775808 ≤ a2 ∧ a2 ≤ 9223372036854775807) (hb2 : -9223372036854775808 ≤ b2 ∧ b2 ≤ 9223372036854775807) (ha3 : -9223372036854775808 ≤ a3 ∧ a3 ≤ 9223372036854775807) (hb3 : -9223372036854775808 ≤ b3 ∧ b3 ≤ 9223372036854775807) (k : Nat) (w : World) (hc : w.cell? ⟨k, 0, none⟩ = some (.func (.func 62) #[] #[])) :
    Calls Try.prog 61 #[.agg #[.int .i64 a0, .int .i64 a1, .int .i64 a2, .int .i64 a3], .agg #[.int .i64 b0, .int .i64 b1, .int .i64 b2, .int .i64 b3], .pointer (some ⟨k, 0, none⟩)] w
      fun e w' => e = .returned (.agg #[.int .i64 (maxZ a0 b0), .int .i64 (maxZ a1 b1), .int .i64 (maxZ a2 b2), .int .i64 (maxZ a3 b3)]) ∧ Ext w w' := by
  have hk := cell_lt hc
  have e1 : w.heap.size ≠ k := by omega
  have e2 : w.heap.size + 1 ≠ k := by omega
  have e3 : w.heap.size + 1 + 1 ≠ k := by omega
  have e7 : k < w.heap.size + 1 := by omega
  have e8 : k < w.heap.size + 1 + 1 := by omega
  have hsd : ∀ (u : World) (n : Nat) (p : Addr) (v : Value), (u.drewN n).setCell p v = (u.setCell p v).drewN n := fun _ _ _ _ => rfl
  go_enter Try.func61, Try.ntmps61
  go_wp2
  refine wp_loop_rounds 5 ?_
  rw [rounds_succ]
  go_wp2
  go_region_held3 (fun w' => w'.cell? ⟨k, 0, none⟩ = some (.func (.func 62) #[] #[]) ∧ w'.cell? ⟨w.heap.size, 0, none⟩ = some (.int .i64 a0) ∧ w'.cell? ⟨w.heap.size + 1, 0, none⟩ = some (.int .i64 b0)) (simp [go_sem, World.cell?_alloc_lt, *])
    (first | (go_at_call 62; refine (max1_any _ _ _ (by omega) (by omega) (by omega) (by omega)).mono ?_; rintro e w1 ⟨rfl, rfl⟩))
  go_wp2
  rw [rounds_succ]
  go_wp2
  go_region_held3 (fun w' => w'.cell? ⟨k, 0, none⟩ = some (.func (.func 62) #[] #[]) ∧ w'.cell? ⟨w.heap.size, 1, none⟩ = some (.int .i64 a1) ∧ w'.cell? ⟨w.heap.size + 1, 1, none⟩ = some (.int .i64 b1)) (simp [go_sem, World.cell?_alloc_lt, *])
    (first | (go_at_call 62; refine (max1_any _ _ _ (by omega) (by omega) (by omega) (by omega)).mono ?_; rintro e w1 ⟨rfl, rfl⟩))
  go_wp2
  rw [rounds_succ]
  go_wp2
  go_region_held3 (fun w' => w'.cell? ⟨k, 0, none⟩ = some (.func (.func 62) #[] #[]) ∧ w'.cell? ⟨w.heap.size, 2, none⟩ = some (.int .i64 a2) ∧ w'.cell? ⟨w.heap.size + 1, 2, none⟩ = some (.int .i64 b2)) (simp [go_sem, World.cell?_alloc_lt, *])
    (first | (go_at_call 62; refine (max1_any _ _ _ (by omega) (by omega) (by omega) (by omega)).mono ?_; rintro e w1 ⟨rfl, rfl⟩))
  go_wp2
  rw [rounds_succ]
  go_wp2
  go_region_held3 (fun w' => w'.cell? ⟨k, 0, none⟩ = some (.func (.func 62) #[] #[]) ∧ w'.cell? ⟨w.heap.size, 3, none⟩ = some (.int .i64 a3) ∧ w'.cell? ⟨w.heap.size + 1, 3, none⟩ = some (.int .i64 b3)) (simp [go_sem, World.cell?_alloc_lt, *])
    (first | (go_at_call 62; refine (max1_any _ _ _ (by omega) (by omega) (by omega) (by omega)).mono ?_; rintro e w1 ⟨rfl, rfl⟩))
  go_wp2
  rw [rounds_succ]
  go_wp2
  refine bodyPost_ret (v := .agg #[.int .i64 (maxZ a0 b0), .int .i64 (maxZ a1 b1), .int .i64 (maxZ a2 b2), .int .i64 (maxZ a3 b3)]) (by simp [results, Try.results61, go_sem]) rfl ⟨rfl, ?_⟩
  repeat (first | exact Ext.refl _ | apply Ext.drew | apply Ext.drewN | apply Ext.alloc)

set_option maxHeartbeats 400000 in
theorem vec_minZ ( a0 a1 a2 a3 b0 b1 b2 b3 : Int)  (ha0 : -9223372036854775808 ≤ a0 ∧ a0 ≤ 9223372036854775807) (hb0 : -9223372036854775808 ≤ b0 ∧ b0 ≤ 9223372036854775807) (ha1 : -9223372036854775808 ≤ a1 ∧ a1 ≤ 9223372036854775807) (hb1 : -9223372036854775808 ≤ b1 ∧ b1 ≤ 9223372036854775807) (ha2 : -9223372036854775808 ≤ a2 ∧ a2 ≤ 9223372036854775807) (hb2 : -9223372036854775808 ≤ b2 ∧ b2 ≤ 9223372036854775807) (ha3 : -9223372036854775808 ≤ a3 ∧ a3 ≤ 9223372036854775807) (hb3 : -9223372036854775808 ≤ b3 ∧ b3 ≤ 9223372036854775807) (w : World) :
    Calls Try.prog 60 #[.agg #[.int .i64 a0, .int .i64 a1, .int .i64 a2, .int .i64 a3], .agg #[.int .i64 b0, .int .i64 b1, .int .i64 b2, .int .i64 b3]] w
      fun e w' => e = .returned (.agg #[.int .i64 (minZ a0 b0), .int .i64 (minZ a1 b1), .int .i64 (minZ a2 b2), .int .i64 (minZ a3 b3)]) ∧ Ext w w' := by
  go_enter Try.func60, Try.ntmps60
  go_wp2_with fail
  with_reducible refine (pw_minZ _).mono ?_
  rintro e w1 ⟨rfl, rfl⟩
  go_wp2_with fail
  refine (each_minZ _ _ _ _ _ _ _ _ (by omega) (by omega) (by omega) (by omega) (by omega) (by omega) (by omega) (by omega) _ _ ?_).mono ?_
  · simp [go_sem]
  rintro e w1 ⟨rfl, hx⟩
  have hxc := hx.cells
  have hxf := hx.fr
  go_wp2
  refine bodyPost_ret (v := .agg #[.int .i64 (minZ a0 b0), .int .i64 (minZ a1 b1), .int .i64 (minZ a2 b2), .int .i64 (minZ a3 b3)]) (by simp [results, Try.results60, go_sem, hxc]) rfl ⟨rfl, ?_⟩
  repeat (refine Ext.setCell ?_ (by simp only; omega) _)
  refine Ext.trans ?_ hx
  repeat (first | exact Ext.refl _ | apply Ext.drew | apply Ext.drewN | apply Ext.alloc)

set_option maxHeartbeats 400000 in
theorem vec_maxZ ( a0 a1 a2 a3 b0 b1 b2 b3 : Int)  (ha0 : -9223372036854775808 ≤ a0 ∧ a0 ≤ 9223372036854775807) (hb0 : -9223372036854775808 ≤ b0 ∧ b0 ≤ 9223372036854775807) (ha1 : -9223372036854775808 ≤ a1 ∧ a1 ≤ 9223372036854775807) (hb1 : -9223372036854775808 ≤ b1 ∧ b1 ≤ 9223372036854775807) (ha2 : -9223372036854775808 ≤ a2 ∧ a2 ≤ 9223372036854775807) (hb2 : -9223372036854775808 ≤ b2 ∧ b2 ≤ 9223372036854775807) (ha3 : -9223372036854775808 ≤ a3 ∧ a3 ≤ 9223372036854775807) (hb3 : -9223372036854775808 ≤ b3 ∧ b3 ≤ 9223372036854775807) (w : World) :
    Calls Try.prog 58 #[.agg #[.int .i64 a0, .int .i64 a1, .int .i64 a2, .int .i64 a3], .agg #[.int .i64 b0, .int .i64 b1, .int .i64 b2, .int .i64 b3]] w
      fun e w' => e = .returned (.agg #[.int .i64 (maxZ a0 b0), .int .i64 (maxZ a1 b1), .int .i64 (maxZ a2 b2), .int .i64 (maxZ a3 b3)]) ∧ Ext w w' := by
  go_enter Try.func58, Try.ntmps58
  go_wp2_with fail
  with_reducible refine (pw_maxZ _).mono ?_
  rintro e w1 ⟨rfl, rfl⟩
  go_wp2_with fail
  refine (each_maxZ _ _ _ _ _ _ _ _ (by omega) (by omega) (by omega) (by omega) (by omega) (by omega) (by omega) (by omega) _ _ ?_).mono ?_
  · simp [go_sem]
  rintro e w1 ⟨rfl, hx⟩
  have hxc := hx.cells
  have hxf := hx.fr
  go_wp2
  refine bodyPost_ret (v := .agg #[.int .i64 (maxZ a0 b0), .int .i64 (maxZ a1 b1), .int .i64 (maxZ a2 b2), .int .i64 (maxZ a3 b3)]) (by simp [results, Try.results58, go_sem, hxc]) rfl ⟨rfl, ?_⟩
  repeat (refine Ext.setCell ?_ (by simp only; omega) _)
  refine Ext.trans ?_ hx
  repeat (first | exact Ext.refl _ | apply Ext.drew | apply Ext.drewN | apply Ext.alloc)

end Go.Proofs.Ytglehnmkdapnpaa

