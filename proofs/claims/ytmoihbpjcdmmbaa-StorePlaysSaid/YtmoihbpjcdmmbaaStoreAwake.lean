/-
  DERIVED. Layer 6 (store): Awake.
-/
import Derived.Test.YtmoihbpjcdmmbaaStorePut
namespace Go.Proofs.Ytmoihbpjcdmmbaa
open Go.RowKit Go.Maps
set_option linter.unusedVariables false

def D0 (room : Nat) : DSt := ⟨[], [], fun _ => none, fun _ => none, 0, room, 0, 0, 0, 0⟩
theorem new_none (w : World) (room : Int) (hr : -9223372036854775808 ≤ room ∧ room ≤ 9223372036854775807) :
    Calls Try.prog 8 #[.int .i64 room, .agg #[.slice none 0 0, .slice none 0 0, .map none]] w fun e w' => ∃ bd F R, e = .returned (.pointer (some ⟨bd, 0, none⟩)) ∧ Dev w' F R bd (D0 (min (max room 0) 4096).toNat) ∧ Ext w w' ∧ (∀ k ∈ F, w.heap.size ≤ k) ∧ ∀ k ∈ R, w.heap.size ≤ k :=
  new_any w room hr _ [] [] _ (PlanIs.none w)
@[irreducible] def zs64 : List Int := List.replicate 64 0
theorem zs64_length : zs64.length = 64 := by unfold zs64; simp
theorem zeros_arr {w : World} {g : Nat} (h : Own w 0 (.slice (some ⟨g, 0, none⟩) 64 64) zs64) : Arr w .u8 (.slice (some ⟨g, 0, none⟩) 64 64) zs64 := h.arr (fun y hy => by
  unfold zs64 at hy
  have := List.eq_of_mem_replicate hy
  omega)
theorem Ext.obj {a w : World} (h : Ext a w) (o : Obj) : Ext a (w.alloc o) := ⟨h.bel.alloc h.size _⟩
theorem make64 : ∃ Z : Obj, (∀ w, (Instr.makeSlice 22 (.int .i64 64) (.int .i64 64)).run Try.prog w = .ok (.slice (some ⟨w.heap.size, 0, none⟩) 64 64) (w.alloc Z)) ∧ ∀ w : World, Own (w.alloc Z) 0 (.slice (some ⟨w.heap.size, 0, none⟩) 64 64) zs64 := by
  refine ⟨.cells (madeCells #[.int .u8 0] 64) 5, fun w => make_bytes 64 64 (by omega) (by omega) w, fun w => ?_⟩
  unfold zs64
  exact (own_zeros w 64 (by omega)).mono (Nat.zero_le _)

set_option maxRecDepth 100000 in
set_option maxHeartbeats 4000000 in
theorem awake6_any (w : World) :
    Calls Try.prog 7 #[] w fun e w' => e = .returned (.bool true) ∧ Ext w w' := by
  obtain ⟨Z, hmk, hZ⟩ := make64
  have HZ := Lib.hid hZ
  clear hZ
  go_enter Try.func7, Try.ntmps7
  go_upto_region 1 with fail
  go_cut [1, 2] (fun a b wx => a = .int .i64 0 ∧ b = .int .i64 8 ∧ Ext w wx)
  case first =>
    go_wp2
    have z0 : w.drew.heap.size = w.heap.size := rfl
    go_region_with (first
      | (go_at_call 8; refine (new_none _ 0 (by omega)).mono ?_; rintro e w3 ⟨bd, F, R, rfl, D3, x3, hF3, hR3⟩; have hF4 : ∀ k ∈ F, w.heap.size ≤ k := fun k hk => by have := hF3 k hk; simp at this; omega)
      | (go_at_call_of 10 (Value.slice (some ⟨w3.heap.size, 0, none⟩) 64 64); refine (dev_Put_full _ F R bd _ (D3.ext ((Ext.refl w3).obj _)) _ zs64 (zeros_arr (HZ.out w3)) zs64_length (by decide) (by decide)).mono ?_; rintro e w4 ⟨rfl, D4, K4⟩; have E4 : Ext w w4 := Ext.calm_trans (((Ext.refl w).drew.trans x3).obj _) K4 hF4)
      | (go_at_call_of 10 (Value.slice (some ⟨w.heap.size, 0, none⟩) 64 64); refine (dev_Put_full _ F R bd _ D3 _ zs64 (zeros_arr (Own.ext (by exact HZ.out w) x3)) zs64_length (by decide) (by decide)).mono ?_; rintro e w4 ⟨rfl, D4, K4⟩; have E4 : Ext w w4 := Ext.calm_trans (((Ext.refl w).drew.obj _).trans x3) K4 hF4))
    all_goals
      go_wp2
      go_meet
      exact ⟨rfl, rfl, E4⟩
  obtain ⟨rfl, rfl, e1⟩ := hcut
  go_upto_region 2 with fail
  go_cut [3, 4] (fun a b wx => a = .int .i64 1 ∧ b = .int .i64 0 ∧ Ext w wx)
  case first =>
    have z0 : wc.drew.heap.size = wc.heap.size := rfl
    have z1 := e1.size
    go_wp2
    go_region_with (first
      | (go_at_call 8; refine (new_none _ 1 (by omega)).mono ?_; rintro e w3 ⟨bd, F, R, rfl, D3, x3, hF3, hR3⟩; have hF4 : ∀ k ∈ F, w.heap.size ≤ k := fun k hk => by have := hF3 k hk; simp at this; omega)
      | (go_at_call_of 10 (Value.slice (some ⟨w3.heap.size, 0, none⟩) 64 64); refine (dev_Put _ F R bd _ (D3.ext ((Ext.refl w3).obj _)) _ zs64 (zeros_arr (HZ.out w3)) (fun w' hc => zeros_arr ((HZ.out w3).calm hc (fun k hk hin => by
            obtain rfl : w3.heap.size = k := Option.some.inj hk
            have := D3.lt.1 _ hin
            omega))) zs64_length (by decide) (by decide) (by decide) (by simp [D0]) rfl).mono ?_; rintro e w4 ⟨rfl, g, D4, K4⟩; have E4 : Ext w w4 := Step.ext ((e1.drew.trans x3).obj _) K4 hF4)
      | (go_at_call_of 10 (Value.slice (some ⟨wc.heap.size, 0, none⟩) 64 64); refine (dev_Put _ F R bd _ D3 _ zs64 (zeros_arr (Own.ext (by exact HZ.out wc) x3)) (fun w' hc => zeros_arr ((Own.ext (by exact HZ.out wc) x3).calm hc (fun k hk hin => by
            obtain rfl : wc.heap.size = k := Option.some.inj hk
            have := hF3 _ hin
            simp at this
            omega))) zs64_length (by decide) (by decide) (by decide) (by simp [D0]) rfl).mono ?_; rintro e w4 ⟨rfl, g, D4, K4⟩; have E4 : Ext w w4 := Step.ext ((e1.drew.obj _).trans x3) K4 hF4))
    all_goals
      go_wp2
      go_meet
      exact ⟨rfl, rfl, E4⟩
  obtain ⟨rfl, rfl, e2⟩ := hcut
  go_wp2
  go_ret
  exact ⟨rfl, e2⟩
end Go.Proofs.Ytmoihbpjcdmmbaa
