/-
  DERIVED. Layer 9's law texts: Small's State, one of four ways.
-/
import Derived.Test.YtbbfmlehddfneaaPkTake
namespace Go.Proofs.Ytbbfmlehddfneaa
open Go.RowKit
set_option linter.unusedVariables false
set_option maxRecDepth 100000 in
set_option maxHeartbeats 4000000 in
theorem small9_D (dep ste ref msk fai hid pas ble cha cul : Int) (wr : Bool) (q0 q1 q2 q3 : Int) (h0 : 0 ≤ dep ∧ dep ≤ 255) (h1 : 0 ≤ ste ∧ ste ≤ 255) (h2 : 0 ≤ ref ∧ ref ≤ 255) (h3 : 0 ≤ msk ∧ msk ≤ 255) (h4 : 0 ≤ fai ∧ fai ≤ 255) (h5 : 0 ≤ hid ∧ hid ≤ 255) (h6 : 0 ≤ pas ∧ pas ≤ 255) (h7 : 0 ≤ ble ∧ ble ≤ 255) (h8 : 0 ≤ cha ∧ cha ≤ 255) (h9 : 0 ≤ cul ∧ cul ≤ 255) (k0 : 0 ≤ q0 ∧ q0 ≤ 255) (k1 : 0 ≤ q1 ∧ q1 ≤ 255) (k2 : 0 ≤ q2 ∧ q2 ≤ 255) (k3 : 0 ≤ q3 ∧ q3 ≤ 255) (hq : ¬ q0 % 3 = 0) (w : World) : Calls Try.prog 12 #[.agg (Sm9.v ⟨dep, ste, ref, msk, fai, hid, pas, ble, cha, cul, wr, true, q0, q1, q2, q3⟩)] w fun e w' => e = .returned (.agg (Sm9.st ⟨dep, ste, ref, msk, fai, hid, pas, ble, cha, cul, wr, true, q0, q1, q2, q3⟩).v) ∧ Ext w w' := by
  have e : Sm9.st ⟨dep, ste, ref, msk, fai, hid, pas, ble, cha, cul, wr, true, q0, q1, q2, q3⟩ = ⟨dep % 8, wr, 7, ref, msk, fai % 6, 0, 0, 0, 15, cul % 3, 0, 0, 64, 64⟩ := by simp [Sm9.st, hq]
  rw [e]
  go_enter Try.func12, Try.ntmps12
  go_wp2
  exact bodyPost_ret (v := .agg (Stt.v ⟨dep % 8, wr, 7, ref, msk, fai % 6, 0, 0, 0, 15, cul % 3, 0, 0, 64, 64⟩)) (results_blk (b := w.heap.size + 1) (t := 2) (ty := 57) rfl rfl ((Blk.new' (by simp) _ _).alloc _) Try.underlying57 rfl (by kernel_rfl)) rfl ⟨rfl, ((((Ext.refl w).alloc _ _).alloc _ _).alloc _ _)⟩
end Go.Proofs.Ytbbfmlehddfneaa

