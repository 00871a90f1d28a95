/-
  DERIVED. Layer 12: Awake (made by mkcliplaws.py).
-/
import Derived.Test.YtjohcngmoemmbaaClipAll
import Derived.Test.YtjohcngmoemmbaaClipLawAid
import Derived.Test.YtjohcngmoemmbaaClipEqs
namespace Go.Proofs.Ytjohcngmoemmbaa
open Go.RowKit
set_option linter.unusedVariables false
theorem awake_l : gend (gplanes [⟨0, 0, 0, 65536, 0, 0, 0, 0⟩, ⟨9, 0, 0, 65536, 0, 0, 0, 0⟩, ⟨0, 9, 0, 65536, 0, 0, 0, 0⟩] 7) = [⟨0, 0, 0, 65536, 0, 0, 0, 0⟩, ⟨9, 0, 0, 65536, 0, 0, 0, 0⟩, ⟨0, 9, 0, 65536, 0, 0, 0, 0⟩] := by decide +kernel
set_option maxRecDepth 100000 in
set_option maxHeartbeats 4000000 in
theorem awk1 (x y : Int) (w : World) : Calls Try.prog 18 #[.int .i64 x, .int .i64 y] w fun e w' => e = .returned (.agg #[.int .i64 x, .int .i64 y, .int .i64 0, .int .i64 65536, .int .i64 0, .int .i64 0, .int .i64 0, .int .i64 0]) ∧ Ext w w' := by
  have Bf := (Blk.new w #[.int .i64 0, .int .i64 0, .int .i64 0, .int .i64 0, .int .i64 0, .int .i64 0, .int .i64 0, .int .i64 0] 32).setRow #[.int .i64 x, .int .i64 y, .int .i64 0, .int .i64 65536, .int .i64 0, .int .i64 0, .int .i64 0, .int .i64 0]
  have Ef : Ext w ((w.alloc (.cells #[.int .i64 0, .int .i64 0, .int .i64 0, .int .i64 0, .int .i64 0, .int .i64 0, .int .i64 0, .int .i64 0] 32)).setRow w.heap.size #[.int .i64 x, .int .i64 y, .int .i64 0, .int .i64 65536, .int .i64 0, .int .i64 0, .int .i64 0, .int .i64 0]) := ((Ext.refl w).alloc _ _).setRow (Nat.le_refl _) _
  go_enter Try.func18, Try.ntmps18
  go_wp2_with (first
    | ((with_reducible refine wpList_store_blk (op := ⟨none, .store 32 (.tmp 4) (.tmp 8), _, _, _, _⟩) ?_ 32 (.tmp 4) (.tmp 8) ?_ (w.heap.size) ?_ (cs := #[.int .i64 x, .int .i64 y, .int .i64 0, .int .i64 65536, .int .i64 0, .int .i64 0, .int .i64 0, .int .i64 0]) ?_ (z := #[.int .i64 0, .int .i64 0, .int .i64 0, .int .i64 0, .int .i64 0, .int .i64 0, .int .i64 0, .int .i64 0]) (T := 32) ?_ ?_ ?_ ?_ ?_); rfl; rfl; rfl; rfl; exact Blk.new w _ _; kernel_rfl; kernel_rfl; kernel_rfl)
    | fail)
  exact bodyPost_ret (v := .agg #[.int .i64 x, .int .i64 y, .int .i64 0, .int .i64 65536, .int .i64 0, .int .i64 0, .int .i64 0, .int .i64 0]) (results_blk (b := w.heap.size) (t := 4) (ty := 32) rfl rfl Bf Try.underlying32 rfl (by kernel_rfl)) rfl ⟨rfl, Ef⟩
set_option maxRecDepth 100000 in
set_option maxHeartbeats 4000000 in
theorem awake12_any (w : World) : Calls Try.prog 8 #[] w fun e w' => e = .returned (.bool true) ∧ Ext w w' := by
  have hC := fun u => clip_any ⟨0, 0, 0, 65536, 0, 0, 0, 0⟩ ⟨9, 0, 0, 65536, 0, 0, 0, 0⟩ ⟨0, 9, 0, 65536, 0, 0, 0, 0⟩ (by unfold V8.in64 I64; decide) (by unfold V8.in64 I64; decide) (by unfold V8.in64 I64; decide) u
  rw [awake_l] at hC
  have HC := Lib.hid hC
  clear hC
  go_enter Try.func8, Try.ntmps8
  go_wp2_with fail
  refine (awk1 0 0 _).mono ?_
  rintro e w1 ⟨rfl, x1⟩
  go_wp2_with fail
  refine (awk1 9 0 _).mono ?_
  rintro e w2 ⟨rfl, x2⟩
  go_wp2_with fail
  refine (awk1 0 9 _).mono ?_
  rintro e w3 ⟨rfl, x3⟩
  go_wp2_with fail
  refine (HC.out _).mono ?_
  rintro e w4 ⟨r, rfl, o, x4⟩
  obtain ⟨ao, c, rfl, -, -⟩ := o.slice
  obtain ⟨g, x, rfl, -, hx, cx⟩ := o.nth 1 (by simp)
  simp only [List.getElem?_cons_succ, List.getElem?_cons_zero, Option.some.injEq] at hx
  subst hx
  have x14 := ((x1.trans x2).trans x3).trans x4
  have hlen : (List.length [(⟨0, 0, 0, 65536, 0, 0, 0, 0⟩ : V8), ⟨9, 0, 0, 65536, 0, 0, 0, 0⟩, ⟨0, 9, 0, 65536, 0, 0, 0, 0⟩]) = 3 := rfl
  rw [hlen]
  have a0 : w4.cell? ⟨g, 8, none⟩ = some (.int .i64 9) := cx 0 _ rfl
  have a1 : w4.cell? ⟨g, 9, none⟩ = some (.int .i64 0) := cx 1 _ rfl
  have a2 : w4.cell? ⟨g, 10, none⟩ = some (.int .i64 0) := cx 2 _ rfl
  have a3 : w4.cell? ⟨g, 11, none⟩ = some (.int .i64 65536) := cx 3 _ rfl
  have a4 : w4.cell? ⟨g, 12, none⟩ = some (.int .i64 0) := cx 4 _ rfl
  have a5 : w4.cell? ⟨g, 13, none⟩ = some (.int .i64 0) := cx 5 _ rfl
  have a6 : w4.cell? ⟨g, 14, none⟩ = some (.int .i64 0) := cx 6 _ rfl
  have a7 : w4.cell? ⟨g, 15, none⟩ = some (.int .i64 0) := cx 7 _ rfl
  clear x1 x2 x3 x4 o cx HC hlen
  have hE := eqCV
  go_upto_region 3 with fail
  apply wp_region_reads2 _ (by kernel_rfl) (by kernel_rfl)
  case H =>
    intro y0 hy0
    have hne : Nonempty (Wx y0) := ⟨⟨y0, Ext.refl y0⟩⟩
    have q0 := fun (t : Wx y0) => (hy0.trans t.ext).old a0
    have q1 := fun (t : Wx y0) => (hy0.trans t.ext).old a1
    have q2 := fun (t : Wx y0) => (hy0.trans t.ext).old a2
    have q3 := fun (t : Wx y0) => (hy0.trans t.ext).old a3
    have q4 := fun (t : Wx y0) => (hy0.trans t.ext).old a4
    have q5 := fun (t : Wx y0) => (hy0.trans t.ext).old a5
    have q6 := fun (t : Wx y0) => (hy0.trans t.ext).old a6
    have q7 := fun (t : Wx y0) => (hy0.trans t.ext).old a7
    repeat (go_big_quiet_step ((go_at_call 18; with_reducible exact calm_of (awk1 _ _ _))))
    exact wpQuiet_nil rfl
  intro w5 x5
  have x15 := x14.trans x5
  go_wp2
  go_ret
  exact ⟨rfl, x15⟩
end Go.Proofs.Ytjohcngmoemmbaa
