/-
  DERIVED. THE WALK of StateBack (made by mkstback.py).
-/
import Derived.Test.YtokekfjbliojhaaPkRegF
import Derived.Test.YtokekfjbliojhaaPkRegT
namespace Go.Proofs.Ytokekfjbliojhaa
open Go.RowKit
set_option linter.unusedVariables false
theorem Sm9.easy (q : Sm9) (h : q.ez = true) : q.st.late = true := by
  unfold Stt.late Sm9.st
  simp [h]
set_option maxRecDepth 100000 in
set_option maxHeartbeats 4000000 in
theorem stateBack_row {w : World} (q : Sm9) (hq : q.ok) :
    Calls Try.prog 4 #[.agg q.v] w fun e w' => e = .returned (.bool true) ∧ Ext w w' := by
  obtain ⟨hby, hck⟩ := Sm9.good hq
  have hea := Sm9.easy q
  have B0 := Blk.new w q.v 32
  have x0 := (Ext.refl w).alloc q.v 32
  have hz0 : w.heap.size < (w.alloc (.cells q.v 32)).heap.size := B0.lt
  go_enter Try.func4, Try.ntmps4
  go_wp2_with fail
  generalize w.alloc (.cells q.v 32) = w0 at *
  refine (awake9_any _).mono ?_
  rintro e w1 ⟨rfl, x1⟩
  have B1 := B0.ext x1
  have E1 := x0.trans x1
  clear B0 x0
  go_wp2_with (first | ((with_reducible refine wpList_load_blk (op := ⟨some 9, _, _, _, _, _⟩) ?_ 32 (.tmp 1) ?_ w.heap.size ?_ (z := q.v) (T := 32) B1 Try.underlying32 ?_ ?_ ?_); rfl; rfl; rfl; rfl; kernel_rfl) | fail)
  refine (small9_any q hq _).mono ?_
  rintro e w2 ⟨rfl, x2⟩
  generalize q.st = s at *
  have HCK := Lib.hid hck
  have HBY := Lib.hid hby
  have HEA := Lib.hid hea
  have HBD := Lib.hid (Stt.enc_bd hby (Stt.chk_box hck))
  have HBX := Lib.hid (Stt.chk_box hck)
  clear hck hby hea
  have B2 := B1.ext x2
  have E2 := E1.trans x2
  have C3 := (Blk.new w2 s.v 38).alloc (.cells #[.slice none 0 0] 43)
  have P3 := Pen.new (w := w2.alloc (.cells s.v 38)) (base := (w2.alloc (.cells s.v 38)).heap.size) (Nat.le_refl _)
  have z3 : (w2.alloc (.cells s.v 38)).heap.size = w2.heap.size + 1 := by simp
  rw [z3] at P3
  have B3 := (B2.alloc (.cells s.v 38)).alloc (.cells #[.slice none 0 0] 43)
  have E3 := (E2.alloc s.v 38).alloc #[.slice none 0 0] 43
  have hz2 := E2.size
  have hb2 := B2.lt
  have hw4 : ((w2.alloc (.cells s.v 38)).alloc (.cells #[.slice none 0 0] 43)).heap.size = w2.heap.size + 2 := by simp
  clear B1 E1 x1 x2
  go_upto_region 5 with fail
  generalize (w2.alloc (.cells s.v 38)).alloc (.cells #[.slice none 0 0] 43) = w4 at *
  go_wp2_with (first | ((with_reducible refine wpList_load_blk (op := ⟨some 13, _, _, _, _, _⟩) ?_ 38 (.tmp 3) ?_ w2.heap.size ?_ (z := s.v) (T := 38) C3 Try.underlying38 ?_ ?_ ?_); rfl; rfl; rfl; rfl; kernel_rfl) | fail)
  refine (sput_any s HBY.out HBX.out _ _ _ _ _ P3 (by simp) (by omega)).mono ?_
  rintro e w5 ⟨rfl, F5, P5, s5⟩
  rw [List.nil_append] at P5
  have C5 := C3.calm s5.1 (by simp)
  have B5 := B3.calm s5.1 (by simp only [List.mem_singleton]; omega)
  have E5 : Ext w w5 := s5.ext E3 (by simp only [List.mem_singleton, forall_eq]; omega)
  clear C3 B3 E3 P3 E2 B2 s5
  go_wp2_with fail
  refine (pen_bytes _ _ _ _ _ P5 HBD.out (by simp [Stt.enc])).mono ?_
  rintro e w6 ⟨v6, rfl, o6, x6⟩
  have A6 := o6.arr HBD.out
  obtain ⟨ao6, cc6, rfl, -, -⟩ := o6.slice
  go_wp2_with fail
  refine (rd_read _ _ _ A6 (by simp [Stt.enc])).mono ?_
  rintro e w7 ⟨pr, Fr, rfl, R7, x7⟩
  have x57 := x6.trans x7
  have hFr := fun b hb => (R7.lt b hb).1
  have hz6 := x6.size
  have hz5 := C5.lt
  have hz55 := B5.lt
  have C7 := C5.ext x57
  have B7 := B5.ext x57
  have P7 := P5.ext x57
  have E7 := E5.trans x57
  have n3 : w2.heap.size ∉ Fr := fun hb => by have := hFr _ hb; omega
  have n1 : w.heap.size ∉ Fr := fun hb => by have := hFr _ hb; omega
  have hF5 := fun b hb => (P5.lt b hb).2
  have nw : ∀ b ∈ F5, b ∉ Fr := fun b hb hr => by have h1 := hF5 b hb; have h2 := hFr b hr; omega
  have hFw : ∀ b ∈ Fr, w.heap.size ≤ b := fun b hb => by have := hFr b hb; omega
  clear C5 B5 P5 E5 x57 x6 x7 A6 o6
  go_upto_region 7 with fail
  refine stback_r7 _ _ _ _ _ _ _ _ _ _ _ _ _ _ _ _ _ _ _ _ _ _ _ _ _ _ _ _ _ _ _ _ _ _ _ _ _ _ _ _ _ _ _ _ _ _ _ _ _ _ _ _ _ _ _ _ _ _ _ _ _ _ _ _ _ _ _ _ _ _ _ _ _ _ w2.heap.size s w7 C7 (fun _ _ _ _ _ _ _ _ _ _ _ _ _ _ _ _ _ _ _ _ _ _ _ b hb => ?_)
  subst hb
  go_upto_region 8 with fail
  cases hez : q.ez
  · refine stback_r8f _ _ _ _ _ _ _ _ _ _ _ _ _ _ _ _ _ _ _ _ _ _ _ _ _ _ _ _ _ _ _ _ _ _ _ _ _ _ _ _ _ _ _ _ _ _ _ _ _ _ _ _ _ _ _ _ _ _ _ _ _ _ _ _ _ _ _ _ _ _ w.heap.size w2.heap.size (w2.heap.size + 1) pr _ _ q.v (by rw [← hez]; rfl) s HBY.out HCK.out F5 Fr w7 B7 C7 P7 R7 n1 n3 nw (fun _ _ _ _ _ _ _ _ _ _ _ _ _ _ _ _ _ _ _ _ _ _ _ _ _ _ _ _ _ _ _ _ _ w9 k9 => ?_)
    have E9 : Ext w w9 := Ext.calm_trans E7 k9 hFw
    go_wp2
    go_ret
    exact ⟨rfl, E9⟩
  · refine stback_r8t _ _ _ _ _ _ _ _ _ _ _ _ _ _ _ _ _ _ _ _ _ _ _ _ _ _ _ _ _ _ _ _ _ _ _ _ _ _ _ _ _ _ _ _ _ _ _ _ _ _ _ _ _ _ _ _ _ _ _ _ _ _ _ _ _ _ _ _ _ _ w.heap.size w2.heap.size (w2.heap.size + 1) pr _ _ q.v (by rw [← hez]; rfl) s HBY.out HCK.out (HEA.out hez) F5 Fr w7 B7 C7 P7 R7 n1 n3 nw (fun _ _ _ _ _ _ _ _ _ _ _ _ _ _ _ _ _ _ _ _ _ _ _ _ _ _ _ _ _ _ _ _ _ w9 k9 => ?_)
    have E9 : Ext w w9 := Ext.calm_trans E7 k9 hFw
    go_wp2
    go_ret
    exact ⟨rfl, E9⟩
end Go.Proofs.Ytokekfjbliojhaa

