/-
  DERIVED. THE WALKS of layer 4 (wire): Bytes of a Reader; nil Readers.
-/
import Derived.Test.YtgmjfmmandbekaaWireRdr4
import Derived.StillTailTactics
namespace Go.Proofs.Ytgmjfmmandbekaa
open Go.RowKit
set_option linter.unusedVariables false

theorem Step.of_ext {F : List Nat} {w w' : World} (hx : Ext w w') : Step F F w w' :=
  ⟨⟨hx.bel.os, hx.bel.tape, hx.bel.output, hx.size, fun b hb _ => hx.block hb⟩, fun b hm => .inl hm⟩
set_option maxHeartbeats 2000000 in
set_option maxRecDepth 100000 in
theorem rd_bytes (n : Nat) (w : World) (base p : Nat) (l : List Int) (k : Nat) (F : List Nat) (h : Rdr w base p l k 0 F) (hn : k + n ≤ l.length) :
    Calls Try.prog 19 #[.pointer (some ⟨p, 0, none⟩), .int .i64 n] w fun e w' => ∃ v, e = .returned v ∧ Own w' w.heap.size v ((l.drop k).take n) ∧ Rdr w' base p l (k + n) 0 F ∧ Step F F w w' := by
  have hmost := h.most
  have hby := h.bytes
  have hlt := h.lt
  go_enter Try.func19, Try.ntmps19
  go_wp2_with fail
  refine (rd_err _ _ _ _ _ _ _ h).mono ?_
  rintro e w1 ⟨rfl, rfl⟩
  go_wp2_with fail
  refine (rd_left _ _ _ _ _ _ _ h).mono ?_
  rintro e w1 ⟨rfl, q1⟩
  rw [leftOf_zero]
  have h1 := h.qt q1
  have s1 : Step F F w w1 := Step.qt q1
  have z1 := s1.1.size
  clear h
  have h1' := h1
  obtain ⟨v, B, ho, hb, rfl, hne, hk⟩ := h1
  obtain ⟨ao, c', rfl, hnone, hadr⟩ := ho.slice
  have hcap := ho.cap
  have cB := B.cell
  have fB := B.frozen
  go_wp2
  obtain ⟨h2, s2⟩ := h1'.set 1 (.int .i64 ((k : Int) + n)) (k + n) 0 (by omega) (fun v => by simp)
  have o2 : Own (w1.setCell ⟨p, 1, none⟩ (.int .i64 ((k : Int) + n))) base (.slice ao l.length c') l := ho.kept (fun x hx => Below.heap_setCell _ _ _ _ (hne x hx))
  have cB2 := (B.set 1 (.int .i64 ((k : Int) + n))).cell
  have hi1 : IntKind.i64.wrap ((k : Int) + n - n) = k := by rw [IntWalk.i64_in _ (by omega)]; omega
  have hi2 : IntKind.i64.wrap (k : Int) = k := IntWalk.i64_in _ (by omega)
  have hb2 : (k : Int) ≤ (k : Int) + n := by omega
  have hb3 : (k : Int) + n ≤ c' := by omega
  have hb4 : ((k : Int) + n).toNat = k + n := by omega
  have z2 := s2.1.size
  generalize w1.setCell ⟨p, 1, none⟩ (.int .i64 ((k : Int) + n)) = w2 at *
  cases ao with
  | none =>
    obtain ⟨rfl, rfl⟩ := hnone rfl
    obtain rfl : k = 0 := by simp at hn; omega
    obtain rfl : n = 0 := by simp at hn; omega
    have hA : Arr w2 .u8 (.slice none 0 0) [] := o2.arr hby
    have hi0 : IntKind.i64.wrap 0 = 0 := by decide
    go_still_tail 15, (by kernel_rfl)
    change wpList _ _ _ _ _ w2.drew
    have x2 : Ext w2 w2.drew := (Ext.refl _).drew
    go_wp2_with fail
    refine (clone_any _ _ _ (hA.ext x2) (by simp)).mono ?_
    rintro e w3 ⟨v3, rfl, o3, x3⟩
    have h3 := h2.ext (x2.trans x3)
    have s3 : Step _ _ w w3 := (s1.trans s2).trans (Step.of_ext (x2.trans x3))
    have z3 : w.heap.size ≤ w2.drew.heap.size := Nat.le_trans z1 (Nat.le_trans z2 x2.size)
    go_wp2
    go_ret
    exact ⟨v3, rfl, o3.mono z3, h3, s3⟩
  | some a =>
    obtain ⟨g, rfl⟩ : ∃ g, a = ⟨g, 0, none⟩ := ⟨a.block, hadr a rfl⟩
    clear hadr hnone
    have hA : Arr w2 .u8 (.slice (if c' = k then some ⟨g, 0, none⟩ else some ⟨g, k, none⟩) n (c' - k)) ((l.drop k).take n) := by
      by_cases hkc : c' = k
      · have hn0 : n = 0 := by omega
        subst hn0
        rw [if_pos hkc]
        exact ⟨⟨_, _, rfl, Nat.zero_le _, fun h => absurd rfl h, fun h => by cases h⟩, Nat.zero_le _, fun n hn => by cases hn⟩
      · rw [if_neg hkc]
        exact o2.sub hby k n hn
    obtain ⟨ax, hax⟩ : ∃ ax : Option Addr, (if c' = k then some (⟨g, 0, none⟩ : Addr) else some ⟨g, k, none⟩) = ax := ⟨_, rfl⟩
    rw [hax] at hA
    have HX := Lib.hid hax
    clear hax
    go_still_tail 15, (by kernel_rfl)
    rw [HX.out]
    change wpList _ _ _ _ _ w2.drew
    have x2 : Ext w2 w2.drew := (Ext.refl _).drew
    go_wp2_with fail
    refine (clone_any _ _ _ (hA.ext x2) (by simp; omega)).mono ?_
    rintro e w3 ⟨v3, rfl, o3, x3⟩
    have h3 := h2.ext (x2.trans x3)
    have s3 : Step _ _ w w3 := (s1.trans s2).trans (Step.of_ext (x2.trans x3))
    have z3 : w.heap.size ≤ w2.drew.heap.size := Nat.le_trans z1 (Nat.le_trans z2 x2.size)
    go_wp2
    go_ret
    exact ⟨v3, rfl, o3.mono z3, h3, s3⟩
end Go.Proofs.Ytgmjfmmandbekaa
