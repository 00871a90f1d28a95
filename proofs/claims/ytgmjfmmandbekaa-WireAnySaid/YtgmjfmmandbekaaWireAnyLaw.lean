/-
  DERIVED. The walk of the law WireAny: it returns true, whatever the bytes.
-/
import Derived.Test.YtgmjfmmandbekaaWireAnyParts
import Derived.Deep.LoopGhost
import Derived.Deep.CutBlock
import Derived.Deep.DeepCutAuto
namespace Go.Proofs.Ytgmjfmmandbekaa
open Go.RowKit
set_option linter.unusedVariables false

/-- a read of a number: it is one, and its bytes stood there; or it is none, there is an error, and an error stays -/
theorem rdAt_any {err : Int} {b : List Int} (hb : ∀ y ∈ b, 0 ≤ y ∧ y ≤ 255) {m j : Nat} {e : Int} (h : rdAt err b = (m, j, e)) :
    j ≤ b.length ∧ m < 18446744073709551616 ∧ ((e = 0 ∧ err = 0 ∧ b.take j = leb m ∧ 0 < j) ∨ (e ≠ 0 ∧ m = 0 ∧ (err ≠ 0 → e = err))) := by
  unfold rdAt at h
  split at h
  · rename_i h0
    have hj : j ≤ b.length := by have := rdNum_le b; rw [h] at this; exact this
    rcases rdNum_ok hb h with ⟨h1, h2, h3, h4⟩ | ⟨h1, h2⟩
    · exact ⟨hj, h2, .inl ⟨h1, h0, h3, by rw [h4]; exact leb_pos m⟩⟩
    · exact ⟨hj, by omega, .inr ⟨by omega, h1, fun h => absurd h0 h⟩⟩
  · rename_i h0
    cases h
    exact ⟨Nat.zero_le _, by omega, .inr ⟨h0, rfl, fun _ => rfl⟩⟩
set_option maxRecDepth 100000 in
set_option maxHeartbeats 8000000 in
theorem wireAny_late (w : World) (v0 : Value) (xs : List Int) (v1 : Value) (ks : List Int) (most : Int) (h0 : Arr w .u8 v0 xs) (h1 : Arr w .u8 v1 ks) (hmost : -9223372036854775808 ≤ most ∧ most ≤ 9223372036854775807) (k0 : xs.length ≤ 100) (k1 : ks.length ≤ 60) :
    Calls Try.prog 4 #[v0, v1, .int .i64 most] w fun e w' => e = .returned (.bool true) ∧ Ext w w' := by
  have A0 := h0
  obtain ⟨⟨a0, c0, rfl, hc0, hs0, hn0⟩, hm0, hw0⟩ := h0
  obtain ⟨⟨a1, c1, rfl, hc1, hs1, hn1⟩, hm1, hw1⟩ := h1
  unfold maxLen at hm0 hm1
  have d0 : decide (100 < (xs.length : Int)) = false := by rw [decide_eq_false_iff_not]; omega
  have d1 : decide (60 < (ks.length : Int)) = false := by rw [decide_eq_false_iff_not]; omega
  have hbx : ∀ y ∈ xs, 0 ≤ y ∧ y ≤ 255 := A0.bd
  go_enter Try.func4, Try.ntmps4
  go_wp2_with fail
  with_reducible refine (awake4_any _).mono ?_
  rintro e w1 ⟨rfl, x1⟩
  go_wp2_with fail
  refine (rd_read _ _ _ (A0.ext x1) (by omega)).mono ?_
  rintro e w2 ⟨pr, Fr, rfl, R2, x2⟩
  have y2 := x1.trans x2
  have R2' := R2.mono x1.size
  go_wp2
  go_loopg [29] ks.length (fun k iv wr => ∃ (i K : Nat) (err : Int), i + k = ks.length ∧ iv = .int .i64 i ∧ Rdr wr w.heap.size pr xs K err Fr ∧ Ext w wr)
  case atStart => exact ⟨0, 0, 0, by omega, rfl, R2', y2⟩
  case round =>
    obtain ⟨i, K, err, hik, rfl, hR, hx⟩ := hrel
    by_cases hi : i < ks.length
    · obtain ⟨b1, off1, rfl, hcell⟩ := hs1 (by intro h; rw [h] at hi; simp at hi)
      have hc := hx.old (hcell i hi)
      have hmem : ks.getD i 0 ∈ ks := by simp [List.getD, hi]
      have hkb := bounds_u8 (hw1 _ hmem)
      generalize ks.getD i 0 = kd at *
      clear hcell hs1
      have hmK := hR.most
      have zx := hx.size
      go_wp2_with fail
      refine (rd_at _ _ _ _ _ _ _ hR).mono ?_
      rintro e w3 ⟨rfl, rfl⟩
      go_wp2_with fail
      refine (rd_err _ _ _ _ _ _ _ hR).mono ?_
      rintro e w3 ⟨rfl, rfl⟩
      go_upto_block 2 with fail
      generalize wr = w3 at *
      go_cut [13, 40] (fun nv qv wx => ∃ (n : Int) (K' : Nat) (e' : Int) (pl : List Int) (F : List Nat), nv = .int .i64 n ∧ Rdr wx w.heap.size pr xs K' e' Fr ∧ Pen wx w3.heap.size w3.heap.size pl F ∧ Ext w wx ∧ ((e' = 0 ∧ ∃ j, 0 < j ∧ K' = K + j ∧ pl = (xs.drop K).take j) ∨ (e' ≠ 0 ∧ n = 0 ∧ (err ≠ 0 → e' = err))))
      case first =>
        have xa : Ext w3 (w3.alloc (.cells #[.slice none 0 0] 28)) := (Ext.refl w3).alloc _ _
        have x3 := hx.trans xa
        have R3 := hR.ext xa
        have P3 := Pen.new (w := w3) (base := w3.heap.size) (Nat.le_refl _)
        have hk4 : kd % 4 = 0 ∨ kd % 4 = 1 ∨ kd % 4 = 2 ∨ kd % 4 = 3 := by omega
        rcases hk4 with hk4 | hk4 | hk4 | hk4
        · obtain ⟨m, j, e, hrd⟩ : ∃ m j e, rdAt err (xs.drop K) = (m, j, e) := ⟨_, _, _, rfl⟩
          obtain ⟨hj, hm64, hcase⟩ := rdAt_any (fun y hy => hbx y (List.mem_of_mem_drop hy)) hrd
          have hub := unzig_bd hm64
          have HC := Lib.hid hcase
          clear hcase
          go_wp2_with fail
          refine (rd_int _ _ _ _ _ _ _ R3 m j e hrd).mono ?_
          rintro e1 w4 ⟨rfl, R4, s4⟩
          have P4 := P3.kept s4.1 (fun b hb hm => by have := (hR.lt b hm).2; simp at hb; omega)
          have x4 : Ext w w4 := Step.ext x3 s4 (fun b hb => (hR.lt b hb).1)
          have z4 : w3.heap.size ≤ w4.heap.size := Nat.le_trans xa.size s4.1.size
          go_wp2_with fail
          refine (pen_int (unzig m) hub _ _ _ _ _ P4 (by simp) z4).mono ?_
          rintro e1 w5 ⟨rfl, F5, P5, s5⟩
          rw [List.nil_append, zig_unzig] at P5
          have R5 := R4.kept s5.1 (fun b hb hm => by have := (hR.lt b hb).2; simp at hm; omega)
          have x5 : Ext w w5 := Step.ext x4 s5 (fun b hb => by simp at hb; omega)
          go_wp2
          go_meet
          exact ⟨unzig m, K + j, e, leb m, F5, rfl, R5, P5, x5, (by rcases HC.out with ⟨q1, q2, q3, q4⟩ | ⟨q1, q2, q3⟩; exact .inl ⟨q1, j, q4, rfl, q3.symm⟩; exact .inr ⟨q1, by rw [q2]; rfl, q3⟩)⟩
        · obtain ⟨m, j, e, hrd⟩ : ∃ m j e, rdAt err (xs.drop K) = (m, j, e) := ⟨_, _, _, rfl⟩
          obtain ⟨hj, hm64, hcase⟩ := rdAt_any (fun y hy => hbx y (List.mem_of_mem_drop hy)) hrd
          have hub := unzig_bd hm64
          have HC := Lib.hid hcase
          clear hcase
          obtain ⟨M, hmt, hmi, hn2⟩ : ∃ M : Nat, most.toNat = M ∧ (if most < 0 then 0 else most) = (M : Int) ∧ M < 9223372036854775808 := ⟨most.toNat, rfl, by split <;> omega, by omega⟩
          by_cases hle : m ≤ M
          · have dM : decide ((M : Int) < (m : Int)) = false := by simp; omega
            go_wp2_with fail
            refine (rd_count most hmost _ _ _ _ _ _ _ R3 m j e hrd (by omega)).mono ?_
            rintro e1 w4 ⟨rfl, R4, s4⟩
            have P4 := P3.kept s4.1 (fun b hb hm => by have := (hR.lt b hm).2; simp at hb; omega)
            have x4 : Ext w w4 := Step.ext x3 s4 (fun b hb => (hR.lt b hb).1)
            have z4 : w3.heap.size ≤ w4.heap.size := Nat.le_trans xa.size s4.1.size
            go_wp2_with fail
            refine (pen_count (m : Int) (by omega) _ _ _ _ _ P4 (by simp) z4).mono ?_
            rintro e1 w5 ⟨rfl, F5, P5, s5⟩
            rw [List.nil_append, Int.toNat_natCast] at P5
            have R5 := R4.kept s5.1 (fun b hb hm => by have := (hR.lt b hb).2; simp at hm; omega)
            have x5 : Ext w w5 := Step.ext x4 s5 (fun b hb => by simp at hb; omega)
            go_wp2
            go_meet
            exact ⟨m, K + j, e, leb m, F5, rfl, R5, P5, x5, (by rcases HC.out with ⟨q1, q2, q3, q4⟩ | ⟨q1, q2, q3⟩; exact .inl ⟨q1, j, q4, rfl, q3.symm⟩; exact .inr ⟨q1, by rw [q2]; rfl, q3⟩)⟩
          · have he0 : err = 0 := by
              rcases HC.out with ⟨q1, q2, q3, q4⟩ | ⟨q1, q2, q3⟩
              · exact q2
              · omega
            have HE0 := Lib.hid he0
            clear he0
            go_wp2_with fail
            refine (rd_count_many most hmost _ _ _ _ _ _ _ R3 m j e hrd (by omega)).mono ?_
            rintro e1 w4 ⟨rfl, R4, s4⟩
            have P4 := P3.kept s4.1 (fun b hb hm => by have := (hR.lt b hm).2; simp at hb; omega)
            have x4 : Ext w w4 := Step.ext x3 s4 (fun b hb => (hR.lt b hb).1)
            have z4 : w3.heap.size ≤ w4.heap.size := Nat.le_trans xa.size s4.1.size
            go_wp2_with fail
            refine (pen_count 0 (by omega) _ _ _ _ _ P4 (by simp) z4).mono ?_
            rintro e1 w5 ⟨rfl, F5, P5, s5⟩
            rw [List.nil_append] at P5
            have R5 := R4.kept s5.1 (fun b hb hm => by have := (hR.lt b hb).2; simp at hm; omega)
            have x5 : Ext w w5 := Step.ext x4 s5 (fun b hb => by simp at hb; omega)
            go_wp2
            go_meet
            exact ⟨0, K + j, 7, _, F5, rfl, R5, P5, x5, .inr ⟨by omega, rfl, fun h => absurd HE0.out h⟩⟩
        · by_cases hav : err = 0 ∧ K < xs.length
          · obtain ⟨rfl, hK⟩ := hav
            obtain ⟨y, hy⟩ : ∃ y, xs[K]? = some y := ⟨xs[K], by simp [hK]⟩
            have hyb := hbx y (List.mem_of_getElem? hy)
            go_wp2_with fail
            refine (rd_byte _ _ _ _ _ _ R3 y hy).mono ?_
            rintro e1 w4 ⟨rfl, R4, s4⟩
            have P4 := P3.kept s4.1 (fun b hb hm => by have := (hR.lt b hm).2; simp at hb; omega)
            have x4 : Ext w w4 := Step.ext x3 s4 (fun b hb => (hR.lt b hb).1)
            have z4 : w3.heap.size ≤ w4.heap.size := Nat.le_trans xa.size s4.1.size
            go_wp2_with fail
            refine (pen_byte y hyb _ _ _ _ _ P4 (by simp) z4).mono ?_
            rintro e1 w5 ⟨rfl, F5, P5, s5⟩
            rw [List.nil_append] at P5
            have R5 := R4.kept s5.1 (fun b hb hm => by have := (hR.lt b hb).2; simp at hm; omega)
            have x5 : Ext w w5 := Step.ext x4 s5 (fun b hb => by simp at hb; omega)
            go_wp2
            go_meet
            exact ⟨y, K + 1, 0, [y], F5, rfl, R5, P5, x5, .inl ⟨rfl, 1, by omega, rfl, by rw [List.drop_eq_getElem_cons hK]; rw [List.getElem?_eq_getElem hK] at hy; simp [Option.some.inj hy]⟩⟩
          · have hno : err ≠ 0 ∨ K = xs.length := by omega
            go_wp2_with fail
            refine (rd_byte_no _ _ _ _ _ _ _ R3 hno).mono ?_
            rintro e1 w4 ⟨rfl, R4, s4⟩
            have P4 := P3.kept s4.1 (fun b hb hm => by have := (hR.lt b hm).2; simp at hb; omega)
            have x4 : Ext w w4 := Step.ext x3 s4 (fun b hb => (hR.lt b hb).1)
            have z4 : w3.heap.size ≤ w4.heap.size := Nat.le_trans xa.size s4.1.size
            go_wp2_with fail
            refine (pen_byte 0 (by omega) _ _ _ _ _ P4 (by simp) z4).mono ?_
            rintro e1 w5 ⟨rfl, F5, P5, s5⟩
            rw [List.nil_append] at P5
            have R5 := R4.kept s5.1 (fun b hb hm => by have := (hR.lt b hb).2; simp at hm; omega)
            have x5 : Ext w w5 := Step.ext x4 s5 (fun b hb => by simp at hb; omega)
            go_wp2
            go_meet
            exact ⟨0, K, _, _, F5, rfl, R5, P5, x5, .inr ⟨by unfold errOr; split <;> omega, rfl, fun h => errOr_ne h⟩⟩
        · obtain ⟨m, j, e, hrd⟩ : ∃ m j e, rdAt err (xs.drop K) = (m, j, e) := ⟨_, _, _, rfl⟩
          obtain ⟨hj, hm64, hcase⟩ := rdAt_any (fun y hy => hbx y (List.mem_of_mem_drop hy)) hrd
          have hub := unzig_bd hm64
          have HC := Lib.hid hcase
          clear hcase
          by_cases hin : -5 ≤ unzig m ∧ unzig m ≤ most
          · have dn1 : decide (unzig m < -5) = false := by simp; omega
            have dn2 : decide (most < unzig m) = false := by simp; omega
            go_wp2_with fail
            refine (rd_within (-5) most (by omega) hmost _ _ _ _ _ _ _ R3 m j e hrd hin).mono ?_
            rintro e1 w4 ⟨rfl, R4, s4⟩
            have P4 := P3.kept s4.1 (fun b hb hm => by have := (hR.lt b hm).2; simp at hb; omega)
            have x4 : Ext w w4 := Step.ext x3 s4 (fun b hb => (hR.lt b hb).1)
            have z4 : w3.heap.size ≤ w4.heap.size := Nat.le_trans xa.size s4.1.size
            go_wp2_with fail
            refine (pen_int (unzig m) hub _ _ _ _ _ P4 (by simp) z4).mono ?_
            rintro e1 w5 ⟨rfl, F5, P5, s5⟩
            rw [List.nil_append, zig_unzig] at P5
            have R5 := R4.kept s5.1 (fun b hb hm => by have := (hR.lt b hb).2; simp at hm; omega)
            have x5 : Ext w w5 := Step.ext x4 s5 (fun b hb => by simp at hb; omega)
            go_wp2_with fail
            refine (rd_err _ _ _ _ _ _ _ R5).mono ?_
            rintro e1 w6 ⟨rfl, rfl⟩
            by_cases he : e = 0
            · have de : decide (e = 0) = true := by simpa using he
              go_wp2
              go_meet
              exact ⟨unzig m, K + j, e, leb m, F5, rfl, R5, P5, x5, (by rcases HC.out with ⟨q1, q2, q3, q4⟩ | ⟨q1, q2, q3⟩; exact .inl ⟨q1, j, q4, rfl, q3.symm⟩; exact .inr ⟨q1, by rw [q2]; rfl, q3⟩)⟩
            · have de : decide (e = 0) = false := by simpa using he
              go_wp2
              go_meet
              exact ⟨unzig m, K + j, e, leb m, F5, rfl, R5, P5, x5, (by rcases HC.out with ⟨q1, q2, q3, q4⟩ | ⟨q1, q2, q3⟩; exact .inl ⟨q1, j, q4, rfl, q3.symm⟩; exact .inr ⟨q1, by rw [q2]; rfl, q3⟩)⟩
          · have hen : errOr e 2 ≠ 0 := by unfold errOr; split <;> omega
            have de : decide (errOr e 2 = 0) = false := by simpa using hen
            go_wp2_with fail
            refine (rd_within_out (-5) most (by omega) hmost _ _ _ _ _ _ _ R3 m j e hrd hin).mono ?_
            rintro e1 w4 ⟨rfl, R4, s4⟩
            have P4 := P3.kept s4.1 (fun b hb hm => by have := (hR.lt b hm).2; simp at hb; omega)
            have x4 : Ext w w4 := Step.ext x3 s4 (fun b hb => (hR.lt b hb).1)
            have z4 : w3.heap.size ≤ w4.heap.size := Nat.le_trans xa.size s4.1.size
            go_wp2_with fail
            refine (pen_int 0 (by omega) _ _ _ _ _ P4 (by simp) z4).mono ?_
            rintro e1 w5 ⟨rfl, F5, P5, s5⟩
            rw [List.nil_append] at P5
            have R5 := R4.kept s5.1 (fun b hb hm => by have := (hR.lt b hb).2; simp at hm; omega)
            have x5 : Ext w w5 := Step.ext x4 s5 (fun b hb => by simp at hb; omega)
            go_wp2_with fail
            refine (rd_err _ _ _ _ _ _ _ R5).mono ?_
            rintro e1 w6 ⟨rfl, rfl⟩
            go_wp2
            go_meet
            exact ⟨0, K + j, errOr e 2, _, F5, rfl, R5, P5, x5, .inr ⟨hen, rfl, fun h => by rcases HC.out with ⟨q1, q2, q3, q4⟩ | ⟨q1, q2, q3⟩; exact absurd q2 h; rw [errOr_ne q1]; exact q3 h⟩⟩
      obtain ⟨n, K', e', pl, F, rfl, Rc, Pc, xc, hcond⟩ := hcut
      have hmc := Rc.most
      go_wp2_with fail
      refine (rd_err _ _ _ _ _ _ _ Rc).mono ?_
      rintro e1 w6 ⟨rfl, rfl⟩
      rcases hcond with ⟨rfl, j, hj0, rfl, rfl⟩ | ⟨he', rfl, hstay⟩
      · go_upto_region 29 with fail
        obtain ⟨b0, off0, rfl, -⟩ := hs0 (by intro h; rw [h] at hmc; simp at hmc; omega)
        refine any_r29 _ _ _ _ _ _ _ _ _ _ _ _ _ _ _ _ _ _ _ _ _ _ _ _ _ _ _ _ _ _ _ _ _ _ _ _ _ _ _ _ _ _ _ _ _ _ _ _ _ _ _ _ _ _ _ _ _ _ _ _ _ _ _ _ _ _ _ _ _ _ _ _ _ _ _ _ _ _ _ _ _ _ _ _ _ _ _ _ _ _ _ _ _ _ _ _ _ _ _ _ _ _ _ _ _ _ _ _ _ _ _ _ _ _ _ _ _ _ _ _ _ _ _ _ _ _ _ _ _ _ _ _ _ _ _ b0 off0 c0 pr w3.heap.size K j xs k0 hj0 hmc.1 w.heap.size w3.heap.size Fr F _ (A0.ext xc) Rc Pc (fun _ _ _ _ _ _ _ _ _ w7 x7 => ?_)
        go_wp2
        go_roundg (gk - 1)
        case measure => omega
        case rel => exact ⟨i + 1, K + j, 0, by omega, by simp, Rc.ext x7, xc.trans x7⟩
      · have de : decide (e' = 0) = false := by simpa using he'
        go_wp2_with fail
        refine (rd_left _ _ _ _ _ _ _ Rc).mono ?_
        rintro e1 w7 ⟨rfl, q7⟩
        rw [leftOf_ne he']
        have R7 := Rc.qt q7
        have x7 := xc.qt q7
        by_cases he : err = 0
        · subst he
          go_wp2
          go_roundg (gk - 1)
          case measure => omega
          case rel => exact ⟨i + 1, K', e', by omega, by simp, R7, x7⟩
        · obtain rfl := hstay he
          go_wp2_with fail
          refine (rd_err _ _ _ _ _ _ _ R7).mono ?_
          rintro e1 w8 ⟨rfl, rfl⟩
          go_wp2
          go_roundg (gk - 1)
          case measure => omega
          case rel => exact ⟨i + 1, K', _, by omega, by simp, R7, x7⟩
    · have hmK := hR.most
      go_wp2_with fail
      refine (rd_err _ _ _ _ _ _ _ hR).mono ?_
      rintro e1 w3 ⟨rfl, rfl⟩
      by_cases he : err = 0
      · subst he
        go_wp2_with fail
        refine (rd_at _ _ _ _ _ _ _ hR).mono ?_
        rintro e1 w3 ⟨rfl, rfl⟩
        by_cases hK : K < xs.length
        · go_wp2_with fail
          refine (rd_end _ _ _ _ _ _ _ hR).mono ?_
          rintro e1 w4 ⟨rfl, q4⟩
          rw [if_pos ⟨rfl, hK⟩]
          go_wp2
          go_ret
          exact ⟨rfl, hx.qt q4⟩
        · have dK : decide ((K : Int) < (xs.length : Int)) = false := by simp; omega
          go_wp2_with fail
          refine (rd_end _ _ _ _ _ _ _ hR).mono ?_
          rintro e1 w4 ⟨rfl, q4⟩
          rw [if_neg (by omega)]
          go_wp2
          go_ret
          exact ⟨rfl, hx.qt q4⟩
      · have de : decide (err = 0) = false := by simpa using he
        go_wp2_with fail
        refine (rd_end _ _ _ _ _ _ _ hR).mono ?_
        rintro e1 w4 ⟨rfl, q4⟩
        rw [if_neg (by omega)]
        go_wp2
        go_ret
        exact ⟨by simp, hx.qt q4⟩
end Go.Proofs.Ytgmjfmmandbekaa
