/-
  DERIVED. THE WALK of IsaBack.
-/
import Derived.Test.YtkdonkebnnjkkaaIsaProg
namespace Go.Proofs.Ytkdonkebnnjkkaa
open Go.RowKit
set_option linter.unusedVariables false
theorem enc_inj {xs ys : List In} {r s : List Int} (hx : ∀ x ∈ xs, x.ok) (hy : ∀ y ∈ ys, y.ok) (lx : xs.length < 1000) (ly : ys.length < 1000) (h : enc xs ++ r = enc ys ++ s) : xs = ys ∧ r = s := by
  simp only [enc, List.append_assoc] at h
  obtain ⟨h1, h2⟩ := append_inj_leb h (by omega) (by omega)
  obtain ⟨h3, h4⟩ := encs_inj hx hy (by omega) h2
  rw [List.take_of_length_le (by omega)] at h3
  subst h3
  simp [encs] at h4
  exact ⟨rfl, h4⟩
theorem enc_len {xs : List In} (hok : ∀ x ∈ xs, x.ok) (hl : xs.length ≤ 40) : (enc xs).length < 1000 := by
  have h1 := encs_len hok
  have h2 := leb_len10 (n := xs.length) (by omega)
  simp only [enc, List.length_append]
  omega
set_option maxRecDepth 100000 in
set_option maxHeartbeats 2000000 in
theorem isaBack_main {w : World} (u : Value) (sl : List Sm) (d : Bool) (h2 : SArr w u sl) (l2 : sl.length ≤ 40) :
    Calls Try.prog 3 #[u, .bool d] w fun e w' => e = .returned (.bool true) ∧ Ext w w' := by
  have hS := h2
  obtain ⟨⟨a2, c2, rfl, -⟩, -, -⟩ := h2
  have i2 : (sl.length : Int) ≤ 40 := by omega
  go_enter Try.func3, Try.ntmps3
  go_wp2_with fail
  refine (awake7_any _).mono ?_
  rintro e w1 ⟨rfl, e1⟩
  go_wp2_with fail
  refine (program_any d _ _ sl (hS.ext e1) l2).mono ?_
  rintro e w2 ⟨v2, xs, rfl, o2, hok, hxl, hck, x2⟩
  have hx20 : xs.length ≤ 20 := by omega
  clear hxl
  have e2 := e1.trans x2
  have z1 := e1.size
  have P3 := Pen.new (w := w2) (base := w2.heap.size) (Nat.le_refl _)
  have x3 := (Ext.refl w2).alloc #[.slice none 0 0] 30
  have o3 := o2.ext x3
  have e3 := e2.trans x3
  have HCK := Lib.hid hck
  have HFU := Lib.hid (chk_zero hck).2.2
  have HOK := Lib.hid hok
  clear hck hok
  obtain ⟨ao2, cc2, rfl, -, -⟩ := o2.slice
  have hz3 : ∀ k, Value.ownBlock (.slice ao2 xs.length cc2) = some k → k ∉ [w2.heap.size] := fun k hk hin => by have := (o2.lt k hk).2; simp at hin; omega
  go_wp2_with fail
  refine (putP_any _ _ _ _ _ P3 _ _ _ o3 hz3 HOK.out (by omega) (by simp) (by simp)).mono ?_
  rintro e w4 ⟨rfl, F4, P4, s4⟩
  rw [List.nil_append] at P4
  have x4 : Ext w2 w4 := s4.ext x3 (by simp)
  have o4 := o2.ext x4
  have e4 := e2.trans x4
  have HEN := Lib.hid (enc_len HOK.out (by omega))
  have HBY := Lib.hid (enc_bytes HOK.out)
  clear P3 x3 o3 e3 s4 hz3
  go_wp2_with fail
  refine (pen_bytes _ _ _ _ _ P4 HBY.out (Nat.lt_trans HEN.out (by decide))).mono ?_
  rintro e w5 ⟨v5, rfl, o5, x5⟩
  have A5 := o5.arr HBY.out
  obtain ⟨ao5, c5, rfl, -, -⟩ := o5.slice
  go_wp2_with fail
  refine (rd_read _ _ _ A5 (Nat.lt_trans HEN.out (by decide))).mono ?_
  rintro e w6 ⟨pr, Fr, rfl, R6, x6⟩
  have o6 := (o4.ext x5).ext x6
  have e6 := (e4.trans x5).trans x6
  have hFr : ∀ b ∈ Fr, w5.heap.size ≤ b := fun b hb => (R6.lt b hb).1
  have hz5 := (e4.trans x5).size
  have x56 := x5.trans x6
  go_wp2_with fail
  refine (take_any d _ _ _ _ _ _ _ R6).mono ?_
  rintro e w7 ⟨v7, ys, k7, err7, rfl, o7, hoky, hyl, R7, s7, T7⟩
  have o8 := o6.calm s7.1 (fun k hk hin => by
    have h1 := hFr k hin
    have h2 := (o4.lt k hk).2
    have h3 := x5.size
    omega)
  have e7 : Ext w w7 := s7.ext e6 (fun b hb => by have := hFr b hb; omega)
  obtain ⟨rfl, hyx, hk7⟩ : err7 = 0 ∧ xs = ys ∧ k7 = (enc xs).length := by
    rcases T7 with ⟨_, rfl, hcy, hdr⟩ | ⟨_, _, hno⟩
    · rw [List.drop_zero] at hdr
      obtain ⟨rfl, h4⟩ := enc_inj (r := []) HOK.out hoky (by omega) (by omega) (by simpa using hdr)
      have hm := R7.most.1
      have h5 := congrArg List.length h4
      simp at h5
      exact ⟨rfl, rfl, by omega⟩
    · rcases hno with h | h
      · exact absurd rfl h
      · exact absurd (by simp) (h xs [] HOK.out HCK.out)
  subst hyx
  clear T7 P4 o5 A5 R6 o6 e6 x6 x56 o4 x5 e4 x4 s7
  go_wp2_with fail
  refine (rd_end _ _ _ _ _ _ _ R7).mono ?_
  rintro e w8 ⟨rfl, q8⟩
  rw [if_neg (by omega)]
  obtain ⟨ao7, c7, rfl, -, -⟩ := o7.slice
  go_wp2_with fail
  refine (same_any _ _ _ _ _ xs (o8.qt q8) (o7.qt q8) (by omega)).mono ?_
  rintro e w9 ⟨rfl, q9⟩
  go_wp2_with fail
  refine (fuel_any _ _ _ xs ((o8.qt q8).qt q9) HOK.out (by omega)).mono ?_
  rintro e w10 ⟨rfl, x10⟩
  have hfu := HFU.out
  have e10 := ((e7.qt q8).qt q9).trans x10
  go_wp2
  go_ret
  exact ⟨rfl, e10⟩
set_option maxRecDepth 100000 in
theorem isaBack_row {w : World} (u : Value) (sl : List Sm) (d : Bool) (h2 : SArr w u sl) :
    Calls Try.prog 3 #[u, .bool d] w fun e w' => e = .returned (.bool true) ∧ Ext w w' := by
  have m2 := h2.most
  unfold maxLen at m2
  have hmain := fun l2 => isaBack_main u sl d h2 l2
  obtain ⟨⟨a2, c2, rfl, -⟩, -, -⟩ := h2
  by_cases l2 : sl.length ≤ 40
  · exact hmain l2
  · clear hmain
    have i2 : (40 : Int) < (sl.length : Int) := by omega
    clear l2
    go_enter Try.func3, Try.ntmps3
    go_wp2_with fail
    refine (awake7_any _).mono ?_
    rintro e w1 ⟨rfl, e1⟩
    go_wp2
    go_ret
    exact ⟨rfl, e1⟩
end Go.Proofs.Ytkdonkebnnjkkaa
