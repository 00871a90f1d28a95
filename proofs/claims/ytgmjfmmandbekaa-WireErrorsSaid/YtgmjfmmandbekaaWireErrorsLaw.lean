/-
  DERIVED. The walk of the law WireErrors: it returns true, whatever the numbers and bytes.
-/
import Derived.Test.YtgmjfmmandbekaaWireAwake
import Derived.Test.YtgmjfmmandbekaaWireRdr6
namespace Go.Proofs.Ytgmjfmmandbekaa
open Go.RowKit
set_option linter.unusedVariables false

theorem Rdr.past {w w' : World} {base p : Nat} {l : List Int} {k : Nat} {err : Int} {F G G' : List Nat} (h : Rdr w base p l k err F) (s : Step G G' w w') {n : Nat} (hG : ∀ b ∈ G, n ≤ b) (hF : ∀ b ∈ F, b < n) : Rdr w' base p l k err F :=
  h.kept s.1 (fun b hb hg => by have := hG b hg; have := hF b hb; omega)
theorem Pen.past {w w' : World} {base p : Nat} {l : List Int} {F G G' : List Nat} (h : Pen w base p l F) (s : Step G G' w w') {n : Nat} (hG : ∀ b ∈ G, n ≤ b) (hF : ∀ b ∈ F, b < n) : Pen w' base p l F :=
  h.kept s.1 (fun b hb hg => by have := hG b hg; have := hF b hb; omega)
theorem Pen.ext {w w' : World} {base p : Nat} {l : List Int} {F : List Nat} (h : Pen w base p l F) (hx : Ext w w') : Pen w' base p l F :=
  h.kept (O := []) (Step.of_ext (F := []) hx).1 (fun b hb hg => by cases hg)
/-- the first bytes of a slice of the call's own -/
theorem Own.take {w : World} {base : Nat} {l : List Int} {g c : Nat} (h : Own w base (.slice (some ⟨g, 0, none⟩) l.length c) l) (j : Nat) (hj : j ≤ l.length) : Own w base (.slice (some ⟨g, 0, none⟩) j c) (l.take j) := by
  have hlen : (l.take j).length = j := by simp; omega
  obtain ⟨h1, h2⟩ := h
  rcases h2 with ⟨h2, _⟩ | ⟨g', cap, cur, e, a1, a2, a3, a4, a5, a6⟩
  · cases h2
  · cases e
    refine ⟨by rw [bytesV_length]; omega, .inr ⟨g, c, cur, by rw [hlen], a1, a2, by omega, a4, a5, ?_⟩⟩
    rw [hlen]
    have e : cur.toList.take (j * 1) = (cur.toList.take (l.length * 1)).take (j * 1) := by rw [List.take_take]; congr 1; omega
    rw [e, a6]
    simp [bytesV, List.map_take]
theorem Shape.early {b : List Int} (h : Shape b) : ∀ y ∈ b.take (b.length - 1), 128 ≤ y := by
  induction b with
  | nil => intro y hy; cases hy
  | cons z r ih =>
    intro y hy
    cases r with
    | nil => simp at hy
    | cons q r =>
      have e : (z :: q :: r).length - 1 = ((q :: r).length - 1) + 1 := by simp
      rw [e, List.take_succ_cons] at hy
      rcases List.mem_cons.1 hy with rfl | hy
      · exact h.1.1
      · exact ih h.2 y hy
theorem leb_len6 {m : Nat} (h1 : 1099511627776 ≤ m) (h2 : m < 2199023255552) : (leb m).length = 6 := by
  rw [leb_great (by omega), leb_great (n := m / 128) (by omega), leb_great (n := m / 128 / 128) (by omega), leb_great (n := m / 128 / 128 / 128) (by omega), leb_great (n := m / 128 / 128 / 128 / 128) (by omega), leb_small (by omega)]
  rfl
/-- five bytes that go on, then a nought -/
theorem rdNum_long {m : Nat} (h1 : 1099511627776 ≤ m) (h2 : m < 2199023255552) : rdNum ((leb m).take 5 ++ [0]) = (0, 6, 4) := by
  have h6 := leb_len6 h1 h2
  have hs := (shape_leb m).1
  have hb := hs.early
  rw [h6] at hb
  have h5 : ((leb m).take 5).length = 5 := by simp; omega
  have hend : numEnd ((leb m).take 5 ++ [0]) = some 6 := by
    rw [numEnd_skip 5 _ (by rw [List.take_append_of_le_length (by omega), List.take_take]; exact hb) (by simp; omega)]
    rw [List.drop_append_of_le_length (by omega), List.drop_of_length_le (by omega)]
    rfl
  have hlen : ((leb m).take 5 ++ [(0 : Int)]).length = 6 := by simp; omega
  have hl : lastB ((leb m).take 5 ++ [(0 : Int)]) = 0 := by
    have e := lastB_getD ((leb m).take 5 ++ [(0 : Int)]) (by simp)
    rw [hlen] at e
    have e2 : ((leb m).take 5 ++ [(0 : Int)])[6 - 1]? = some 0 := by rw [List.getElem?_append_right (by omega), h5]; rfl
    rw [e2] at e
    exact (Option.some.inj e).symm
  have hbad : badB (((leb m).take 5 ++ [(0 : Int)]).take 6) = true := by
    rw [List.take_of_length_le (by omega)]
    unfold badB
    rw [hlen, hl]
    rfl
  unfold rdNum
  rw [hend]
  dsimp only
  rw [hbad]
  rfl

set_option maxHeartbeats 4000000 in
set_option maxRecDepth 100000 in
theorem wireErrors_row (w : World) (n less : Int) (v : Value) (b : List Int) (hn : 0 ≤ n ∧ n ≤ 4294967295) (hl : 0 ≤ less ∧ less ≤ 255) (hv : Arr w .u8 v b) :
    Calls Try.prog 5 #[.int .u32 n, .int .u8 less, v] w fun e w' => e = .returned (.bool true) ∧ Ext w w' := by
  obtain ⟨m, rfl⟩ := Int.eq_ofNat_of_zero_le hn.1
  have hv' := hv
  obtain ⟨⟨ao, c, rfl, -, -, -⟩, -, -⟩ := hv
  have hbig : b.length ≤ maxLen := hv'.most
  simp only [maxLen] at hbig
  go_enter Try.func5, Try.ntmps5
  go_wp2_with fail
  refine (awake4_any _).mono ?_
  rintro e w0 ⟨rfl, x0⟩
  by_cases h50 : 50 < b.length
  · go_wp2
    go_ret
    exact ⟨rfl, x0⟩
  go_wp2_with fail
  refine (pen_count _ (by omega) _ w0.heap.size _ _ _ (Pen.new (Nat.le_refl _)) (by simp) (by simp)).mono ?_
  rintro e w1 ⟨rfl, F1, P1, s1⟩
  rw [List.nil_append, Int.toNat_natCast] at P1
  have x1 : Ext w0 w1 := Step.ext ((Ext.refl w0).alloc _ _) s1 (by simp)
  have hl5 := leb_len5 (n := m) (by omega)
  go_wp2_with fail
  refine (pen_byte 0 (by omega) _ _ _ _ _ P1 (by omega) x1.size).mono ?_
  rintro e w2 ⟨rfl, F2, P2, s2⟩
  have x2 : Ext w0 w2 := Step.ext x1 s2 (fun b hb => (P1.lt b hb).1)
  obtain ⟨M, hM⟩ : ∃ M : Nat, M = m + 1099511627776 := ⟨_, rfl⟩
  have hor : bits .or .u64 (m : Int) 1099511627776 = (m : Int) + 1099511627776 := by
    rw [u64_or40 _ _ (by omega) (by omega) (by omega) (by omega) (by omega)]
  have h6 := leb_len6 (m := M) (by omega) (by omega)
  have hlong := rdNum_long (m := M) (by omega) (by omega)
  have hMb := leb_bytes M
  have hF2 := P2.lt
  have HM := Lib.hid (show (m : Int) + 1099511627776 = (M : Int) by omega)
  have hM64 : M < 18446744073709551616 := by omega
  clear hM
  go_wp2_with fail
  rw [HM.out]
  refine (rcount_any M _ hM64).mono ?_
  rintro e w3 ⟨v3, rfl, o3, x3⟩
  have P3 := P2.ext x3
  have x3' := x2.trans x3
  have z3 := x3.size
  obtain ⟨ao3, c3, rfl, hnone, hadr⟩ := o3.slice
  obtain ⟨g, rfl⟩ : ∃ g, ao3 = some ⟨g, 0, none⟩ := by
    cases ao3 with
    | none => have := (hnone rfl).1; rw [this] at h6; simp at h6
    | some a => exact ⟨a.block, by rw [← hadr a rfl]⟩
  clear hnone hadr
  have hcap := o3.cap
  have o3' := o3.take 5 (by omega)
  rw [h6] at hcap o3
  rw [h6]
  have hl55 : ((leb M).take 5).length = 5 := by simp; omega
  go_wp2_with (at_builtin; refine wpList_append_byte rfl _ _ rfl w2.heap.size _ ((leb M).take 5) rfl (o3'.alloc _) w3.heap.size 1 0 rfl (by simp [go_sem]) (by omega) (by simp; omega) ?_)
  intro v4 w4 o4 c4 k4
  have y4 : Ext w2 w4 := Ext.calm_trans (x3.alloc _ _) c4 (fun q hq => by
    have := Option.mem_toList.1 hq
    exact (o3'.lt q this).1)
  have P4 := P2.ext y4
  have hb4 : ∀ y ∈ (leb M).take 5 ++ [0], 0 ≤ y ∧ y ≤ 255 := fun y hy => by
    rcases List.mem_append.1 hy with hy | hy
    · exact hMb y (List.mem_of_mem_take hy)
    · simp at hy; omega
  obtain ⟨ao4, c4', rfl, -, -⟩ := o4.slice
  have hlen4 : ((leb M).take 5 ++ [(0 : Int)]).length = 6 := by simp; omega
  have A4 := o4.arr hb4
  rw [hlen4] at A4
  rw [hlen4]
  go_wp2_with fail
  refine (rd_read _ _ _ A4 (by omega)).mono ?_
  rintro e w5 ⟨pL, FL, rfl, L5, x5⟩
  have P5 := P4.ext x5
  have y5 := (x2.trans y4).trans x5
  have z4 := y4.size
  have hFL := L5.lt
  go_wp2_with fail
  refine (rd_count 4611686018427387904 (by omega) _ _ _ _ _ _ _ L5 0 6 4 (by rw [rdAt_zero]; exact hlong) (by omega)).mono ?_
  rintro e w6 ⟨rfl, L6, s6⟩
  have P6 := P5.past (n := w4.heap.size) s6 (fun q hq => (hFL q hq).1) (fun q hq => Nat.lt_of_lt_of_le (hF2 q hq).2 z4)
  have x6 : Ext w0 w6 := Step.ext y5 s6 (fun q hq => Nat.le_trans (x2.trans y4).size (hFL q hq).1)
  go_wp2_with fail
  have hb7 : ∀ y ∈ leb m ++ [0], 0 ≤ y ∧ y ≤ 255 := fun y hy => by
    rcases List.mem_append.1 hy with hy | hy
    · exact leb_bytes m y hy
    · simp at hy; omega
  refine (pen_bytes _ _ _ _ _ P6 hb7 (by simp; omega)).mono ?_
  rintro e w7 ⟨v7, rfl, o7, x7⟩
  obtain ⟨ao7, c7, rfl, -, -⟩ := o7.slice
  have L7 := L6.ext x7
  have A7 := o7.arr hb7
  obtain ⟨k7, hk7, hk7'⟩ : ∃ k7, (leb m ++ [(0 : Int)]).length = k7 ∧ k7 < 100 := ⟨_, rfl, by simp; omega⟩
  rw [hk7] at A7
  rw [hk7]
  go_wp2_with fail
  refine (rd_read _ _ _ A7 (by omega)).mono ?_
  rintro e w8 ⟨pR, FR, rfl, R8, x8⟩
  have L8 := L7.ext x8
  have y8 := (x6.trans x7).trans x8
  have hFL8 : ∀ q ∈ FL, q < w7.heap.size := fun q hq => (L7.lt q hq).2
  have hFR := R8.lt
  have hl5' := leb_len5 (n := m) (by omega)
  have hcount : Calls Try.prog 18 #[.pointer (some ⟨pR, 0, none⟩), .int .i64 ((m : Int) - 1 - less)] w8 fun r w' => r = .returned (.int .i64 0) ∧ (∃ err, Rdr w' w7.heap.size pR (leb m ++ [0]) (0 + (leb m).length) err FR ∧ (m ≠ 0 → err = 7)) ∧ Step FR FR w8 w' := by
    have hrd : rdAt 0 ((leb m ++ [(0 : Int)]).drop 0) = (m, (leb m).length, 0) := by
      rw [rdAt_zero, List.drop_zero]
      exact rdNum_leb (by omega) _
    by_cases hm0 : m = 0
    · refine (rd_count ((m : Int) - 1 - less) (by omega) _ _ _ _ _ _ _ R8 _ _ _ hrd (by omega)).mono ?_
      rintro e w9 ⟨rfl, R9, s9⟩
      exact ⟨by rw [hm0]; rfl, ⟨_, R9, fun h => absurd hm0 h⟩, s9⟩
    · refine (rd_count_many ((m : Int) - 1 - less) (by omega) _ _ _ _ _ _ _ R8 _ _ _ hrd (by omega)).mono ?_
      rintro e w9 ⟨rfl, R9, s9⟩
      exact ⟨rfl, ⟨_, R9, fun _ => rfl⟩, s9⟩
  go_wp2_with fail
  refine hcount.mono ?_
  rintro e w9 ⟨rfl, ⟨eR, R9, heR⟩, s9⟩
  clear hcount
  have HER := Lib.hid heR
  clear heR
  have L9 := L8.past (n := w7.heap.size) s9 (fun q hq => (hFR q hq).1) hFL8
  have x9 : Ext w0 w9 := Step.ext y8 s9 (fun q hq => Nat.le_trans (x6.trans x7).size (hFR q hq).1)
  have hFR9 := R9.lt
  have hFL9 := L9.lt
  have B9 := hv'.ext (x0.trans x9)
  go_wp2_with fail
  refine (rd_read _ _ _ B9 (by omega)).mono ?_
  rintro e w10 ⟨pS, FS, rfl, S10, x10⟩
  have L10 := L9.ext x10
  have R10 := R9.ext x10
  have y10 := x9.trans x10
  have hFS := S10.lt
  go_wp2_with fail
  refine (rd_bytes_short ((b.length : Int) + 1) (by omega) _ _ _ _ _ _ S10 (.inr (by omega))).mono ?_
  rintro e w11 ⟨rfl, S11, s11⟩
  have L11 := L10.past (n := w9.heap.size) s11 (fun q hq => (hFS q hq).1) (fun q hq => (hFL9 q hq).2)
  have R11 := R10.past (n := w9.heap.size) s11 (fun q hq => (hFS q hq).1) (fun q hq => (hFR9 q hq).2)
  have x11 : Ext w0 w11 := Step.ext y10 s11 (fun q hq => Nat.le_trans x9.size (hFS q hq).1)
  have hFL11 := L11.lt
  have hFR11 := R11.lt
  have hFS11 := S11.lt
  have B11 := hv'.ext (x0.trans x11)
  go_wp2_with fail
  refine (rd_read _ _ _ B11 (by omega)).mono ?_
  rintro e w12 ⟨pT, FT, rfl, T12, x12⟩
  have L12 := L11.ext x12
  have R12 := R11.ext x12
  have S12 := S11.ext x12
  have y12 := x11.trans x12
  have hFT := T12.lt
  go_wp2_with fail
  refine (rd_fail _ _ _ _ _ _ 5 _ T12).mono ?_
  rintro e w13 ⟨rfl, T13, s13⟩
  rw [errOr_zero] at T13
  go_wp2_with fail
  refine (rd_fail _ _ _ _ _ _ 4 _ T13).mono ?_
  rintro e w14 ⟨rfl, T14, s14⟩
  rw [errOr_ne (by omega)] at T14
  have s14' := s13.trans s14
  have L14 := L12.past (n := w11.heap.size) s14' (fun q hq => (hFT q hq).1) (fun q hq => (hFL11 q hq).2)
  have R14 := R12.past (n := w11.heap.size) s14' (fun q hq => (hFT q hq).1) (fun q hq => (hFR11 q hq).2)
  have S14 := S12.past (n := w11.heap.size) s14' (fun q hq => (hFT q hq).1) (fun q hq => (hFS11 q hq).2)
  have x14 : Ext w0 w14 := Step.ext y12 s14' (fun q hq => Nat.le_trans x11.size (hFT q hq).1)
  have y14 : Ext w w14 := x0.trans x14
  clear L5 L6 L7 L8 L9 L10 L11 L12 R8 R9 R10 R11 R12 S10 S11 S12 T12 T13 P1 P2 P3 P4 P5 P6 hFL hFL8 hFL9 hFL11 hFR hFR9 hFR11 hFS hFS11 hFT B9 B11 A4 A7 o3 o3' o4 o7 x1 x2 x3 x3' y4 y5 x5 x6 x7 x8 y8 x9 x10 y10 x11 x12 y12 x14 s1 s2 s6 s9 s11 s13 s14 s14' hb4 hb7 hMb hlong HM hF2 c4 k4
  go_wp2_with fail
  refine (pen_int_nil 3 (by omega) _).mono ?_
  rintro e w15 ⟨rfl, rfl⟩
  go_wp2_with fail
  refine (pen_count_nil 3 (by omega) _).mono ?_
  rintro e w15 ⟨rfl, rfl⟩
  go_wp2_with fail
  refine (pen_put_nil _ _).mono ?_
  rintro e w15 ⟨rfl, rfl⟩
  go_wp2_with fail
  refine (rd_nil_Fail 4 _).mono ?_
  rintro e w15 ⟨rfl, rfl⟩
  by_cases hm0 : m = 0
  · subst hm0
    go_wp2_with fail
    refine (rd_err _ _ _ _ _ _ _ L14).mono ?_
    rintro e wz ⟨rfl, rfl⟩
    go_wp2_with fail
    refine (rd_err _ _ _ _ _ _ _ S14).mono ?_
    rintro e wz ⟨rfl, rfl⟩
    go_wp2_with fail
    refine (rd_err _ _ _ _ _ _ _ T14).mono ?_
    rintro e wz ⟨rfl, rfl⟩
    go_wp2_with fail
    refine (rd_end _ _ _ _ _ _ _ T14).mono ?_
    rintro e w15 ⟨rfl, q15⟩
    rw [if_neg (by omega)]
    have T15 := T14.qt q15
    go_wp2_with fail
    refine (rd_left _ _ _ _ _ _ _ T15).mono ?_
    rintro e w16 ⟨rfl, q16⟩
    rw [leftOf_ne (by omega)]
    go_wp2_with fail
    refine (rd_nil_Err _).mono ?_
    rintro e wz ⟨rfl, rfl⟩
    go_wp2_with fail
    refine (rd_nil_Int _).mono ?_
    rintro e wz ⟨rfl, rfl⟩
    go_wp2_with fail
    refine (rd_nil_End _).mono ?_
    rintro e wz ⟨rfl, rfl⟩
    go_wp2_with fail
    refine (rd_nil_At _).mono ?_
    rintro e wz ⟨rfl, rfl⟩
    go_wp2_with fail
    refine (rd_nil_Left _).mono ?_
    rintro e wz ⟨rfl, rfl⟩
    go_wp2_with fail
    refine (rd_nil_Bytes 1 _).mono ?_
    rintro e wz ⟨rfl, rfl⟩
    go_wp2_with fail
    refine (pen_len_nil _).mono ?_
    rintro e wz ⟨rfl, rfl⟩
    go_wp2_with fail
    refine (pen_bytes_nil _).mono ?_
    rintro e wz ⟨rfl, rfl⟩
    go_wp2
    go_ret
    exact ⟨rfl, (y14.qt q15).qt q16⟩
  · have he7 := HER.out hm0
    subst he7
    have hd0 : decide (m = 0) = false := by simpa using hm0
    go_wp2_with fail
    refine (rd_err _ _ _ _ _ _ _ R14).mono ?_
    rintro e wz ⟨rfl, rfl⟩
    go_wp2_with fail
    refine (rd_err _ _ _ _ _ _ _ L14).mono ?_
    rintro e wz ⟨rfl, rfl⟩
    go_wp2_with fail
    refine (rd_err _ _ _ _ _ _ _ S14).mono ?_
    rintro e wz ⟨rfl, rfl⟩
    go_wp2_with fail
    refine (rd_err _ _ _ _ _ _ _ T14).mono ?_
    rintro e wz ⟨rfl, rfl⟩
    go_wp2_with fail
    refine (rd_end _ _ _ _ _ _ _ T14).mono ?_
    rintro e w15 ⟨rfl, q15⟩
    rw [if_neg (by omega)]
    have T15 := T14.qt q15
    go_wp2_with fail
    refine (rd_left _ _ _ _ _ _ _ T15).mono ?_
    rintro e w16 ⟨rfl, q16⟩
    rw [leftOf_ne (by omega)]
    go_wp2_with fail
    refine (rd_nil_Err _).mono ?_
    rintro e wz ⟨rfl, rfl⟩
    go_wp2_with fail
    refine (rd_nil_Int _).mono ?_
    rintro e wz ⟨rfl, rfl⟩
    go_wp2_with fail
    refine (rd_nil_End _).mono ?_
    rintro e wz ⟨rfl, rfl⟩
    go_wp2_with fail
    refine (rd_nil_At _).mono ?_
    rintro e wz ⟨rfl, rfl⟩
    go_wp2_with fail
    refine (rd_nil_Left _).mono ?_
    rintro e wz ⟨rfl, rfl⟩
    go_wp2_with fail
    refine (rd_nil_Bytes 1 _).mono ?_
    rintro e wz ⟨rfl, rfl⟩
    go_wp2_with fail
    refine (pen_len_nil _).mono ?_
    rintro e wz ⟨rfl, rfl⟩
    go_wp2_with fail
    refine (pen_bytes_nil _).mono ?_
    rintro e wz ⟨rfl, rfl⟩
    go_wp2
    go_ret
    exact ⟨rfl, (y14.qt q15).qt q16⟩
end Go.Proofs.Ytgmjfmmandbekaa
