/-
  DERIVED. THE WALKS of layer 4 (wire): Count, Int, Within, Bytes, End; nil Readers.
-/
import Derived.Test.YtkdonkebnnjkkaaWireRdr3
namespace Go.Proofs.Ytkdonkebnnjkkaa
open Go.RowKit
set_option linter.unusedVariables false

/-- what a read of a number comes to: the number, how many bytes more are read, the error -/
def rdAt (err : Int) (b : List Int) : Nat × Nat × Int := if err = 0 then rdNum b else (0, 0, err)
theorem rdAt_zero (b : List Int) : rdAt 0 b = rdNum b := rfl
theorem rdAt_ne {err : Int} {b : List Int} (h : err ≠ 0) : rdAt err b = (0, 0, err) := if_neg h
theorem rdAt_lt {err : Int} {b : List Int} (hb : ∀ y ∈ b, 0 ≤ y ∧ y ≤ 255) {n j : Nat} {e : Int} (h : rdAt err b = (n, j, e)) : n < 18446744073709551616 ∧ (n ≠ 0 → e = 0) := by
  unfold rdAt at h
  split at h
  · rcases rdNum_ok hb h with ⟨h1, h2, _⟩ | ⟨h1, _⟩
    · exact ⟨h2, fun _ => h1⟩
    · exact ⟨by omega, fun hn => absurd h1 hn⟩
  · cases h
    exact ⟨by omega, fun hn => absurd rfl hn⟩
set_option maxRecDepth 100000 in
theorem rd_number_no (w : World) (base p : Nat) (l : List Int) (k : Nat) (err : Int) (F : List Nat) (h : Rdr w base p l k err F) (he : err ≠ 0) :
    Calls Try.prog 33 #[.pointer (some ⟨p, 0, none⟩)] w fun r w' => r = .returned (.int .u64 0) ∧ Rdr w' base p l k err F ∧ Step F F w w' := by
  go_enter Try.func33, Try.ntmps33
  go_wp2_with fail
  refine (rd_at _ _ _ _ _ _ _ h).mono ?_
  rintro e w1 ⟨rfl, rfl⟩
  go_wp2
  go_loopg [] 0 (fun gk wr => w = wr)
  case atStart => rfl
  case round =>
    subst hrel
    go_wp2_with fail
    refine (rd_byte_no _ _ _ _ _ _ _ h (.inl he)).mono ?_
    rintro e1 w2 ⟨rfl, h2, s2⟩
    rw [errOr_ne he] at h2
    go_wp2_with fail
    refine (rd_err _ _ _ _ _ _ _ h2).mono ?_
    rintro e2 w3 ⟨rfl, rfl⟩
    go_wp2
    go_ret
    exact ⟨rfl, h2, s2⟩
theorem rd_num (w : World) (base p : Nat) (l : List Int) (k : Nat) (err : Int) (F : List Nat) (h : Rdr w base p l k err F) (n j : Nat) (e : Int) (hrd : rdAt err (l.drop k) = (n, j, e)) :
    Calls Try.prog 33 #[.pointer (some ⟨p, 0, none⟩)] w fun r w' => r = .returned (.int .u64 n) ∧ Rdr w' base p l (k + j) e F ∧ Step F F w w' := by
  by_cases he : err = 0
  · subst he
    exact rd_number w base p l k F h n j e hrd
  · rw [rdAt_ne he] at hrd
    cases hrd
    exact rd_number_no w base p l k err F h he
theorem unfolded_any (n : Nat) (hn : n < 18446744073709551616) (w : World) :
    Calls Try.prog 44 #[.int .u64 n] w fun e w' => e = .returned (.int .i64 (unzig n)) ∧ w = w' := by
  have hu : unzig n = if n % 2 = 1 then -((n / 2 : Nat) : Int) - 1 else ((n / 2 : Nat) : Int) := rfl
  by_cases h : n % 2 = 1
  · rw [hu, if_pos h]
    have hd : decide (n % 2 = 1) = true := by simpa using h
    go_enter Try.func44, Try.ntmps44
    go_wp2
    go_ret
    exact ⟨ret_int (by omega), rfl⟩
  · rw [hu, if_neg h]
    have hd : decide (n % 2 = 1) = false := by simpa using h
    go_enter Try.func44, Try.ntmps44
    go_wp2
    go_ret
    exact ⟨ret_int (by omega), rfl⟩
theorem rd_int (w : World) (base p : Nat) (l : List Int) (k : Nat) (err : Int) (F : List Nat) (h : Rdr w base p l k err F) (n j : Nat) (e : Int) (hrd : rdAt err (l.drop k) = (n, j, e)) :
    Calls Try.prog 41 #[.pointer (some ⟨p, 0, none⟩)] w fun r w' => r = .returned (.int .i64 (unzig n)) ∧ Rdr w' base p l (k + j) e F ∧ Step F F w w' := by
  have hn := (rdAt_lt (fun y hy => h.bytes y (List.mem_of_mem_drop hy)) hrd).1
  go_enter Try.func41, Try.ntmps41
  go_wp2_with fail
  refine (rd_num _ _ _ _ _ _ _ h n j e hrd).mono ?_
  rintro e1 w1 ⟨rfl, h1, s1⟩
  go_wp2_with fail
  refine (unfolded_any n hn _).mono ?_
  rintro e2 w2 ⟨rfl, rfl⟩
  go_wp2
  go_ret
  exact ⟨rfl, h1, s1⟩
theorem rd_count (most : Int) (hm : -9223372036854775808 ≤ most ∧ most ≤ 9223372036854775807) (w : World) (base p : Nat) (l : List Int) (k : Nat) (err : Int) (F : List Nat) (h : Rdr w base p l k err F) (n j : Nat) (e : Int) (hrd : rdAt err (l.drop k) = (n, j, e)) (hle : n ≤ most.toNat) :
    Calls Try.prog 25 #[.pointer (some ⟨p, 0, none⟩), .int .i64 most] w fun r w' => r = .returned (.int .i64 n) ∧ Rdr w' base p l (k + j) e F ∧ Step F F w w' := by
  have hn := (rdAt_lt (fun y hy => h.bytes y (List.mem_of_mem_drop hy)) hrd).1
  obtain ⟨m, hmt, hmi, hn2⟩ : ∃ m : Nat, most.toNat = m ∧ (if most < 0 then 0 else most) = (m : Int) ∧ m < 9223372036854775808 := ⟨most.toNat, rfl, by split <;> omega, by omega⟩
  rw [hmt] at hle
  go_enter Try.func25, Try.ntmps25
  go_wp2_with fail
  refine (rd_num _ _ _ _ _ _ _ h n j e hrd).mono ?_
  rintro e1 w1 ⟨rfl, h1, s1⟩
  go_wp2
  go_ret
  exact ⟨rfl, h1, s1⟩
theorem rd_count_many (most : Int) (hm : -9223372036854775808 ≤ most ∧ most ≤ 9223372036854775807) (w : World) (base p : Nat) (l : List Int) (k : Nat) (err : Int) (F : List Nat) (h : Rdr w base p l k err F) (n j : Nat) (e : Int) (hrd : rdAt err (l.drop k) = (n, j, e)) (hle : most.toNat < n) :
    Calls Try.prog 25 #[.pointer (some ⟨p, 0, none⟩), .int .i64 most] w fun r w' => r = .returned (.int .i64 0) ∧ Rdr w' base p l (k + j) 7 F ∧ Step F F w w' := by
  obtain ⟨hn, he0⟩ := rdAt_lt (fun y hy => h.bytes y (List.mem_of_mem_drop hy)) hrd
  have he := he0 (by omega)
  subst he
  clear he0
  obtain ⟨m, hmt, hmi, hn2⟩ : ∃ m : Nat, most.toNat = m ∧ (if most < 0 then 0 else most) = (m : Int) ∧ m < 9223372036854775808 := ⟨most.toNat, rfl, by split <;> omega, by omega⟩
  rw [hmt] at hle
  go_enter Try.func25, Try.ntmps25
  go_wp2_with fail
  refine (rd_num _ _ _ _ _ _ _ h n j 0 hrd).mono ?_
  rintro e1 w1 ⟨rfl, h1, s1⟩
  go_wp2_with fail
  refine (rd_fail _ _ _ _ _ _ 7 _ h1).mono ?_
  rintro e2 w2 ⟨rfl, h2, s2⟩
  rw [errOr_zero] at h2
  go_wp2
  go_ret
  exact ⟨rfl, h2, s1.trans s2⟩
theorem rd_within (from' to : Int) (hf : -9223372036854775808 ≤ from' ∧ from' ≤ 9223372036854775807) (ht : -9223372036854775808 ≤ to ∧ to ≤ 9223372036854775807) (w : World) (base p : Nat) (l : List Int) (k : Nat) (err : Int) (F : List Nat) (h : Rdr w base p l k err F) (n j : Nat) (e : Int) (hrd : rdAt err (l.drop k) = (n, j, e)) (hle : from' ≤ unzig n ∧ unzig n ≤ to) :
    Calls Try.prog 35 #[.pointer (some ⟨p, 0, none⟩), .int .i64 from', .int .i64 to] w fun r w' => r = .returned (.int .i64 (unzig n)) ∧ Rdr w' base p l (k + j) e F ∧ Step F F w w' := by
  obtain ⟨hn, he0⟩ := rdAt_lt (fun y hy => h.bytes y (List.mem_of_mem_drop hy)) hrd
  have hd1 : decide (unzig n < from') = false := by simp; omega
  have hd2 : decide (to < unzig n) = false := by simp; omega
  go_enter Try.func35, Try.ntmps35
  go_wp2_with fail
  refine (rd_int _ _ _ _ _ _ _ h n j e hrd).mono ?_
  rintro e1 w1 ⟨rfl, h1, s1⟩
  go_wp2
  go_ret
  exact ⟨rfl, h1, s1⟩
theorem rd_within_out (from' to : Int) (hf : -9223372036854775808 ≤ from' ∧ from' ≤ 9223372036854775807) (ht : -9223372036854775808 ≤ to ∧ to ≤ 9223372036854775807) (w : World) (base p : Nat) (l : List Int) (k : Nat) (err : Int) (F : List Nat) (h : Rdr w base p l k err F) (n j : Nat) (e : Int) (hrd : rdAt err (l.drop k) = (n, j, e)) (hle : ¬ (from' ≤ unzig n ∧ unzig n ≤ to)) :
    Calls Try.prog 35 #[.pointer (some ⟨p, 0, none⟩), .int .i64 from', .int .i64 to] w fun r w' => r = .returned (.int .i64 0) ∧ Rdr w' base p l (k + j) (errOr e 2) F ∧ Step F F w w' := by
  obtain ⟨hn, he0⟩ := rdAt_lt (fun y hy => h.bytes y (List.mem_of_mem_drop hy)) hrd
  by_cases hc : unzig n < from'
  · have hd1 : decide (unzig n < from') = true := by simpa using hc
    go_enter Try.func35, Try.ntmps35
    go_wp2_with fail
    refine (rd_int _ _ _ _ _ _ _ h n j e hrd).mono ?_
    rintro e1 w1 ⟨rfl, h1, s1⟩
    go_wp2_with fail
    refine (rd_fail _ _ _ _ _ _ 2 _ h1).mono ?_
    rintro e2 w2 ⟨rfl, h2, s2⟩
    go_wp2
    go_ret
    exact ⟨rfl, h2, s1.trans s2⟩
  · have hd1 : decide (unzig n < from') = false := by simpa using hc
    have hc2 : to < unzig n := by omega
    have hd2 : decide (to < unzig n) = true := by simpa using hc2
    go_enter Try.func35, Try.ntmps35
    go_wp2_with fail
    refine (rd_int _ _ _ _ _ _ _ h n j e hrd).mono ?_
    rintro e1 w1 ⟨rfl, h1, s1⟩
    go_wp2_with fail
    refine (rd_fail _ _ _ _ _ _ 2 _ h1).mono ?_
    rintro e2 w2 ⟨rfl, h2, s2⟩
    go_wp2
    go_ret
    exact ⟨rfl, h2, s1.trans s2⟩
theorem rd_end (w : World) (base p : Nat) (l : List Int) (k : Nat) (err : Int) (F : List Nat) (h : Rdr w base p l k err F) :
    Calls Try.prog 13 #[.pointer (some ⟨p, 0, none⟩)] w fun e w' => e = .returned (.int .i64 (if err = 0 ∧ k < l.length then 15 else err)) ∧ Qt w w' := by
  have hm := h.most
  by_cases hc : err = 0 ∧ k < l.length
  · rw [if_pos hc]
    obtain ⟨rfl, hc⟩ := hc
    go_enter Try.func13, Try.ntmps13
    go_wp2_with fail
    refine (rd_left _ _ _ _ _ _ _ h).mono ?_
    rintro e w1 ⟨rfl, q1⟩
    rw [leftOf_zero]
    go_wp2
    go_ret
    exact ⟨rfl, q1⟩
  · rw [if_neg hc]
    have hl : leftOf err l.length k = 0 := by unfold leftOf; split <;> omega
    go_enter Try.func13, Try.ntmps13
    go_wp2_with fail
    refine (rd_left _ _ _ _ _ _ _ h).mono ?_
    rintro e w1 ⟨rfl, q1⟩
    rw [hl]
    go_wp2_with fail
    refine (rd_err _ _ _ _ _ _ _ (h.qt q1)).mono ?_
    rintro e w2 ⟨rfl, rfl⟩
    go_wp2
    go_ret
    exact ⟨rfl, q1⟩
end Go.Proofs.Ytkdonkebnnjkkaa
