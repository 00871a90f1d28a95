/-
  DERIVED. THE WALKS of layer 4 (wire): Bytes that aren't there; nil Readers.
-/
import Derived.Test.YtgmjfmmandbekaaWireRdr5
namespace Go.Proofs.Ytgmjfmmandbekaa
open Go.RowKit
set_option linter.unusedVariables false

theorem rd_bytes_err (n : Int) (w : World) (base p : Nat) (l : List Int) (k : Nat) (err : Int) (F : List Nat) (h : Rdr w base p l k err F) (he : err ≠ 0) :
    Calls Try.prog 19 #[.pointer (some ⟨p, 0, none⟩), .int .i64 n] w fun e w' => e = .returned (.slice none 0 0) ∧ w = w' := by
  go_enter Try.func19, Try.ntmps19
  go_wp2_with fail
  refine (rd_err _ _ _ _ _ _ _ h).mono ?_
  rintro e w1 ⟨rfl, rfl⟩
  go_wp2
  go_ret
  exact ⟨rfl, rfl⟩
set_option maxRecDepth 100000 in
theorem rd_bytes_short (n : Int) (hn : -9223372036854775808 ≤ n ∧ n ≤ 9223372036854775807) (w : World) (base p : Nat) (l : List Int) (k : Nat) (F : List Nat) (h : Rdr w base p l k 0 F) (hs : n < 0 ∨ (l.length : Int) < k + n) :
    Calls Try.prog 19 #[.pointer (some ⟨p, 0, none⟩), .int .i64 n] w fun e w' => e = .returned (.slice none 0 0) ∧ Rdr w' base p l k 3 F ∧ Step F F w w' := by
  have hm := h.most
  by_cases hneg : n < 0
  · have hd : decide (n < 0) = true := by simpa using hneg
    go_enter Try.func19, Try.ntmps19
    go_wp2_with fail
    refine (rd_err _ _ _ _ _ _ _ h).mono ?_
    rintro e w1 ⟨rfl, rfl⟩
    go_wp2_with fail
    refine (rd_fail _ _ _ _ _ _ 3 _ h).mono ?_
    rintro e w1 ⟨rfl, h1, s1⟩
    rw [errOr_zero] at h1
    go_wp2
    go_ret
    exact ⟨rfl, h1, s1⟩
  · have hd : decide (n < 0) = false := by simpa using hneg
    go_enter Try.func19, Try.ntmps19
    go_wp2_with fail
    refine (rd_err _ _ _ _ _ _ _ h).mono ?_
    rintro e w1 ⟨rfl, rfl⟩
    go_wp2_with fail
    refine (rd_left _ _ _ _ _ _ _ h).mono ?_
    rintro e w1 ⟨rfl, q1⟩
    rw [leftOf_zero]
    have h1 := h.qt q1
    have s1 : Step F F w w1 := Step.qt q1
    go_wp2_with fail
    refine (rd_fail _ _ _ _ _ _ 3 _ h1).mono ?_
    rintro e w2 ⟨rfl, h2, s2⟩
    rw [errOr_zero] at h2
    go_wp2
    go_ret
    exact ⟨rfl, h2, s1.trans s2⟩
theorem rd_nil_Err (w : World) : Calls Try.prog 23 #[.pointer none] w fun e w' => e = .returned (.int .i64 1) ∧ w = w' := by
  go_enter Try.func23, Try.ntmps23
  go_wp2
  go_ret
  exact ⟨rfl, rfl⟩
theorem rd_nil_At (w : World) : Calls Try.prog 21 #[.pointer none] w fun e w' => e = .returned (.int .i64 0) ∧ w = w' := by
  go_enter Try.func21, Try.ntmps21
  go_wp2
  go_ret
  exact ⟨rfl, rfl⟩
theorem rd_nil_Fail (n : Int) (w : World) : Calls Try.prog 26 #[.pointer none, .int .i64 n] w fun e w' => e = .returned (.tuple #[]) ∧ w = w' := by
  go_enter Try.func26, Try.ntmps26
  go_wp2
  exact bodyPost_ret (v := .tuple #[]) (by simp [results, Try.results26]) rfl ⟨rfl, rfl⟩
theorem rd_nil_Left (w : World) : Calls Try.prog 25 #[.pointer none] w fun e w' => e = .returned (.int .i64 0) ∧ w = w' := by
  go_enter Try.func25, Try.ntmps25
  go_wp2_with fail
  refine (rd_nil_Err _).mono ?_
  rintro e w1 ⟨rfl, rfl⟩
  go_wp2
  go_ret
  exact ⟨rfl, rfl⟩
theorem rd_nil_End (w : World) : Calls Try.prog 22 #[.pointer none] w fun e w' => e = .returned (.int .i64 1) ∧ w = w' := by
  go_enter Try.func22, Try.ntmps22
  go_wp2_with fail
  refine (rd_nil_Left _).mono ?_
  rintro e w1 ⟨rfl, rfl⟩
  go_wp2_with fail
  refine (rd_nil_Err _).mono ?_
  rintro e w1 ⟨rfl, rfl⟩
  go_wp2
  go_ret
  exact ⟨rfl, rfl⟩
theorem rd_nil_Byte (w : World) : Calls Try.prog 20 #[.pointer none] w fun e w' => e = .returned (.int .u8 0) ∧ w = w' := by
  go_enter Try.func20, Try.ntmps20
  go_wp2_with fail
  refine (rd_nil_Left _).mono ?_
  rintro e w1 ⟨rfl, rfl⟩
  go_wp2_with fail
  refine (rd_nil_Fail 3 _).mono ?_
  rintro e w1 ⟨rfl, rfl⟩
  go_wp2
  go_ret
  exact ⟨rfl, rfl⟩
theorem rd_nil_Bytes (n : Int) (w : World) : Calls Try.prog 19 #[.pointer none, .int .i64 n] w fun e w' => e = .returned (.slice none 0 0) ∧ w = w' := by
  go_enter Try.func19, Try.ntmps19
  go_wp2_with fail
  refine (rd_nil_Err _).mono ?_
  rintro e w1 ⟨rfl, rfl⟩
  go_wp2
  go_ret
  exact ⟨rfl, rfl⟩
theorem rd_nil_number (w : World) : Calls Try.prog 36 #[.pointer none] w fun e w' => e = .returned (.int .u64 0) ∧ w = w' := by
  go_enter Try.func36, Try.ntmps36
  go_wp2_with fail
  refine (rd_nil_At _).mono ?_
  rintro e w1 ⟨rfl, rfl⟩
  go_wp2
  go_loopg [] 0 (fun gk wr => w = wr)
  case atStart => rfl
  case round =>
    subst hrel
    go_wp2_with fail
    refine (rd_nil_Byte _).mono ?_
    rintro e1 w2 ⟨rfl, rfl⟩
    go_wp2_with fail
    refine (rd_nil_Err _).mono ?_
    rintro e2 w3 ⟨rfl, rfl⟩
    go_wp2
    go_ret
    exact ⟨rfl, rfl⟩
theorem rd_nil_Int (w : World) : Calls Try.prog 17 #[.pointer none] w fun e w' => e = .returned (.int .i64 0) ∧ w = w' := by
  go_enter Try.func17, Try.ntmps17
  go_wp2_with fail
  refine (rd_nil_number _).mono ?_
  rintro e1 w1 ⟨rfl, rfl⟩
  go_wp2_with fail
  refine (unfolded_any 0 (by omega) _).mono ?_
  rintro e2 w2 ⟨rfl, rfl⟩
  go_wp2
  go_ret
  exact ⟨rfl, rfl⟩
end Go.Proofs.Ytgmjfmmandbekaa
