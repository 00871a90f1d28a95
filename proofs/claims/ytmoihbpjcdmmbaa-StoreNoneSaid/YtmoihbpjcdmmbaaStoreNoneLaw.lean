/-
  DERIVED. THE WALK of StoreNone.
-/
import Derived.Test.YtmoihbpjcdmmbaaStoreAwake
namespace Go.Proofs.Ytmoihbpjcdmmbaa
open Go.RowKit Go.Maps
set_option linter.unusedVariables false

set_option maxRecDepth 100000 in
set_option maxHeartbeats 4000000 in
theorem storeNone_row {w : World} (room n : Int) (v0 : Value) (l : List Int) (hr : -9223372036854775808 ≤ room ∧ room ≤ 9223372036854775807) (hn : -9223372036854775808 ≤ n ∧ n ≤ 9223372036854775807) (h0 : Arr w .u8 v0 l) :
    Calls Try.prog 5 #[.int .i64 room, .int .i64 n, v0] w fun e w' => e = .returned (.bool true) ∧ Ext w w' := by
  have hnw := wfi hn
  have hmx := maxI_fold
  have hmn := minI_fold
  obtain ⟨⟨ao, c, rfl, -, -, -⟩, -, -⟩ := h0
  go_enter Try.func5, Try.ntmps5
  go_wp2_with fail
  refine (awake6_any _).mono ?_
  rintro e w1 ⟨rfl, e1⟩
  go_wp2_with fail
  refine (none_Put _ _).mono ?_
  rintro e w2 ⟨rfl, rfl⟩
  go_wp2_with fail
  refine (none_Take _ _).mono ?_
  rintro e w2 ⟨rfl, rfl⟩
  go_wp2_with fail
  refine (new_none _ room hr).mono ?_
  rintro e w2 ⟨bd, F, R, rfl, D2, e2, -, -⟩
  have hrm : minI (maxI room 0) 4096 = (((min (max room 0) 4096).toNat : Nat) : Int) := by rw [maxI_eq, minI_eq]; omega
  generalize (min (max room 0) 4096).toNat = rm at *
  go_wp2_with fail
  refine (dev_Take_none _ F R bd _ D2 n hnw rfl).mono ?_
  rintro e w3 ⟨rfl, rfl⟩
  go_wp2_with fail
  refine (none_Drop _ _).mono ?_
  rintro e w3 ⟨rfl, rfl⟩
  go_wp2_with fail
  refine (none_Used _).mono ?_
  rintro e w3 ⟨rfl, rfl⟩
  go_wp2_with fail
  refine (none_Most _).mono ?_
  rintro e w3 ⟨rfl, rfl⟩
  go_wp2_with fail
  refine (none_Room _).mono ?_
  rintro e w3 ⟨rfl, rfl⟩
  go_wp2_with fail
  refine (dev_Room _ F R bd _ D2).mono ?_
  rintro e w3 ⟨rfl, rfl⟩
  rw [show (D0 rm).room = rm from rfl]
  go_wp2_with fail
  refine (dev_Drop_none _ F R bd _ D2 n hnw rfl).mono ?_
  rintro e w3 ⟨rfl, rfl⟩
  go_wp2
  go_ret
  exact ⟨rfl, e1.trans e2⟩
end Go.Proofs.Ytmoihbpjcdmmbaa
