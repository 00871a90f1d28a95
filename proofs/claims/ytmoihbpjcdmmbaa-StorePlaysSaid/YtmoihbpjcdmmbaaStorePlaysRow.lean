/-
  DERIVED. The law StorePlays, whatever the lengths.
-/
import Derived.Test.YtmoihbpjcdmmbaaStorePlaysLaw
namespace Go.Proofs.Ytmoihbpjcdmmbaa
open Go.RowKit Go.Maps
set_option linter.unusedVariables false

set_option maxRecDepth 100000 in
set_option maxHeartbeats 4000000 in
theorem storePlays_row {w : World} (room : Int) (v1 : Value) (fu : List Int) (v2 : Value) (fa : List Int) (v3 : Value) (bs : List (Int × Nat)) (v4 : Value) (acs : List ActD) (hr : 0 ≤ room ∧ room ≤ 255) (h1 : Arr w .u8 v1 fu) (h2 : Arr w .u8 v2 fa) (h3 : BArr w v3 bs) (h4 : AArr w v4 acs) :
    Calls Try.prog 3 #[.int .u8 room, v1, v2, v3, v4] w fun e w' => e = .returned (.bool true) ∧ Ext w w' := by
  obtain ⟨r, rfl⟩ : ∃ r : Nat, room = r := ⟨room.toNat, by omega⟩
  have m1 := h1.most
  have m2 := h2.most
  have m3 := h3.most
  have m4 := h4.most
  unfold maxLen at m1 m2 m3 m4
  have hmain := fun l1 l2 l3 l4 => storePlays_main r (by omega) v1 fu v2 fa v3 bs v4 acs h1 h2 h3 h4 l1 l2 l3 l4
  obtain ⟨⟨a1, c1, rfl, -, -, -⟩, -, -⟩ := h1
  obtain ⟨⟨a2, c2, rfl, -, -, -⟩, -, -⟩ := h2
  obtain ⟨⟨a3, c3, rfl, -⟩, -, -⟩ := h3
  obtain ⟨⟨a4, c4, rfl, -⟩, -, -⟩ := h4
  by_cases l1 : fu.length ≤ 20
  · by_cases l2 : fa.length ≤ 20
    · by_cases l3 : bs.length ≤ 20
      · by_cases l4 : acs.length ≤ 60
        · exact hmain l1 l2 l3 l4
        · clear hmain
          have i4 : (60 : Int) < (acs.length : Int) := by omega
          have i1 : ¬ (20 : Int) < (fu.length : Int) := by omega
          have i2 : ¬ (20 : Int) < (fa.length : Int) := by omega
          have i3 : ¬ (20 : Int) < (bs.length : Int) := by omega
          clear l1
          clear l2
          clear l3
          clear l4
          go_enter Try.func3, Try.ntmps3
          go_wp2_with fail
          refine (awake6_any _).mono ?_
          rintro e w1 ⟨rfl, e1⟩
          go_wp2
          go_ret
          exact ⟨rfl, e1⟩
      · clear hmain
        have i3 : (20 : Int) < (bs.length : Int) := by omega
        have i1 : ¬ (20 : Int) < (fu.length : Int) := by omega
        have i2 : ¬ (20 : Int) < (fa.length : Int) := by omega
        clear l1
        clear l2
        clear l3
        go_enter Try.func3, Try.ntmps3
        go_wp2_with fail
        refine (awake6_any _).mono ?_
        rintro e w1 ⟨rfl, e1⟩
        go_wp2
        go_ret
        exact ⟨rfl, e1⟩
    · clear hmain
      have i2 : (20 : Int) < (fa.length : Int) := by omega
      have i1 : ¬ (20 : Int) < (fu.length : Int) := by omega
      clear l1
      clear l2
      go_enter Try.func3, Try.ntmps3
      go_wp2_with fail
      refine (awake6_any _).mono ?_
      rintro e w1 ⟨rfl, e1⟩
      go_wp2
      go_ret
      exact ⟨rfl, e1⟩
  · clear hmain
    have i1 : (20 : Int) < (fu.length : Int) := by omega
    clear l1
    go_enter Try.func3, Try.ntmps3
    go_wp2_with fail
    refine (awake6_any _).mono ?_
    rintro e w1 ⟨rfl, e1⟩
    go_wp2
    go_ret
    exact ⟨rfl, e1⟩
end Go.Proofs.Ytmoihbpjcdmmbaa
