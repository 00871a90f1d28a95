/-
  DERIVED. THE WALKS of layer 1 (fix) and of the document's own answers to it: what each call returns, over every world; nothing but draws happens to the world.
-/
import Derived.Test.YtjohcngmoemmbaaRows
import Derived.Test.YtjohcngmoemmbaaFixPlain
import Derived.WalkKit
import Derived.WalkSpells
import Derived.WalkLawsBesides
import Derived.Deep.QuietTactic
import Derived.BigQuiet
import Derived.Lib.Hide
namespace Go.Proofs.Ytjohcngmoemmbaa
open Go.RowKit
set_option linter.unusedVariables false

/-- the world has been asked for some orders, and nothing else has become of it -/
def Qt (w w' : World) : Prop := ∃ n : Nat, w' = w.drewN n
theorem Qt.refl (w : World) : Qt w w := ⟨0, rfl⟩

theorem ret_int {k : IntKind} {a b : Int} (h : a = b) : Ending.returned (.int k a) = .returned (.int k b) := by rw [h]

set_option maxHeartbeats 400000 in
theorem within_any (a b : Int) (w : World) (h1 : -9223372036854775808 ≤ a) (h2 : a ≤ 9223372036854775807) (h3 : -9223372036854775807 ≤ b) (h4 : b ≤ 9223372036854775807) :
    Calls Try.prog 23 #[.int .i64 a, .int .i64 b] w fun e w' => e = .returned (.int .i64 (withinZ a b)) ∧ w = w' := by
  go_enter Try.func23, Try.ntmps23
  go_wp2
  all_goals (go_ret; exact ⟨ret_int (by unfold withinZ; omega), rfl⟩)

set_option maxHeartbeats 400000 in
theorem clamp_any (a : Int) (w : World) (h1 : -9223372036854775808 ≤ a) (h2 : a ≤ 9223372036854775807) :
    Calls Try.prog 35 #[.int .i64 a] w fun e w' => e = .returned (.int .i64 (clampZ a)) ∧ w = w' := by
  go_enter Try.func35, Try.ntmps35
  go_wp2_with fail
  with_reducible refine (within_any _ _ _ (by omega) (by omega) (by omega) (by omega)).mono ?_
  rintro e w' ⟨rfl, rfl⟩
  go_wp2
  go_ret
  exact ⟨ret_int (withinZ_max a), rfl⟩

set_option maxHeartbeats 400000 in
theorem floor_any (a b : Int) (w : World) (h1 : -4611686018427387904 ≤ a) (h2 : a ≤ 4611686018427387904) (h3 : -4611686018427387904 ≤ b) (h4 : b ≤ 4611686018427387904) :
    Calls Try.prog 29 #[.int .i64 a, .int .i64 b] w fun e w' => e = .returned (.int .i64 (flr a b)) ∧ Qt w w' := by
  by_cases hb : b = 0
  · subst hb
    go_enter Try.func29, Try.ntmps29
    go_wp2
    go_ret
    exact ⟨ret_int (flr_zero a).symm, Qt.refl _⟩
  · have hbq : (b == 0) = false := by simpa using hb
    obtain ⟨q1, q2⟩ := tdiv_bd a b (M := 4611686018427387904) h1 h2
    obtain ⟨r1, r2⟩ := tmod_bd a b (M := 4611686018427387904) h1 h2
    have HF := Lib.hid (flr_of_tdiv a b hb)
    go_enter Try.func29, Try.ntmps29
    go_wp2
    go_quiet (fail)
    go_wp2
    all_goals
      go_ret
      refine ⟨ret_int ?_, _, rfl⟩
      rw [HF.out]; clear HF h1 h2 h3 h4 q1 q2 r1 r2
      by_cases c1 : a.tmod b < 0 <;> by_cases c2 : b < 0 <;> simp_all <;> omega

theorem Qt.trans {a b c : World} (h1 : Qt a b) (h2 : Qt b c) : Qt a c := by
  obtain ⟨n, rfl⟩ := h1
  obtain ⟨m, rfl⟩ := h2
  exact ⟨n + m, by simp [World.drewN, Nat.add_assoc]⟩

set_option maxHeartbeats 400000 in
theorem rfloor_pos (a b : Int) (w : World) (h1 : -4611686018427387904 ≤ a) (h2 : a ≤ 4611686018427387904) (h3 : 0 < b) (h4 : b ≤ 4611686018427387904) :
    Calls Try.prog 26 #[.int .i64 a, .int .i64 b] w fun e w' => e = .returned (.int .i64 (flr a b)) ∧ w = w' := by
  have HF := Lib.hid (flr_pos a h3)
  have HU := Lib.hid (flr_up a h3)
  have d1 : (b - 1 - a) / b ≤ 9223372036854775807 := by
    by_cases h : 0 ≤ b - 1 - a
    · have := Int.ediv_le_self b h; omega
    · have := Int.ediv_neg_of_neg_of_pos (a := b - 1 - a) (b := b) (by omega) h3; omega
  by_cases ha : 0 ≤ a
  · go_enter Try.func26, Try.ntmps26
    go_wp2
    go_ret
    exact ⟨ret_int HF.out.symm, rfl⟩
  · have d2 : 0 ≤ (b - 1 - a) / b := Int.ediv_nonneg (by omega) (by omega)
    go_enter Try.func26, Try.ntmps26
    go_wp2
    go_ret
    exact ⟨ret_int (HU.out.trans HF.out.symm), rfl⟩

set_option maxHeartbeats 400000 in
theorem rfloor_any (a b : Int) (w : World) (h1 : -4611686018427387904 ≤ a) (h2 : a ≤ 4611686018427387904) (h3 : -4611686018427387904 ≤ b) (h4 : b ≤ 4611686018427387904) :
    Calls Try.prog 26 #[.int .i64 a, .int .i64 b] w fun e w' => e = .returned (.int .i64 (flr a b)) ∧ w = w' := by
  by_cases hp : 0 < b
  · exact rfloor_pos a b w h1 h2 hp h4
  · by_cases hb : b = 0
    · subst hb
      go_enter Try.func26, Try.ntmps26
      go_wp2
      go_ret
      exact ⟨ret_int (flr_zero a).symm, rfl⟩
    · have hbq : (b == 0) = false := by simpa using hb
      have hlt : b < 0 := by omega
      go_enter Try.func26, Try.ntmps26
      go_wp2_with fail
      with_reducible refine (rfloor_pos _ _ _ (by omega) (by omega) (by omega) (by omega)).mono ?_
      rintro e w' ⟨rfl, rfl⟩
      go_wp2
      go_ret
      exact ⟨ret_int (by unfold flr; rw [Int.neg_fdiv_neg]), rfl⟩

def addZ (a b : Int) : Int := clampZ (clampZ a + clampZ b)
def subZ (a b : Int) : Int := clampZ (clampZ a - clampZ b)
def mulZ (a b : Int) : Int := clampZ (flr (clampZ a * clampZ b) 65536)
def limZ (a : Int) : Int := if 0 < a then 2147483647 else if a < 0 then -2147483647 else 0
def divZ (a b : Int) : Int := if b = 0 then limZ a else clampZ (flr (65536 * clampZ a) (clampZ b))

theorem clampZ_clampZ (a : Int) : clampZ (clampZ a) = clampZ a := clampZ_id (clampZ_bd a).1 (clampZ_bd a).2
theorem mulZ_clamp (a b : Int) : mulZ (clampZ a) (clampZ b) = mulZ a b := by unfold mulZ; rw [clampZ_clampZ, clampZ_clampZ]

end Go.Proofs.Ytjohcngmoemmbaa
