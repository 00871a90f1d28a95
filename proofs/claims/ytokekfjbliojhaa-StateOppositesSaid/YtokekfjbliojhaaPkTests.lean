/-
  DERIVED. THE WALK of StateTests. · THE WALK of StateOpposites.
-/
import Derived.Test.YtokekfjbliojhaaPkTake
namespace Go.Proofs.Ytokekfjbliojhaa
open Go.RowKit
set_option linter.unusedVariables false
theorem holdsB_same (f b c : Int) : holdsB f b b = holdsB f c c := by simp [holdsB]
theorem doI_bd {o n r : Int} (hn : 0 ≤ n ∧ n ≤ 255) (hr : 0 ≤ r ∧ r ≤ 255) : 0 ≤ doI o n r ∧ doI o n r ≤ 255 := by
  unfold doI
  repeat' split
  all_goals omega
set_option maxRecDepth 100000 in
set_option maxHeartbeats 1000000 in
theorem stateTests_row {w : World} (f o n r a b c : Int) (hf : 0 ≤ f ∧ f ≤ 255) (ho : 0 ≤ o ∧ o ≤ 255) (hn : 0 ≤ n ∧ n ≤ 255) (hr : 0 ≤ r ∧ r ≤ 255) (ha : -9223372036854775808 ≤ a ∧ a ≤ 9223372036854775807) (hb : -9223372036854775808 ≤ b ∧ b ≤ 9223372036854775807) (hc : 0 ≤ c ∧ c ≤ 255) :
    Calls Try.prog 3 #[.int .u8 f, .int .u8 o, .int .u8 n, .int .u8 r, .int .i64 a, .int .i64 b, .int .u8 c] w fun e w' => e = .returned (.bool true) ∧ Ext w w' := by
  obtain ⟨g, hg, hgb⟩ : ∃ g, f % 8 = g ∧ 0 ≤ g ∧ g ≤ 255 := ⟨f % 8, rfl, by omega⟩
  obtain ⟨q, hq, hqb⟩ : ∃ q, o % 6 = q ∧ 0 ≤ q ∧ q ≤ 255 := ⟨o % 6, rfl, by omega⟩
  have hdo := doI_bd (o := q) hn hr
  go_enter Try.func3, Try.ntmps3
  go_wp2_with fail
  refine (awake9_any _).mono ?_
  rintro e w1 ⟨rfl, x1⟩
  go_wp2_with fail
  refine (holds_any g a b hgb _).mono ?_
  rintro e w2 ⟨rfl, rfl⟩
  go_wp2_with fail
  refine (rholds_any g a b hgb _).mono ?_
  rintro e w2 ⟨rfl, rfl⟩
  go_wp2_with fail
  refine (holds_any g n c hgb _).mono ?_
  rintro e w2 ⟨rfl, rfl⟩
  go_wp2_with fail
  refine (rholds_any g n c hgb _).mono ?_
  rintro e w2 ⟨rfl, rfl⟩
  go_wp2_with fail
  refine (holds_any g b b hgb _).mono ?_
  rintro e w2 ⟨rfl, rfl⟩
  rw [holdsB_same g b 1]
  go_wp2_with fail
  refine (rholds_any g 1 1 hgb _).mono ?_
  rintro e w2 ⟨rfl, rfl⟩
  go_wp2_with fail
  refine (do_any q n r hqb hn hr _).mono ?_
  rintro e w2 ⟨rfl, rfl⟩
  go_wp2_with fail
  refine (rdo_any q n r hqb hn hr _).mono ?_
  rintro e w2 ⟨rfl, rfl⟩
  go_wp2
  go_ret
  exact ⟨rfl, x1⟩
end Go.Proofs.Ytokekfjbliojhaa

namespace Go.Proofs.Ytokekfjbliojhaa
open Go.RowKit
set_option linter.unusedVariables false
def turned8 (f : Int) : Int := f / 2 % 2 * 2 + f % 2 * 4 + f / 4 % 2
theorem turned_tab : ∀ n : Fin 256, (n.val &&& 2) ||| ((n.val &&& 1) * 4) ||| (n.val / 4 &&& 1) = n.val / 2 % 2 * 2 + n.val % 2 * 4 + n.val / 4 % 2 := by decide +kernel
theorem holds_opp (f a b : Int) (h : 0 ≤ f ∧ f ≤ 255) : (holdsB (f % 8) a b != holdsB (7 - f % 8) a b) = true := by
  unfold holdsB
  have h1 : (f % 8 % 2 != 0) = !((7 - f % 8) % 2 != 0) := by
    rcases mod2 (f % 8) with h | h
    · rw [h, show (7 - f % 8) % 2 = 1 by omega]; rfl
    · rw [h, show (7 - f % 8) % 2 = 0 by omega]; rfl
  have h2 : (f % 8 / 2 % 2 != 0) = !((7 - f % 8) / 2 % 2 != 0) := by
    rcases mod2 (f % 8 / 2) with h | h
    · rw [h, show (7 - f % 8) / 2 % 2 = 1 by omega]; rfl
    · rw [h, show (7 - f % 8) / 2 % 2 = 0 by omega]; rfl
  have h4 : (f % 8 / 4 % 2 != 0) = !((7 - f % 8) / 4 % 2 != 0) := by
    rcases mod2 (f % 8 / 4) with h | h
    · rw [h, show (7 - f % 8) / 4 % 2 = 1 by omega]; rfl
    · rw [h, show (7 - f % 8) / 4 % 2 = 0 by omega]; rfl
  split
  · rw [h1]; cases (7 - f % 8) % 2 != 0 <;> rfl
  · split
    · rw [h2]; cases (7 - f % 8) / 2 % 2 != 0 <;> rfl
    · rw [h4]; cases (7 - f % 8) / 4 % 2 != 0 <;> rfl
theorem bits3 (f : Int) (h : 0 ≤ f ∧ f ≤ 255) : ∃ p0 p1 p2 : Int, (p0 = 0 ∨ p0 = 1) ∧ (p1 = 0 ∨ p1 = 1) ∧ (p2 = 0 ∨ p2 = 1) ∧ f % 2 = p0 ∧ f / 2 % 2 = p1 ∧ f / 4 % 2 = p2 ∧ f % 8 = p0 + 2 * p1 + 4 * p2 :=
  ⟨f % 2, f / 2 % 2, f / 4 % 2, mod2 _, mod2 _, mod2 _, rfl, rfl, rfl, by omega⟩
theorem holds_turn (f a b : Int) (h : 0 ≤ f ∧ f ≤ 255) : holdsB (turned8 f) b a = holdsB (f % 8) a b := by
  obtain ⟨p0, p1, p2, h0, h1, h2, e0, e1, e2, e3⟩ := bits3 f h
  unfold holdsB turned8
  rw [e0, e1, e2, e3]
  rcases Int.lt_trichotomy a b with hl | rfl | hl
  · rw [if_neg (by omega), if_neg (by omega), if_pos hl]
    rcases h0 with rfl | rfl <;> rcases h1 with rfl | rfl <;> rcases h2 with rfl | rfl <;> rfl
  · rw [if_neg (by omega), if_pos rfl, if_neg (by omega), if_pos rfl]
    rcases h0 with rfl | rfl <;> rcases h1 with rfl | rfl <;> rcases h2 with rfl | rfl <;> rfl
  · rw [if_pos hl, if_neg (by omega), if_neg (by omega)]
    rcases h0 with rfl | rfl <;> rcases h1 with rfl | rfl <;> rcases h2 with rfl | rfl <;> rfl
theorem turned_eq (f : Int) (h : 0 ≤ f ∧ f ≤ 255) : bits .or .u8 (bits .or .u8 (bits .and .u8 f 2) (bits .and .u8 f 1 * 4 % 256)) (bits .and .u8 (f / 4) 1) = turned8 f := by
  obtain ⟨p0, p1, p2, h0, h1, h2, e0, e1, e2, e3⟩ := bits3 f h
  rw [and1 h, and2 h, and1 (f := f / 4) (by omega)]
  unfold turned8
  rw [e0, e1, e2]
  rcases h0 with rfl | rfl <;> rcases h1 with rfl | rfl <;> rcases h2 with rfl | rfl <;> decide +kernel
theorem turned_bd (f : Int) : 0 ≤ turned8 f ∧ turned8 f ≤ 255 := by
  unfold turned8
  omega
set_option maxRecDepth 100000 in
set_option maxHeartbeats 1000000 in
theorem stateOpposites_row {w : World} (f a b n r : Int) (hf : 0 ≤ f ∧ f ≤ 255) (ha : -9223372036854775808 ≤ a ∧ a ≤ 9223372036854775807) (hb : -9223372036854775808 ≤ b ∧ b ≤ 9223372036854775807) (hn : 0 ≤ n ∧ n ≤ 255) (hr : 0 ≤ r ∧ r ≤ 255) :
    Calls Try.prog 6 #[.int .u8 f, .int .i64 a, .int .i64 b, .int .u8 n, .int .u8 r] w fun e w' => e = .returned (.bool true) ∧ Ext w w' := by
  have hop := holds_opp f a b hf
  have htu := holds_turn f a b hf
  have hT := turned_eq f hf
  have hTb := turned_bd f
  generalize turned8 f = t at *
  generalize hg1 : f % 8 = g at *
  have hgb : 0 ≤ g ∧ g ≤ 255 := by omega
  obtain ⟨g2, hg2, hg2b⟩ : ∃ g2, 7 - g = g2 ∧ 0 ≤ g2 ∧ g2 ≤ 255 := ⟨7 - g, rfl, by omega⟩
  rw [hg2] at hop
  generalize hH1 : holdsB g a b = h1 at *
  generalize hH2 : holdsB g2 a b = h2 at *
  have K1 := Lib.hid hH1
  have K2 := Lib.hid hH2
  have K3 := Lib.hid htu
  have d7 : holdsB 7 a b = true := by unfold holdsB; split; · rfl
                                      · split <;> rfl
  have d0 : holdsB 0 a b = false := by unfold holdsB; split; · rfl
                                       · split <;> rfl
  have i1 : doI 5 n r = 255 - n := rfl
  have i2 : doI 5 (255 - n) r = n := by show 255 - (255 - n) = n; omega
  have i3 : doI 0 n r = n := rfl
  have i4 : doI 2 n r = r := rfl
  have i5 : doI 1 n r = 0 := rfl
  clear hH1 hH2 htu
  cases h1 <;> cases h2 <;> first | (exact absurd hop (by decide)) | skip
  all_goals
    clear hop
    go_enter Try.func6, Try.ntmps6
    go_wp2_with fail
    refine (awake9_any _).mono ?_
    rintro e w1 ⟨rfl, x1⟩
    go_wp2_with fail
    refine (holds_any g a b hgb _).mono ?_
    rintro e w2 ⟨rfl, rfl⟩
    rw [K1.out]
    go_wp2_with fail
    refine (holds_any g2 a b hg2b _).mono ?_
    rintro e w2 ⟨rfl, rfl⟩
    rw [K2.out]
    go_wp2_with fail
    refine (holds_any g a b hgb _).mono ?_
    rintro e w2 ⟨rfl, rfl⟩
    rw [K1.out]
    go_wp2_with fail
    refine (holds_any t b a hTb _).mono ?_
    rintro e w2 ⟨rfl, rfl⟩
    rw [K3.out]
    go_wp2_with fail
    refine (holds_any 7 a b (by omega) _).mono ?_
    rintro e w2 ⟨rfl, rfl⟩
    rw [d7]
    go_wp2_with fail
    refine (holds_any 0 a b (by omega) _).mono ?_
    rintro e w2 ⟨rfl, rfl⟩
    rw [d0]
    go_wp2_with fail
    refine (do_any 5 n r (by omega) hn hr _).mono ?_
    rintro e w2 ⟨rfl, rfl⟩
    rw [i1]
    go_wp2_with fail
    refine (do_any 5 (255 - n) r (by omega) (by omega) hr _).mono ?_
    rintro e w2 ⟨rfl, rfl⟩
    rw [i2]
    go_wp2_with fail
    refine (do_any 0 n r (by omega) hn hr _).mono ?_
    rintro e w2 ⟨rfl, rfl⟩
    rw [i3]
    go_wp2_with fail
    refine (do_any 2 n r (by omega) hn hr _).mono ?_
    rintro e w2 ⟨rfl, rfl⟩
    rw [i4]
    go_wp2_with fail
    refine (do_any 1 n r (by omega) hn hr _).mono ?_
    rintro e w2 ⟨rfl, rfl⟩
    rw [i5]
    go_wp2
    go_ret
    exact ⟨rfl, x1⟩
end Go.Proofs.Ytokekfjbliojhaa

