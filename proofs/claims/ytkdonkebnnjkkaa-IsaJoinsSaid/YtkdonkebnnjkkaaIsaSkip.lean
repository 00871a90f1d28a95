/-
  DERIVED. THE WALKS of layer 7 (isa): skipHolds, checkFuel.
-/
import Derived.Test.YtkdonkebnnjkkaaIsaAround
namespace Go.Proofs.Ytkdonkebnnjkkaa
open Go.RowKit
set_option linter.unusedVariables false
set_option maxRecDepth 100000 in
theorem skipHolds_any (w : World) (base : Nat) (v : Value) (xs : List In) (h : OwnP w base v xs) (hok : ∀ x ∈ xs, x.ok) (hl : xs.length ≤ 1000000) (k : Nat) (x : In) (hx : xs[k]? = some x) : Calls Try.prog 38 #[v, .int .i64 k] w fun e w' => e = .returned (.bool (skipH xs k x)) ∧ Qt w w' := by
  have hlI : (xs.length : Int) ≤ 1000000 := by omega
  have hk : k < xs.length := (List.getElem?_eq_some_iff.1 hx).1
  have hkI : (k : Int) < (xs.length : Int) := by omega
  have hb := (hok x (List.mem_of_getElem? hx)).2.2.2.2
  obtain ⟨ao, c, rfl, -, -⟩ := h.slice
  have h' := h
  obtain ⟨g, y, rfl, -, hy, c0, c1, c2, c3, c4⟩ := h.nth k hk
  rw [hx] at hy
  cases hy
  have HX := Lib.hid hx
  clear hx h
  by_cases h1 : x.imm < 1
  · have hL : skipH xs k x = false := by simp [skipH, h1]
    go_enter Try.func38, Try.ntmps38
    go_wp2
    go_ret
    exact ⟨by first | rfl | (rw [hL]; rfl), Qt.refl _⟩
  · have h1d : decide (x.imm < 1) = false := by simpa using h1
    by_cases h2 : (xs.length : Int) < k + 1 + x.imm
    · have hL : skipH xs k x = false := by simp [skipH, h1, h2]
      go_enter Try.func38, Try.ntmps38
      go_wp2
      go_ret
      exact ⟨by first | rfl | (rw [hL]; rfl), Qt.refl _⟩
    · have h2d : decide ((xs.length : Int) < k + 1 + x.imm) = false := by simpa using h2
      have hL : skipH xs k x = (!(overB xs (around xs k) (k + 1 + x.imm)) && (decide (around xs (k + 1 + x.imm) = -1) || decide (around xs (k + 1 + x.imm) = around xs k))) := by simp [skipH, h1, h2]
      have HL := Lib.hid hL
      clear hL
      obtain ⟨r, hr0⟩ : ∃ r, around xs (k + 1 + x.imm) = r := ⟨_, rfl⟩
      rw [hr0] at HL
      have HR := Lib.hid hr0
      clear hr0
      rcases around_cases xs k with ⟨e0, _⟩ | ⟨n, z, e0, hz, hzb, _⟩
      · have ho : overB xs (-1) (k + 1 + x.imm) = false := by unfold overB; rw [bodyEnd_out (.inl (by omega))]
        have hE : skipH xs k x = decide (r = -1) := by rw [HL.out, e0, ho]; simp
        rw [hE]
        have E0 := Lib.hid e0
        clear e0 hE HL ho
        cases hr : decide (r = -1)
        · have hrd : (r == -1) = false := by simpa using hr
          go_enter Try.func38, Try.ntmps38
          go_wp2_with fail
          refine (around_any _ base _ xs h' hok hl k).mono ?_
          rintro e w1 ⟨rfl, q1⟩
          rw [E0.out]
          go_wp2_with fail
          refine (body_no _ base _ xs (h'.qt q1) hok hl (-1) (by omega) (bodyEnd_out (.inl (by omega)))).mono ?_
          rintro e w2 ⟨rfl, rfl⟩
          go_wp2_with fail
          refine (around_any _ base _ xs (h'.qt q1) hok hl (k + 1 + x.imm)).mono ?_
          rintro e w3 ⟨rfl, q3⟩
          rw [HR.out]
          go_wp2
          go_ret
          exact ⟨rfl, q1.trans q3⟩
        · have hr' : r = -1 := by simpa using hr
          subst hr'
          go_enter Try.func38, Try.ntmps38
          go_wp2_with fail
          refine (around_any _ base _ xs h' hok hl k).mono ?_
          rintro e w1 ⟨rfl, q1⟩
          rw [E0.out]
          go_wp2_with fail
          refine (body_no _ base _ xs (h'.qt q1) hok hl (-1) (by omega) (bodyEnd_out (.inl (by omega)))).mono ?_
          rintro e w2 ⟨rfl, rfl⟩
          go_wp2_with fail
          refine (around_any _ base _ xs (h'.qt q1) hok hl (k + 1 + x.imm)).mono ?_
          rintro e w3 ⟨rfl, q3⟩
          rw [HR.out]
          go_wp2
          go_ret
          exact ⟨rfl, q1.trans q3⟩
      · have hzo := (hasB_iff.1 hzb).1
        have ho : overB xs n (k + 1 + x.imm) = decide ((n : Int) + 1 + z.b < k + 1 + x.imm) := by unfold overB; rw [bodyEnd_at hz hzo]
        have hE : skipH xs k x = (!(decide ((n : Int) + 1 + z.b < k + 1 + x.imm)) && (decide (r = -1) || decide (r = n))) := by rw [HL.out, e0, ho]
        rw [hE]
        have E0 := Lib.hid e0
        have HZ := Lib.hid hz
        have hnn : n < xs.length := (List.getElem?_eq_some_iff.1 hz).1
        have hnI : (n : Int) < (xs.length : Int) := by omega
        clear e0 hz hzb hE HL ho
        cases h3d : decide ((n : Int) + 1 + z.b < k + 1 + x.imm)
        · simp only [Bool.not_false, Bool.true_and]
          cases hr : decide (r = -1)
          · have hrd : (r == -1) = false := by simpa using hr
            cases hrn : decide (r = (n : Int))
            · have hrn' : (r == (n : Int)) = false := by simpa using hrn
              go_enter Try.func38, Try.ntmps38
              go_wp2_with fail
              refine (around_any _ base _ xs h' hok hl k).mono ?_
              rintro e w1 ⟨rfl, q1⟩
              rw [E0.out]
              go_wp2_with fail
              refine (body_yes _ base _ xs (h'.qt q1) hok hl n z HZ.out hzo).mono ?_
              rintro e w2 ⟨rfl, q2⟩
              have q12 := q1.trans q2
              clear q1 q2
              go_wp2_with fail
              refine (around_any _ base _ xs (h'.qt q12) hok hl (k + 1 + x.imm)).mono ?_
              rintro e w3 ⟨rfl, q3⟩
              rw [HR.out]
              go_wp2
              go_ret
              exact ⟨rfl, q12.trans q3⟩
            · have hrn' : r = (n : Int) := by simpa using hrn
              subst hrn'
              go_enter Try.func38, Try.ntmps38
              go_wp2_with fail
              refine (around_any _ base _ xs h' hok hl k).mono ?_
              rintro e w1 ⟨rfl, q1⟩
              rw [E0.out]
              go_wp2_with fail
              refine (body_yes _ base _ xs (h'.qt q1) hok hl n z HZ.out hzo).mono ?_
              rintro e w2 ⟨rfl, q2⟩
              have q12 := q1.trans q2
              clear q1 q2
              go_wp2_with fail
              refine (around_any _ base _ xs (h'.qt q12) hok hl (k + 1 + x.imm)).mono ?_
              rintro e w3 ⟨rfl, q3⟩
              rw [HR.out]
              go_wp2
              go_ret
              exact ⟨rfl, q12.trans q3⟩
          · have hr' : r = -1 := by simpa using hr
            subst hr'
            go_enter Try.func38, Try.ntmps38
            go_wp2_with fail
            refine (around_any _ base _ xs h' hok hl k).mono ?_
            rintro e w1 ⟨rfl, q1⟩
            rw [E0.out]
            go_wp2_with fail
            refine (body_yes _ base _ xs (h'.qt q1) hok hl n z HZ.out hzo).mono ?_
            rintro e w2 ⟨rfl, q2⟩
            have q12 := q1.trans q2
            clear q1 q2
            go_wp2_with fail
            refine (around_any _ base _ xs (h'.qt q12) hok hl (k + 1 + x.imm)).mono ?_
            rintro e w3 ⟨rfl, q3⟩
            rw [HR.out]
            go_wp2
            go_ret
            exact ⟨rfl, q12.trans q3⟩
        · go_enter Try.func38, Try.ntmps38
          go_wp2_with fail
          refine (around_any _ base _ xs h' hok hl k).mono ?_
          rintro e w1 ⟨rfl, q1⟩
          rw [E0.out]
          go_wp2_with fail
          refine (body_yes _ base _ xs (h'.qt q1) hok hl n z HZ.out hzo).mono ?_
          rintro e w2 ⟨rfl, q2⟩
          go_wp2
          go_ret
          exact ⟨rfl, q1.trans q2⟩
set_option maxRecDepth 100000 in
theorem checkFuel_any (w : World) (base : Nat) (v : Value) (xs : List In) (h : OwnP w base v xs) (hok : ∀ x ∈ xs, x.ok) (hl : xs.length ≤ 1000000) : Calls Try.prog 30 #[v] w fun e w' => e = .returned (.int .i64 (if 200 < fuelL xs then 6 else 0)) ∧ Ext w w' := by
  by_cases hf : 200 < fuelL xs
  · rw [if_pos hf]
    go_enter Try.func30, Try.ntmps30
    go_wp2_with fail
    refine (fuel_any _ base _ xs h hok hl).mono ?_
    rintro e w1 ⟨rfl, e1⟩
    go_wp2
    go_ret
    exact ⟨rfl, e1⟩
  · rw [if_neg hf]
    go_enter Try.func30, Try.ntmps30
    go_wp2_with fail
    refine (fuel_any _ base _ xs h hok hl).mono ?_
    rintro e w1 ⟨rfl, e1⟩
    go_wp2
    go_ret
    exact ⟨rfl, e1⟩
end Go.Proofs.Ytkdonkebnnjkkaa
