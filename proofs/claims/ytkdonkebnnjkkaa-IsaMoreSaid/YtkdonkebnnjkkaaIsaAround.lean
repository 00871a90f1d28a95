/-
  DERIVED. THE WALKS of layer 7 (isa): firstAround, Fuel, Discards, loopHolds.
-/
import Derived.Test.YtkdonkebnnjkkaaIsaBody
namespace Go.Proofs.Ytkdonkebnnjkkaa
open Go.RowKit
set_option linter.unusedVariables false
theorem OwnP.qt {w w' : World} {base : Nat} {v : Value} {l : List In} (h : OwnP w base v l) (q : Qt w w') : OwnP w' base v l := h.ext ((Ext.refl w).qt q)
set_option maxRecDepth 100000 in
theorem around_any (w : World) (base : Nat) (v : Value) (xs : List In) (h : OwnP w base v xs) (hok : ∀ x ∈ xs, x.ok) (hl : xs.length ≤ 1000000) (i : Int) : Calls Try.prog 43 #[v, .int .i64 i] w fun e w' => e = .returned (.int .i64 (around xs i)) ∧ Qt w w' := by
  obtain ⟨ao, c, rfl, -, -⟩ := h.slice
  have hlI : (xs.length : Int) ≤ 1000000 := by omega
  go_enter Try.func43, Try.ntmps43
  go_wp2_with fail
  go_loopg [11] xs.length (fun k iv wr => ∃ j : Nat, j + k = xs.length ∧ iv = .int .i64 j ∧ (∀ (n : Nat) x, n < j → xs[n]? = some x → hasB x n i = false) ∧ Qt w wr)
  case atStart => exact ⟨0, by omega, rfl, fun n x hn => by omega, Qt.refl _⟩
  case round =>
    obtain ⟨j, hjk, rfl, hb, q1⟩ := hrel
    by_cases hj : j < xs.length
    · have hjI : (j : Int) < (xs.length : Int) := by omega
      obtain ⟨x, hx⟩ : ∃ x, xs[j]? = some x := ⟨xs[j], by simp [hj]⟩
      have HX := Lib.hid hx
      by_cases ho : x.op = 12
      · go_wp2_with fail
        refine (body_yes _ base _ xs (h.qt q1) hok hl j x HX.out ho).mono ?_
        rintro e w2 ⟨rfl, q2⟩
        have q3 := q1.trans q2
        clear q1 q2
        by_cases ha : (j : Int) + 1 ≤ i
        · by_cases hc : i < (j : Int) + 1 + x.b
          · go_wp2
            go_ret
            exact ⟨by rw [around_at HX.out (hasB_iff.2 ⟨ho, ha, hc⟩) (fun n y hn hy => hb n y hn hy)]; rfl, q3⟩
          · go_wp2
            go_roundg (gk - 1)
            case measure => omega
            case rel => exact ⟨j + 1, by omega, rfl, fun n y hn hy => by
              rcases Nat.lt_or_ge n j with h1 | h1
              · exact hb n y h1 hy
              · obtain rfl : n = j := by omega
                rw [HX.out] at hy
                cases hy
                cases hh : hasB x n i with
                | false => rfl
                | true => have := hasB_iff.1 hh; omega, q3⟩
        · go_wp2
          go_roundg (gk - 1)
          case measure => omega
          case rel => exact ⟨j + 1, by omega, rfl, fun n y hn hy => by
            rcases Nat.lt_or_ge n j with h1 | h1
            · exact hb n y h1 hy
            · obtain rfl : n = j := by omega
              rw [HX.out] at hy
              cases hy
              cases hh : hasB x n i with
              | false => rfl
              | true => have := hasB_iff.1 hh; omega, q3⟩
      · go_wp2_with fail
        refine (body_no _ base _ xs (h.qt q1) hok hl j (by omega) (bodyEnd_not HX.out ho)).mono ?_
        rintro e w2 ⟨rfl, rfl⟩
        go_wp2
        go_roundg (gk - 1)
        case measure => omega
        case rel => exact ⟨j + 1, by omega, rfl, fun n y hn hy => by
          rcases Nat.lt_or_ge n j with h1 | h1
          · exact hb n y h1 hy
          · obtain rfl : n = j := by omega
            rw [HX.out] at hy
            cases hy
            cases hh : hasB x n i with
            | false => rfl
            | true => exact absurd (hasB_iff.1 hh).1 ho, q1⟩
    · obtain rfl : j = xs.length := by omega
      go_wp2
      go_ret
      exact ⟨by rw [around_none fun k x hx => hb k x (List.getElem?_eq_some_iff.1 hx).1 hx]; rfl, q1⟩
set_option maxRecDepth 100000 in
theorem fuel_any (w : World) (base : Nat) (v : Value) (xs : List In) (h : OwnP w base v xs) (hok : ∀ x ∈ xs, x.ok) (hl : xs.length ≤ 1000000) : Calls Try.prog 15 #[v] w fun e w' => e = .returned (.int .i64 (fuelL xs)) ∧ Ext w w' := by
  obtain ⟨ao, c, rfl, -, -⟩ := h.slice
  have hlI : (xs.length : Int) ≤ 1000000 := by omega
  have hmx := maxI_fold
  go_enter Try.func15, Try.ntmps15
  go_wp2_with fail
  go_loopg [10, 3] xs.length (fun k iv sv wr => ∃ j : Nat, j + k = xs.length ∧ iv = .int .i64 j ∧ sv = .int .i64 (xs.length + extraL (xs.take j)) ∧ Ext w wr)
  case atStart => exact ⟨0, by omega, rfl, by simp [extraL], Ext.refl _⟩
  case round =>
    obtain ⟨j, hjk, rfl, rfl, e1⟩ := hrel
    by_cases hj : j < xs.length
    · have hjI : (j : Int) < (xs.length : Int) := by omega
      obtain ⟨g, x, rfl, -, hx, c0, c1, c2, c3, c4⟩ := (h.ext e1).nth j hj
      have hxo := hok x (List.mem_of_getElem? hx)
      have hex := extra_bd hxo
      have hEL := extraL_bd (xs := xs.take j) fun y hy => hok y (List.mem_of_mem_take hy)
      have hES := Lib.hid (extraL_snoc hx)
      have hel2 : ((xs.take j).length : Int) ≤ 1000000 := by simp; omega
      clear hx
      generalize extraL (xs.take j) = s at *
      by_cases ho : x.op = 12
      · have hm : extra x = x.b * (maxI x.imm 1 - 1) := by unfold extra; rw [if_pos ho]
        have hbb := hxo.2.2.2.1
        have hii := hxo.2.2.2.2
        have hmb : 1 ≤ maxI x.imm 1 ∧ maxI x.imm 1 ≤ 32767 := by unfold maxI; split <;> omega
        rw [hm] at hex hES
        go_wp2
        go_roundg (gk - 1)
        case measure => omega
        case rel => exact ⟨j + 1, by omega, rfl, by rw [hES.out]; congr 1; omega, (e1.alloc _ _)⟩
      · have hm : extra x = 0 := by unfold extra; rw [if_neg ho]
        rw [hm] at hES
        go_wp2
        go_roundg (gk - 1)
        case measure => omega
        case rel => exact ⟨j + 1, by omega, rfl, by rw [hES.out]; congr 1; omega, (e1.alloc _ _)⟩
    · obtain rfl : j = xs.length := by omega
      rw [List.take_length]
      go_wp2
      go_ret
      exact ⟨rfl, e1⟩
set_option maxRecDepth 100000 in
theorem discards_any (w : World) (base : Nat) (v : Value) (xs : List In) (h : OwnP w base v xs) (hok : ∀ x ∈ xs, x.ok) (hl : xs.length ≤ 1000000) : Calls Try.prog 20 #[v] w fun e w' => e = .returned (.bool (xs.any fun x => decide (x.op = 13))) ∧ Ext w w' := by
  obtain ⟨ao, c, rfl, -, -⟩ := h.slice
  have hlI : (xs.length : Int) ≤ 1000000 := by omega
  go_enter Try.func20, Try.ntmps20
  go_wp2_with fail
  go_loopg [7] xs.length (fun k iv wr => ∃ j : Nat, j + k = xs.length ∧ iv = .int .i64 j ∧ (∀ (n : Nat) x, n < j → xs[n]? = some x → x.op ≠ 13) ∧ Ext w wr)
  case atStart => exact ⟨0, by omega, rfl, fun n x hn => by omega, Ext.refl _⟩
  case round =>
    obtain ⟨j, hjk, rfl, hb, e1⟩ := hrel
    by_cases hj : j < xs.length
    · have hjI : (j : Int) < (xs.length : Int) := by omega
      obtain ⟨g, x, rfl, -, hx, c0, c1, c2, c3, c4⟩ := (h.ext e1).nth j hj
      have HX := Lib.hid hx
      clear hx
      by_cases ho : x.op = 13
      · have hany : (xs.any fun x => decide (x.op = 13)) = true := List.any_eq_true.2 ⟨x, List.mem_of_getElem? HX.out, by simp [ho]⟩
        go_wp2
        go_ret
        exact ⟨by rw [hany]; rfl, e1.alloc _ _⟩
      · go_wp2
        go_roundg (gk - 1)
        case measure => omega
        case rel => exact ⟨j + 1, by omega, rfl, fun n y hn hy => by
          rcases Nat.lt_or_ge n j with h1 | h1
          · exact hb n y h1 hy
          · obtain rfl : n = j := by omega
            rw [HX.out] at hy
            cases hy
            exact ho, e1.alloc _ _⟩
    · obtain rfl : j = xs.length := by omega
      have hany : (xs.any fun x => decide (x.op = 13)) = false := by
        rw [List.any_eq_false]
        intro x hx
        obtain ⟨n, hn⟩ := List.mem_iff_getElem?.1 hx
        have := hb n x (List.getElem?_eq_some_iff.1 hn).1 hn
        simpa using this
      go_wp2
      go_ret
      exact ⟨by rw [hany]; rfl, e1⟩
set_option maxRecDepth 100000 in
theorem loopHolds_any (w : World) (base : Nat) (v : Value) (xs : List In) (h : OwnP w base v xs) (hok : ∀ x ∈ xs, x.ok) (hl : xs.length ≤ 1000000) (k : Nat) (x : In) (hx : xs[k]? = some x) (ho : x.op = 12) : Calls Try.prog 37 #[v, .int .i64 k] w fun e w' => e = .returned (.bool (loopH xs k x)) ∧ Qt w w' := by
  have hlI : (xs.length : Int) ≤ 1000000 := by omega
  have hk : k < xs.length := (List.getElem?_eq_some_iff.1 hx).1
  have hkI : (k : Int) < (xs.length : Int) := by omega
  have hb := (hok x (List.mem_of_getElem? hx)).2.2.2.1
  obtain ⟨ao, c, rfl, -, -⟩ := h.slice
  by_cases h0 : x.b = 0
  · have hL : loopH xs k x = false := by simp [loopH, h0]
    have hs : (k : Int) + 1 + x.b = (k : Int) + 1 := by omega
    go_enter Try.func37, Try.ntmps37
    go_wp2_with fail
    refine (body_yes _ base _ xs h hok hl k x hx ho).mono ?_
    rintro e w2 ⟨rfl, q2⟩
    rw [hs]
    go_wp2
    go_ret
    exact ⟨by first | rfl | (rw [hL]; rfl), q2⟩
  · have hne : ((k : Int) + 1 == (k : Int) + 1 + x.b) = false := by simp; omega
    by_cases h1 : (xs.length : Int) < k + 1 + x.b
    · have hL : loopH xs k x = false := by simp [loopH, h0, h1]
      go_enter Try.func37, Try.ntmps37
      go_wp2_with fail
      refine (body_yes _ base _ xs h hok hl k x hx ho).mono ?_
      rintro e w2 ⟨rfl, q2⟩
      go_wp2
      go_ret
      exact ⟨by first | rfl | (rw [hL]; rfl), q2⟩
    · have h1d : decide ((xs.length : Int) < k + 1 + x.b) = false := by simpa using h1
      by_cases h2 : 1 ≤ x.imm
      · by_cases h3 : x.imm ≤ 8
        · have hL : loopH xs k x = decide (around xs k = -1) := by simp [loopH, h0, h1, h2, h3]
          go_enter Try.func37, Try.ntmps37
          go_wp2_with fail
          refine (body_yes _ base _ xs h hok hl k x hx ho).mono ?_
          rintro e w2 ⟨rfl, q2⟩
          obtain ⟨g, y, rfl, -, hy, c0, c1, c2, c3, c4⟩ := (h.qt q2).nth k hk
          rw [hx] at hy
          cases hy
          have HX := Lib.hid hx
          clear hx
          go_wp2_with fail
          refine (around_any _ base _ xs (h.qt q2) hok hl k).mono ?_
          rintro e w3 ⟨rfl, q3⟩
          go_wp2
          go_ret
          refine ⟨?_, q2.trans q3⟩
          rw [hL]
          rfl
        · have hL : loopH xs k x = false := by simp [loopH, h0, h1, h2, h3]
          go_enter Try.func37, Try.ntmps37
          go_wp2_with fail
          refine (body_yes _ base _ xs h hok hl k x hx ho).mono ?_
          rintro e w2 ⟨rfl, q2⟩
          obtain ⟨g, y, rfl, -, hy, c0, c1, c2, c3, c4⟩ := (h.qt q2).nth k hk
          rw [hx] at hy
          cases hy
          have HX := Lib.hid hx
          clear hx
          go_wp2
          go_ret
          exact ⟨by first | rfl | (rw [hL]; rfl), q2⟩
      · have hL : loopH xs k x = false := by simp [loopH, h0, h1, h2]
        go_enter Try.func37, Try.ntmps37
        go_wp2_with fail
        refine (body_yes _ base _ xs h hok hl k x hx ho).mono ?_
        rintro e w2 ⟨rfl, q2⟩
        obtain ⟨g, y, rfl, -, hy, c0, c1, c2, c3, c4⟩ := (h.qt q2).nth k hk
        rw [hx] at hy
        cases hy
        have HX := Lib.hid hx
        clear hx
        go_wp2
        go_ret
        exact ⟨by first | rfl | (rw [hL]; rfl), q2⟩
end Go.Proofs.Ytkdonkebnnjkkaa
