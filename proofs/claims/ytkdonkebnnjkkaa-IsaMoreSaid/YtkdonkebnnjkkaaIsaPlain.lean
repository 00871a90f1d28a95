/-
  DERIVED. Layer 7's programs as lists: what Check answers, what it comes to when programs are joined, cut short or mended.
-/
import Derived.Test.YtkdonkebnnjkkaaWirePlain
import Derived.Test.YtkdonkebnnjkkaaMinMax
namespace Go.Proofs.Ytkdonkebnnjkkaa
set_option linter.unusedVariables false

/-- an instruction -/
structure In where
  op : Int
  dst : Int
  a : Int
  b : Int
  imm : Int
deriving DecidableEq
instance : Inhabited In := ⟨⟨0, 0, 0, 0, 0⟩⟩
/-- its numbers are of their types -/
def In.ok (x : In) : Prop := (0 ≤ x.op ∧ x.op ≤ 255) ∧ (0 ≤ x.dst ∧ x.dst ≤ 255) ∧ (0 ≤ x.a ∧ x.a ≤ 255) ∧ (0 ≤ x.b ∧ x.b ≤ 255) ∧ (-32768 ≤ x.imm ∧ x.imm ≤ 32767)

/-- the body of the instruction x at k has i -/
def hasB (x : In) (k i : Int) : Bool := decide (x.op = 12) && (decide (k + 1 ≤ i) && decide (i < k + 1 + x.b))
theorem hasB_iff {x : In} {k i : Int} : hasB x k i = true ↔ x.op = 12 ∧ k + 1 ≤ i ∧ i < k + 1 + x.b := by simp [hasB]

def around (xs : List In) (i : Int) : Int := match (List.range xs.length).find? (fun (k : Nat) => hasB (xs.getD k default) (k : Int) i) with
  | some k => k
  | none => -1
theorem getD_of {xs : List In} {k : Nat} {x : In} (h : xs[k]? = some x) : xs.getD k default = x := by simp [List.getD, h]
theorem find_range {n : Nat} {p : Nat → Bool} {k : Nat} (hk : k < n) (hp : p k = true) (hf : ∀ j, j < k → p j = false) : (List.range n).find? p = some k := by
  rw [List.find?_range_eq_some]
  refine ⟨hp, by simpa using hk, fun j hj => by simp [hf j hj]⟩
theorem find_range_none {n : Nat} {p : Nat → Bool} (hf : ∀ j, j < n → p j = false) : (List.range n).find? p = none := by
  rw [List.find?_range_eq_none]
  intro j hj
  simp [hf j hj]
theorem around_none {xs : List In} {i : Int} (h : ∀ (k : Nat) x, xs[k]? = some x → hasB x k i = false) : around xs i = -1 := by
  unfold around
  rw [find_range_none fun j hj => h j _ (by simp [List.getD, hj])]
theorem around_at {xs : List In} {i : Int} {k : Nat} {x : In} (hx : xs[k]? = some x) (hb : hasB x k i = true) (hf : ∀ (j : Nat) y, j < k → xs[j]? = some y → hasB y j i = false) : around xs i = k := by
  have hk : k < xs.length := (List.getElem?_eq_some_iff.1 hx).1
  unfold around
  rw [find_range hk (by rw [getD_of hx]; exact hb) fun j hj => hf j _ hj (by
    have : j < xs.length := by omega
    simp [List.getD, this])]
theorem around_cases (xs : List In) (i : Int) : (around xs i = -1 ∧ ∀ (k : Nat) x, xs[k]? = some x → hasB x k i = false) ∨ ∃ (k : Nat) (x : In), around xs i = k ∧ xs[k]? = some x ∧ hasB x k i = true ∧ ∀ (j : Nat) y, j < k → xs[j]? = some y → hasB y j i = false := by
  unfold around
  cases h : (List.range xs.length).find? (fun (k : Nat) => hasB (xs.getD k default) (k : Int) i) with
  | none =>
    left
    refine ⟨rfl, fun k x hx => ?_⟩
    have hk : k < xs.length := (List.getElem?_eq_some_iff.1 hx).1
    have := List.find?_range_eq_none.1 h k hk
    rw [getD_of hx] at this
    simpa using this
  | some k =>
    right
    obtain ⟨h1, h2, h3⟩ := List.find?_range_eq_some.1 h
    have hk : k < xs.length := by simpa using h2
    have hx : xs[k]? = some xs[k] := by simp [hk]
    refine ⟨k, xs[k], rfl, hx, ?_, fun j y hj hy => ?_⟩
    · rw [getD_of hx] at h1; exact h1
    · have := h3 j hj
      rw [getD_of hy] at this
      simpa using this
theorem around_ge (xs : List In) (i : Int) : -1 ≤ around xs i ∧ around xs i ≤ xs.length := by
  rcases around_cases xs i with ⟨h, _⟩ | ⟨k, x, h, hx, _⟩
  · omega
  · have hk : k < xs.length := (List.getElem?_eq_some_iff.1 hx).1
    omega

/-- where the body of the loop at r ends -/
def bodyEnd (xs : List In) (r : Int) : Option Int := if r < 0 then none else match xs[r.toNat]? with
  | some x => if x.op = 12 then some (r + 1 + x.b) else none
  | none => none
theorem bodyEnd_at {xs : List In} {k : Nat} {x : In} (hx : xs[k]? = some x) (h : x.op = 12) : bodyEnd xs k = some (k + 1 + x.b) := by
  unfold bodyEnd
  rw [if_neg (by omega), Int.toNat_natCast, hx]
  simp [h]
theorem bodyEnd_not {xs : List In} {k : Nat} {x : In} (hx : xs[k]? = some x) (h : x.op ≠ 12) : bodyEnd xs k = none := by
  unfold bodyEnd
  rw [if_neg (by omega), Int.toNat_natCast, hx]
  simp [h]
theorem bodyEnd_out {xs : List In} {r : Int} (h : r < 0 ∨ (xs.length : Int) ≤ r) : bodyEnd xs r = none := by
  unfold bodyEnd
  by_cases h0 : r < 0
  · rw [if_pos h0]
  · rw [if_neg h0, List.getElem?_eq_none (by omega)]
def overB (xs : List In) (r t : Int) : Bool := match bodyEnd xs r with
  | some e => decide (e < t)
  | none => false

def regs (x : In) : Bool := !(decide (11 < x.dst) || decide (11 < x.a)) && (!(decide (11 < x.b) && decide (x.op ≠ 12)) && (decide (x.op ≠ 14) || decide (x.a ≤ 8)))
def loopH (xs : List In) (i : Int) (x : In) : Bool := !(decide (x.b = 0) || decide ((xs.length : Int) < i + 1 + x.b)) && (decide (1 ≤ x.imm) && (decide (x.imm ≤ 8) && decide (around xs i = -1)))
def skipH (xs : List In) (i : Int) (x : In) : Bool := !(decide (x.imm < 1) || decide ((xs.length : Int) < i + 1 + x.imm)) && (!(overB xs (around xs i) (i + 1 + x.imm)) && (decide (around xs (i + 1 + x.imm) = -1) || decide (around xs (i + 1 + x.imm) = around xs i)))
theorem loopH_iff {xs : List In} {i : Int} {x : In} : loopH xs i x = true ↔ x.b ≠ 0 ∧ i + 1 + x.b ≤ xs.length ∧ 1 ≤ x.imm ∧ x.imm ≤ 8 ∧ around xs i = -1 := by
  simp [loopH, and_assoc]
theorem skipH_iff {xs : List In} {i : Int} {x : In} : skipH xs i x = true ↔ 1 ≤ x.imm ∧ i + 1 + x.imm ≤ xs.length ∧ overB xs (around xs i) (i + 1 + x.imm) = false ∧ (around xs (i + 1 + x.imm) = -1 ∨ around xs (i + 1 + x.imm) = around xs i) := by
  simp [skipH, and_assoc]

def at1 (d : Bool) (xs : List In) (i : Int) (x : In) : Int :=
  if decide (15 ≤ x.op) || (decide (x.op = 13) && !d) then 5
  else if !regs x then 2
  else if (decide (x.op = 12) && !loopH xs i x) || (decide (x.op = 11) && !skipH xs i x) then 12
  else 0
theorem at1_zero {d : Bool} {xs : List In} {i : Int} {x : In} : at1 d xs i x = 0 ↔ x.op < 15 ∧ (x.op = 13 → d = true) ∧ regs x = true ∧ (x.op = 12 → loopH xs i x = true) ∧ (x.op = 11 → skipH xs i x = true) := by
  unfold at1
  by_cases h1 : (decide (15 ≤ x.op) || (decide (x.op = 13) && !d)) = true
  · rw [if_pos h1]
    simp at h1
    constructor
    · intro h; omega
    · rintro ⟨a1, a2, _⟩
      rcases h1 with h1 | ⟨h1, h2⟩
      · omega
      · rw [a2 h1] at h2; cases h2
  · rw [if_neg h1]
    simp at h1
    by_cases h2 : (!regs x) = true
    · rw [if_pos h2]
      simp at h2
      constructor
      · intro h; omega
      · rintro ⟨_, _, a3, _⟩
        rw [h2] at a3; cases a3
    · rw [if_neg h2]
      simp at h2
      by_cases h3 : ((decide (x.op = 12) && !loopH xs i x) || (decide (x.op = 11) && !skipH xs i x)) = true
      · rw [if_pos h3]
        simp at h3
        constructor
        · intro h; omega
        · rintro ⟨_, _, _, a4, a5⟩
          rcases h3 with ⟨b1, b2⟩ | ⟨b1, b2⟩
          · rw [a4 b1] at b2; cases b2
          · rw [a5 b1] at b2; cases b2
      · rw [if_neg h3]
        simp at h3
        exact ⟨fun _ => ⟨h1.1, h1.2, h2, h3.1, h3.2⟩, fun _ => rfl⟩
theorem at1_bd (d : Bool) (xs : List In) (i : Int) (x : In) : at1 d xs i x = 0 ∨ at1 d xs i x = 2 ∨ at1 d xs i x = 5 ∨ at1 d xs i x = 12 := by
  unfold at1
  split
  · omega
  · split
    · omega
    · split <;> omega

def allAt (d : Bool) (xs : List In) : Prop := ∀ (i : Nat) x, xs[i]? = some x → at1 d xs i x = 0

def extra (x : In) : Int := if x.op = 12 then x.b * (maxI x.imm 1 - 1) else 0
def extraL : List In → Int
  | [] => 0
  | x :: r => extra x + extraL r
def fuelL (xs : List In) : Int := xs.length + extraL xs
theorem extraL_append (p q : List In) : extraL (p ++ q) = extraL p + extraL q := by
  induction p with
  | nil => simp [extraL]
  | cons x r ih => simp [extraL, ih]; omega
theorem fuelL_append (p q : List In) : fuelL (p ++ q) = fuelL p + fuelL q := by
  unfold fuelL
  rw [extraL_append, List.length_append]
  omega
theorem extra_bd {x : In} (h : x.ok) : 0 ≤ extra x ∧ extra x ≤ 8355585 := by
  obtain ⟨_, _, _, hb, hi⟩ := h
  unfold extra
  split
  · have h1 : 0 ≤ maxI x.imm 1 - 1 ∧ maxI x.imm 1 - 1 ≤ 32767 := by unfold maxI; split <;> omega
    refine ⟨Int.mul_nonneg hb.1 h1.1, ?_⟩
    calc x.b * (maxI x.imm 1 - 1) ≤ 255 * (maxI x.imm 1 - 1) := Int.mul_le_mul_of_nonneg_right hb.2 h1.1
      _ ≤ 8355585 := by omega
  · omega
theorem extraL_bd {xs : List In} (h : ∀ x ∈ xs, x.ok) : 0 ≤ extraL xs ∧ extraL xs ≤ 8355585 * xs.length := by
  induction xs with
  | nil => simp [extraL]
  | cons x r ih =>
    have h1 := extra_bd (h x (by simp))
    have h2 := ih fun y hy => h y (by simp [hy])
    simp only [extraL, List.length_cons]
    omega
theorem take_snoc {xs : List In} {j : Nat} {x : In} (h : xs[j]? = some x) : xs.take (j + 1) = xs.take j ++ [x] := by
  rw [List.take_add_one, h]
  rfl
theorem extraL_snoc {xs : List In} {j : Nat} {x : In} (h : xs[j]? = some x) : extraL (xs.take (j + 1)) = extraL (xs.take j) + extra x := by
  rw [take_snoc h, extraL_append]
  simp [extraL]

/-- Check's answer -/
def chk (d : Bool) (xs : List In) : Int :=
  if 24 < xs.length then 7 else match (List.range xs.length).find? (fun (k : Nat) => decide (at1 d xs (k : Int) (xs.getD k default) ≠ 0)) with
    | some k => at1 d xs k (xs.getD k default)
    | none => if 200 < fuelL xs then 6 else 0
theorem chk_many {d : Bool} {xs : List In} (h : 24 < xs.length) : chk d xs = 7 := by unfold chk; rw [if_pos h]
theorem chk_at {d : Bool} {xs : List In} (h : xs.length ≤ 24) {k : Nat} {x : In} (hx : xs[k]? = some x) (hb : at1 d xs k x ≠ 0) (hf : ∀ (j : Nat) y, j < k → xs[j]? = some y → at1 d xs j y = 0) : chk d xs = at1 d xs k x := by
  have hk : k < xs.length := (List.getElem?_eq_some_iff.1 hx).1
  unfold chk
  rw [if_neg (by omega), find_range hk (by rw [getD_of hx]; simpa using hb) fun j hj => by
    have hj' : j < xs.length := by omega
    have := hf j xs[j] hj (by simp [hj'])
    rw [getD_of (x := xs[j]) (by simp [hj'])]
    simpa using this]
  show at1 d xs (k : Int) (xs.getD k default) = _
  rw [getD_of hx]
theorem chk_all {d : Bool} {xs : List In} (h : xs.length ≤ 24) (ha : allAt d xs) : chk d xs = if 200 < fuelL xs then 6 else 0 := by
  unfold chk
  rw [if_neg (by omega), find_range_none fun j hj => by
    have := ha j xs[j] (by simp [hj])
    rw [getD_of (x := xs[j]) (by simp [hj])]
    simpa using this]
theorem chk_zero {d : Bool} {xs : List In} (h : chk d xs = 0) : xs.length ≤ 24 ∧ allAt d xs ∧ fuelL xs ≤ 200 := by
  have hl : xs.length ≤ 24 := by
    rcases Nat.lt_or_ge 24 xs.length with h1 | h1
    · rw [chk_many h1] at h; omega
    · exact h1
  have ha : allAt d xs := by
    intro i x hx
    by_cases hall : ∀ (j : Nat) y, xs[j]? = some y → at1 d xs j y = 0
    · exact hall i x hx
    · exfalso
      unfold chk at h
      rw [if_neg (by omega)] at h
      cases hf : (List.range xs.length).find? (fun (k : Nat) => decide (at1 d xs (k : Int) (xs.getD k default) ≠ 0)) with
      | none =>
        refine hall fun j y hy => ?_
        have hj : j < xs.length := (List.getElem?_eq_some_iff.1 hy).1
        have := List.find?_range_eq_none.1 hf j hj
        rw [getD_of hy] at this
        simpa using this
      | some k =>
        rw [hf] at h
        obtain ⟨h1, _, _⟩ := List.find?_range_eq_some.1 hf
        simp at h1
        exact h1 h
  refine ⟨hl, ha, ?_⟩
  rw [chk_all hl ha] at h
  split at h <;> omega
theorem chk_bd (d : Bool) (xs : List In) : 0 ≤ chk d xs ∧ chk d xs ≤ 12 := by
  unfold chk
  split
  · omega
  · split
    · rename_i k _
      have := at1_bd d xs k (xs.getD k default)
      omega
    · split <;> omega

/- joined -/
theorem get_left {p q : List In} {k : Nat} {x : In} (h : p[k]? = some x) : (p ++ q)[k]? = some x := by
  have hk : k < p.length := (List.getElem?_eq_some_iff.1 h).1
  rw [List.getElem?_append_left hk, h]
theorem get_cases {p q : List In} {k : Nat} {x : In} (h : (p ++ q)[k]? = some x) : p[k]? = some x ∨ ∃ j, k = p.length + j ∧ q[j]? = some x := by
  rcases Nat.lt_or_ge k p.length with hk | hk
  · left; rwa [List.getElem?_append_left hk] at h
  · right
    rw [List.getElem?_append_right hk] at h
    exact ⟨k - p.length, by omega, h⟩
theorem get_right {p q : List In} {j : Nat} {x : In} (h : q[j]? = some x) : (p ++ q)[p.length + j]? = some x := by
  rw [List.getElem?_append_right (by omega)]
  simpa using h
theorem around_left (p q : List In) {i : Int} (hi : i ≤ p.length) : around (p ++ q) i = around p i := by
  rcases around_cases p i with ⟨e, h⟩ | ⟨k, x, e, hx, hb, hf⟩
  · rw [e]
    refine around_none fun k x hx => ?_
    rcases get_cases hx with hz | ⟨j, rfl, hz⟩
    · exact h k x hz
    · cases hh : hasB x ((p.length + j : Nat) : Int) i with
      | false => rfl
      | true => have := hasB_iff.1 hh; omega
  · rw [e]
    refine around_at (get_left hx) hb fun j y hj hy => ?_
    have hk : k < p.length := (List.getElem?_eq_some_iff.1 hx).1
    rw [List.getElem?_append_left (by omega)] at hy
    exact hf j y hj hy
/-- no body goes beyond the end -/
def fits (p : List In) : Prop := ∀ (k : Nat) x, p[k]? = some x → x.op = 12 → (k : Int) + 1 + x.b ≤ p.length
theorem allAt.fits {d : Bool} {p : List In} (h : allAt d p) : fits p := fun k x hx ho => (loopH_iff.1 ((at1_zero.1 (h k x hx)).2.2.2.1 ho)).2.1
def shiftR (n : Nat) (r : Int) : Int := if r = -1 then -1 else n + r
theorem hasB_shift (x : In) (n k : Nat) (i : Int) : hasB x ((n + k : Nat) : Int) (n + i) = hasB x k i := by
  rw [Bool.eq_iff_iff, hasB_iff, hasB_iff]
  omega
theorem around_right {p : List In} (hp : fits p) (q : List In) {i : Int} (hi : 0 ≤ i) : around (p ++ q) (p.length + i) = shiftR p.length (around q i) := by
  have hl : ∀ (k : Nat) x, p[k]? = some x → hasB x k (p.length + i) = false := fun k x hx => by
    cases hh : hasB x k (p.length + i) with
    | false => rfl
    | true =>
      have h1 := hasB_iff.1 hh
      have := hp k x hx h1.1
      omega
  rcases around_cases q i with ⟨e, h⟩ | ⟨k, x, e, hx, hb, hf⟩
  · rw [e]
    refine around_none fun k x hx => ?_
    rcases get_cases hx with hz | ⟨j, rfl, hz⟩
    · exact hl k x hz
    · rw [hasB_shift]; exact h j x hz
  · rw [e, show shiftR p.length (k : Int) = ((p.length + k : Nat) : Int) by unfold shiftR; rw [if_neg (by omega)]; omega]
    refine around_at (get_right hx) (by rw [hasB_shift]; exact hb) fun j y hj hy => ?_
    rcases get_cases hy with hz | ⟨j, rfl, hz⟩
    · exact hl _ y hz
    · rw [hasB_shift]; exact hf _ y (by omega) hz
theorem overB_around {xs : List In} {i t : Int} : overB xs (around xs i) t = false ↔ ∀ (k : Nat) x, around xs i = k → xs[k]? = some x → t ≤ k + 1 + x.b := by
  rcases around_cases xs i with ⟨e, h⟩ | ⟨k, x, e, hx, hb, hf⟩
  · rw [e]
    unfold overB
    rw [bodyEnd_out (.inl (by omega))]
    exact ⟨fun _ k x h => by omega, fun _ => rfl⟩
  · rw [e]
    unfold overB
    rw [bodyEnd_at hx (hasB_iff.1 hb).1]
    constructor
    · intro h k' x' hk' hx'
      obtain rfl : k = k' := by omega
      rw [hx] at hx'
      cases hx'
      simpa using h
    · intro h
      simpa using h k x rfl hx
theorem allAt_append {d : Bool} {p q : List In} (hp : allAt d p) (hq : allAt d q) : allAt d (p ++ q) := by
  have hfp := hp.fits
  intro i x hx
  rw [at1_zero]
  rcases get_cases hx with hz | ⟨j, rfl, hz⟩
  · have hi : i < p.length := (List.getElem?_eq_some_iff.1 hz).1
    obtain ⟨h1, h2, h3, h4, h5⟩ := at1_zero.1 (hp i x hz)
    refine ⟨h1, h2, h3, fun ho => ?_, fun ho => ?_⟩
    · have := loopH_iff.1 (h4 ho)
      rw [loopH_iff, around_left p q (by omega), List.length_append]
      exact ⟨this.1, by omega, this.2.2⟩
    · obtain ⟨a1, a2, a3, a4⟩ := skipH_iff.1 (h5 ho)
      rw [skipH_iff, around_left p q (by omega), around_left p q (by omega), List.length_append]
      refine ⟨a1, by omega, ?_, a4⟩
      have a3' := overB_around.1 a3
      rw [← around_left p q (i := (i : Int)) (by omega), overB_around, around_left p q (by omega)]
      intro k y hk hy
      rcases get_cases hy with hz | ⟨j, rfl, hz⟩
      · exact a3' k y hk hz
      · have := around_ge p i
        have hc := around_cases p i
        rcases hc with ⟨e, _⟩ | ⟨k', x', e, hx', _⟩
        · omega
        · have hk' : k' < p.length := (List.getElem?_eq_some_iff.1 hx').1
          omega
  · have hj : j < q.length := (List.getElem?_eq_some_iff.1 hz).1
    obtain ⟨h1, h2, h3, h4, h5⟩ := at1_zero.1 (hq j x hz)
    have ecast : ((p.length + j : Nat) : Int) = (p.length : Int) + (j : Int) := by omega
    refine ⟨h1, h2, h3, fun ho => ?_, fun ho => ?_⟩
    · have := loopH_iff.1 (h4 ho)
      rw [loopH_iff, ecast, around_right hfp q (by omega), this.2.2.2.2, List.length_append]
      exact ⟨this.1, by omega, this.2.2.1, this.2.2.2.1, rfl⟩
    · obtain ⟨a1, a2, a3, a4⟩ := skipH_iff.1 (h5 ho)
      have et : (p.length : Int) + (j : Int) + 1 + x.imm = (p.length : Int) + ((j : Int) + 1 + x.imm) := by omega
      rw [skipH_iff, ecast, et, around_right hfp q (i := (j : Int) + 1 + x.imm) (by omega), List.length_append]
      refine ⟨a1, by omega, ?_, ?_⟩
      · have a3' := overB_around.1 a3
        rw [overB_around, around_right hfp q (by omega)]
        intro k y hk hy
        rcases around_cases q j with ⟨e, _⟩ | ⟨k', x', e, hx', _⟩
        · rw [e] at hk
          unfold shiftR at hk
          simp at hk
        · rw [e] at hk
          unfold shiftR at hk
          rw [if_neg (by omega)] at hk
          obtain rfl : k = p.length + k' := by omega
          have := get_right (p := p) hx'
          rw [hy] at this
          cases this
          have := a3' k' y e hx'
          omega
      · rw [around_right hfp q (by omega)]
        rcases a4 with a4 | a4
        · left; rw [a4]; rfl
        · right; rw [a4]

/- a program that can be mended -/
def special (d : Bool) (x : In) : Bool := decide (x.op = 12) || (decide (x.op = 11) || (decide (x.op = 13) && !d))
def mild (x : In) : Prop := (0 ≤ x.op ∧ x.op ≤ 14) ∧ (0 ≤ x.dst ∧ x.dst ≤ 11) ∧ (0 ≤ x.a ∧ x.a ≤ 8) ∧ (0 ≤ x.b ∧ x.b ≤ 11) ∧ (-32768 ≤ x.imm ∧ x.imm ≤ 32767)
theorem mild.ok {x : In} (h : mild x) : x.ok := by unfold mild at h; unfold In.ok; omega
theorem mild.regs {x : In} (h : mild x) : regs x = true := by
  unfold mild at h
  simp [Go.Proofs.Ytkdonkebnnjkkaa.regs]
  omega
def movI : In := ⟨1, 0, 0, 0, 0⟩
theorem mild_mov : mild movI := by unfold mild movI; simp
theorem plain_all {d : Bool} {xs : List In} (hm : ∀ x ∈ xs, mild x) (h : ∀ x ∈ xs, special d x = false) : allAt d xs := by
  intro i x hx
  have hmem : x ∈ xs := List.mem_of_getElem? hx
  have h1 := hm x hmem
  have h2 := h x hmem
  simp [special] at h2
  rw [at1_zero]
  refine ⟨by unfold mild at h1; omega, h2.2.2, h1.regs, fun e => absurd e h2.1, fun e => absurd e h2.2.1⟩
theorem plain_extra {d : Bool} {xs : List In} (h : ∀ x ∈ xs, special d x = false) : extraL xs = 0 := by
  induction xs with
  | nil => rfl
  | cons x r ih =>
    have h1 := h x (by simp)
    simp [special] at h1
    simp only [extraL, extra, if_neg h1.1]
    have := ih fun y hy => h y (by simp [hy])
    omega
theorem special_of_chk {d : Bool} {xs : List In} (hm : ∀ x ∈ xs, mild x) (hl : xs.length ≤ 20) (h : chk d xs ≠ 0) : ∃ (i : Nat) (x : In), xs[i]? = some x ∧ special d x = true := by
  by_cases hs : ∀ x ∈ xs, special d x = false
  · exfalso
    apply h
    rw [chk_all (by omega) (plain_all hm hs), if_neg]
    unfold fuelL
    rw [plain_extra hs]
    omega
  · have : ∃ x, x ∈ xs ∧ special d x = true := by
      apply Classical.byContradiction
      intro hn
      apply hs
      intro x hx
      cases hh : special d x with
      | false => rfl
      | true => exact absurd ⟨x, hx, hh⟩ hn
    obtain ⟨x, hx, h1⟩ := this
    obtain ⟨i, hi⟩ := List.mem_iff_getElem?.1 hx
    exact ⟨i, x, hi, h1⟩
def spN (d : Bool) : List In → Nat
  | [] => 0
  | x :: r => (if special d x = true then 1 else 0) + spN d r
theorem spN_le (d : Bool) (xs : List In) : spN d xs ≤ xs.length := by
  induction xs with
  | nil => simp [spN]
  | cons x r ih => simp only [spN, List.length_cons]; split <;> omega
theorem special_mov (d : Bool) : special d movI = false := by simp [special, movI]
theorem spN_set {d : Bool} {xs : List In} {i : Nat} {x : In} (hx : xs[i]? = some x) (hs : special d x = true) : spN d (xs.set i movI) + 1 = spN d xs := by
  induction xs generalizing i with
  | nil => simp at hx
  | cons y r ih =>
    cases i with
    | zero =>
      simp at hx
      subst hx
      simp only [List.set_cons_zero, spN, hs, special_mov]
      simp
      omega
    | succ i =>
      simp at hx
      simp only [List.set_cons_succ, spN]
      have := ih hx
      omega
theorem mild_set {xs : List In} (hm : ∀ x ∈ xs, mild x) (i : Nat) : ∀ x ∈ xs.set i movI, mild x := fun x hx => by
  rcases List.mem_or_eq_of_mem_set hx with h | h
  · exact hm x h
  · rw [h]; exact mild_mov
/-- how far the mending is, after r rounds -/
def Mend (d : Bool) (n r : Nat) (xs : List In) : Prop := xs.length = n ∧ (∀ x ∈ xs, mild x) ∧ (chk d xs = 0 ∨ spN d xs + r ≤ n)
theorem Mend.start {d : Bool} {xs : List In} (hm : ∀ x ∈ xs, mild x) : Mend d xs.length 0 xs := ⟨rfl, hm, .inr (spN_le d xs)⟩
theorem Mend.stop {d : Bool} {n r : Nat} {xs : List In} (h : Mend d n r xs) (hr : n < r) : chk d xs = 0 := by
  obtain ⟨_, _, h | h⟩ := h
  · exact h
  · omega
theorem Mend.next {d : Bool} {n r : Nat} {xs : List In} (h : Mend d n r xs) (h0 : chk d xs ≠ 0) {i : Nat} {x : In} (hx : xs[i]? = some x) (hs : chk d (xs.set i movI) = 0 ∨ special d x = true) : Mend d n (r + 1) (xs.set i movI) := by
  obtain ⟨h1, h2, h3⟩ := h
  refine ⟨by simpa using h1, mild_set h2 i, ?_⟩
  rcases hs with hs | hs
  · exact .inl hs
  · rcases h3 with h3 | h3
    · exact absurd h3 h0
    · have := spN_set hx hs
      exact .inr (by omega)

/- as bytes -/
def encI (x : In) : List Int := [x.op, x.dst, x.a, x.b] ++ leb (zig x.imm)
def encs : List In → List Int
  | [] => []
  | x :: r => encI x ++ encs r
theorem encs_append (p q : List In) : encs (p ++ q) = encs p ++ encs q := by
  induction p with
  | nil => rfl
  | cons x r ih => simp [encs, ih]
theorem encs_snoc {xs : List In} {j : Nat} {x : In} (h : xs[j]? = some x) : encs (xs.take (j + 1)) = encs (xs.take j) ++ encI x := by
  rw [take_snoc h, encs_append]
  simp [encs]
theorem zig_ok {x : In} (h : x.ok) : zig x.imm < 65536 := by
  obtain ⟨_, _, _, _, h⟩ := h
  unfold zig; split <;> omega
theorem encI_len {x : In} (h : x.ok) : (encI x).length ≤ 7 := by
  have := leb_len 2 (zig x.imm) (by have := zig_ok h; omega)
  simp only [encI, List.length_append, List.length_cons, List.length_nil]
  omega
theorem encs_len {xs : List In} (h : ∀ x ∈ xs, x.ok) : (encs xs).length ≤ 7 * xs.length := by
  induction xs with
  | nil => simp [encs]
  | cons x r ih =>
    have h1 := encI_len (h x (by simp))
    have h2 := ih fun y hy => h y (by simp [hy])
    simp only [encs, List.length_append, List.length_cons]
    omega
def enc (xs : List In) : List Int := leb xs.length ++ encs xs
theorem encI_bytes {x : In} (h : x.ok) : ∀ y ∈ encI x, 0 ≤ y ∧ y ≤ 255 := by
  intro y hy
  obtain ⟨h1, h2, h3, h4, _⟩ := h
  rcases List.mem_append.1 hy with hy | hy
  · simp at hy
    rcases hy with rfl | rfl | rfl | rfl <;> assumption
  · exact leb_bytes _ y hy
theorem encs_bytes {xs : List In} (h : ∀ x ∈ xs, x.ok) : ∀ y ∈ encs xs, 0 ≤ y ∧ y ≤ 255 := by
  induction xs with
  | nil => intro y hy; cases hy
  | cons x r ih =>
    intro y hy
    rcases List.mem_append.1 hy with hy | hy
    · exact encI_bytes (h x (by simp)) y hy
    · exact ih (fun z hz => h z (by simp [hz])) y hy
theorem enc_bytes {xs : List In} (h : ∀ x ∈ xs, x.ok) : ∀ y ∈ enc xs, 0 ≤ y ∧ y ≤ 255 := fun y hy => by
  rcases List.mem_append.1 hy with hy | hy
  · exact leb_bytes _ y hy
  · exact encs_bytes h y hy
end Go.Proofs.Ytkdonkebnnjkkaa
