/-
  DERIVED. Layer 7's programs as lists: what Check answers, what it comes to when programs are joined, cut short or mended. · Slices of instructions of the call's own: read, stored into, appended to, made. · Slices of instructions: literals; five cells stored; what that leaves calm. · Layer 7's rows: a slice of Smalls that came in. · Rows of later layers: a program that came in. · THE WALKS of layer 7 (isa): hasRegs, Body. · THE WALKS of layer 7 (isa): firstAround, Fuel, Discards, loopHolds. · THE WALKS of layer 7 (isa): skipHolds, checkFuel.
-/
import Derived.Test.YtbbfmlehddfneaaPkWire
import Derived.Test.YtbbfmlehddfneaaPkFix
import Derived.Laws.AppendOwnNone
import Derived.Deep.Slices
import Derived.Deep.DeepCutAuto
namespace Go.Proofs.Ytbbfmlehddfneaa
set_option linter.unusedVariables false

/-- an instruction -/
structure In where
  op : Int
  dst : Int
  a : Int
  b : Int
  imm : Int
deriving DecidableEq
instance : Inhabited In := ⟨⟨0, 0, 0, 0, 0⟩⟩
/-- its numbers are of their types -/
def In.ok (x : In) : Prop := (0 ≤ x.op ∧ x.op ≤ 255) ∧ (0 ≤ x.dst ∧ x.dst ≤ 255) ∧ (0 ≤ x.a ∧ x.a ≤ 255) ∧ (0 ≤ x.b ∧ x.b ≤ 255) ∧ (-32768 ≤ x.imm ∧ x.imm ≤ 32767)

/-- the body of the instruction x at k has i -/
def hasB (x : In) (k i : Int) : Bool := decide (x.op = 12) && (decide (k + 1 ≤ i) && decide (i < k + 1 + x.b))
theorem hasB_iff {x : In} {k i : Int} : hasB x k i = true ↔ x.op = 12 ∧ k + 1 ≤ i ∧ i < k + 1 + x.b := by simp [hasB]

def around (xs : List In) (i : Int) : Int := match (List.range xs.length).find? (fun (k : Nat) => hasB (xs.getD k default) (k : Int) i) with
  | some k => k
  | none => -1
theorem getD_of {xs : List In} {k : Nat} {x : In} (h : xs[k]? = some x) : xs.getD k default = x := by simp [List.getD, h]
theorem find_range {n : Nat} {p : Nat → Bool} {k : Nat} (hk : k < n) (hp : p k = true) (hf : ∀ j, j < k → p j = false) : (List.range n).find? p = some k := by
  rw [List.find?_range_eq_some]
  refine ⟨hp, by simpa using hk, fun j hj => by simp [hf j hj]⟩
theorem find_range_none {n : Nat} {p : Nat → Bool} (hf : ∀ j, j < n → p j = false) : (List.range n).find? p = none := by
  rw [List.find?_range_eq_none]
  intro j hj
  simp [hf j hj]
theorem around_none {xs : List In} {i : Int} (h : ∀ (k : Nat) x, xs[k]? = some x → hasB x k i = false) : around xs i = -1 := by
  unfold around
  rw [find_range_none fun j hj => h j _ (by simp [List.getD, hj])]
theorem around_at {xs : List In} {i : Int} {k : Nat} {x : In} (hx : xs[k]? = some x) (hb : hasB x k i = true) (hf : ∀ (j : Nat) y, j < k → xs[j]? = some y → hasB y j i = false) : around xs i = k := by
  have hk : k < xs.length := (List.getElem?_eq_some_iff.1 hx).1
  unfold around
  rw [find_range hk (by rw [getD_of hx]; exact hb) fun j hj => hf j _ hj (by
    have : j < xs.length := by omega
    simp [List.getD, this])]
theorem around_cases (xs : List In) (i : Int) : (around xs i = -1 ∧ ∀ (k : Nat) x, xs[k]? = some x → hasB x k i = false) ∨ ∃ (k : Nat) (x : In), around xs i = k ∧ xs[k]? = some x ∧ hasB x k i = true ∧ ∀ (j : Nat) y, j < k → xs[j]? = some y → hasB y j i = false := by
  unfold around
  cases h : (List.range xs.length).find? (fun (k : Nat) => hasB (xs.getD k default) (k : Int) i) with
  | none =>
    left
    refine ⟨rfl, fun k x hx => ?_⟩
    have hk : k < xs.length := (List.getElem?_eq_some_iff.1 hx).1
    have := List.find?_range_eq_none.1 h k hk
    rw [getD_of hx] at this
    simpa using this
  | some k =>
    right
    obtain ⟨h1, h2, h3⟩ := List.find?_range_eq_some.1 h
    have hk : k < xs.length := by simpa using h2
    have hx : xs[k]? = some xs[k] := by simp [hk]
    refine ⟨k, xs[k], rfl, hx, ?_, fun j y hj hy => ?_⟩
    · rw [getD_of hx] at h1; exact h1
    · have := h3 j hj
      rw [getD_of hy] at this
      simpa using this
theorem around_ge (xs : List In) (i : Int) : -1 ≤ around xs i ∧ around xs i ≤ xs.length := by
  rcases around_cases xs i with ⟨h, _⟩ | ⟨k, x, h, hx, _⟩
  · omega
  · have hk : k < xs.length := (List.getElem?_eq_some_iff.1 hx).1
    omega

/-- where the body of the loop at r ends -/
def bodyEnd (xs : List In) (r : Int) : Option Int := if r < 0 then none else match xs[r.toNat]? with
  | some x => if x.op = 12 then some (r + 1 + x.b) else none
  | none => none
theorem bodyEnd_at {xs : List In} {k : Nat} {x : In} (hx : xs[k]? = some x) (h : x.op = 12) : bodyEnd xs k = some (k + 1 + x.b) := by
  unfold bodyEnd
  rw [if_neg (by omega), Int.toNat_natCast, hx]
  simp [h]
theorem bodyEnd_not {xs : List In} {k : Nat} {x : In} (hx : xs[k]? = some x) (h : x.op ≠ 12) : bodyEnd xs k = none := by
  unfold bodyEnd
  rw [if_neg (by omega), Int.toNat_natCast, hx]
  simp [h]
theorem bodyEnd_out {xs : List In} {r : Int} (h : r < 0 ∨ (xs.length : Int) ≤ r) : bodyEnd xs r = none := by
  unfold bodyEnd
  by_cases h0 : r < 0
  · rw [if_pos h0]
  · rw [if_neg h0, List.getElem?_eq_none (by omega)]
def overB (xs : List In) (r t : Int) : Bool := match bodyEnd xs r with
  | some e => decide (e < t)
  | none => false

def regs (x : In) : Bool := !(decide (11 < x.dst) || decide (11 < x.a)) && (!(decide (11 < x.b) && decide (x.op ≠ 12)) && (decide (x.op ≠ 14) || decide (x.a ≤ 8)))
def loopH (xs : List In) (i : Int) (x : In) : Bool := !(decide (x.b = 0) || decide ((xs.length : Int) < i + 1 + x.b)) && (decide (1 ≤ x.imm) && (decide (x.imm ≤ 8) && decide (around xs i = -1)))
def skipH (xs : List In) (i : Int) (x : In) : Bool := !(decide (x.imm < 1) || decide ((xs.length : Int) < i + 1 + x.imm)) && (!(overB xs (around xs i) (i + 1 + x.imm)) && (decide (around xs (i + 1 + x.imm) = -1) || decide (around xs (i + 1 + x.imm) = around xs i)))
theorem loopH_iff {xs : List In} {i : Int} {x : In} : loopH xs i x = true ↔ x.b ≠ 0 ∧ i + 1 + x.b ≤ xs.length ∧ 1 ≤ x.imm ∧ x.imm ≤ 8 ∧ around xs i = -1 := by
  simp [loopH, and_assoc]
theorem skipH_iff {xs : List In} {i : Int} {x : In} : skipH xs i x = true ↔ 1 ≤ x.imm ∧ i + 1 + x.imm ≤ xs.length ∧ overB xs (around xs i) (i + 1 + x.imm) = false ∧ (around xs (i + 1 + x.imm) = -1 ∨ around xs (i + 1 + x.imm) = around xs i) := by
  simp [skipH, and_assoc]

def at1 (d : Bool) (xs : List In) (i : Int) (x : In) : Int :=
  if decide (15 ≤ x.op) || (decide (x.op = 13) && !d) then 5
  else if !regs x then 2
  else if (decide (x.op = 12) && !loopH xs i x) || (decide (x.op = 11) && !skipH xs i x) then 12
  else 0
theorem at1_zero {d : Bool} {xs : List In} {i : Int} {x : In} : at1 d xs i x = 0 ↔ x.op < 15 ∧ (x.op = 13 → d = true) ∧ regs x = true ∧ (x.op = 12 → loopH xs i x = true) ∧ (x.op = 11 → skipH xs i x = true) := by
  unfold at1
  by_cases h1 : (decide (15 ≤ x.op) || (decide (x.op = 13) && !d)) = true
  · rw [if_pos h1]
    simp at h1
    constructor
    · intro h; omega
    · rintro ⟨a1, a2, _⟩
      rcases h1 with h1 | ⟨h1, h2⟩
      · omega
      · rw [a2 h1] at h2; cases h2
  · rw [if_neg h1]
    simp at h1
    by_cases h2 : (!regs x) = true
    · rw [if_pos h2]
      simp at h2
      constructor
      · intro h; omega
      · rintro ⟨_, _, a3, _⟩
        rw [h2] at a3; cases a3
    · rw [if_neg h2]
      simp at h2
      by_cases h3 : ((decide (x.op = 12) && !loopH xs i x) || (decide (x.op = 11) && !skipH xs i x)) = true
      · rw [if_pos h3]
        simp at h3
        constructor
        · intro h; omega
        · rintro ⟨_, _, _, a4, a5⟩
          rcases h3 with ⟨b1, b2⟩ | ⟨b1, b2⟩
          · rw [a4 b1] at b2; cases b2
          · rw [a5 b1] at b2; cases b2
      · rw [if_neg h3]
        simp at h3
        exact ⟨fun _ => ⟨h1.1, h1.2, h2, h3.1, h3.2⟩, fun _ => rfl⟩
theorem at1_bd (d : Bool) (xs : List In) (i : Int) (x : In) : at1 d xs i x = 0 ∨ at1 d xs i x = 2 ∨ at1 d xs i x = 5 ∨ at1 d xs i x = 12 := by
  unfold at1
  split
  · omega
  · split
    · omega
    · split <;> omega

def allAt (d : Bool) (xs : List In) : Prop := ∀ (i : Nat) x, xs[i]? = some x → at1 d xs i x = 0

def extra (x : In) : Int := if x.op = 12 then x.b * (maxI x.imm 1 - 1) else 0
def extraL : List In → Int
  | [] => 0
  | x :: r => extra x + extraL r
def fuelL (xs : List In) : Int := xs.length + extraL xs
theorem extraL_append (p q : List In) : extraL (p ++ q) = extraL p + extraL q := by
  induction p with
  | nil => simp [extraL]
  | cons x r ih => simp [extraL, ih]; omega
theorem fuelL_append (p q : List In) : fuelL (p ++ q) = fuelL p + fuelL q := by
  unfold fuelL
  rw [extraL_append, List.length_append]
  omega
theorem extra_bd {x : In} (h : x.ok) : 0 ≤ extra x ∧ extra x ≤ 8355585 := by
  obtain ⟨_, _, _, hb, hi⟩ := h
  unfold extra
  split
  · have h1 : 0 ≤ maxI x.imm 1 - 1 ∧ maxI x.imm 1 - 1 ≤ 32767 := by unfold maxI; split <;> omega
    refine ⟨Int.mul_nonneg hb.1 h1.1, ?_⟩
    calc x.b * (maxI x.imm 1 - 1) ≤ 255 * (maxI x.imm 1 - 1) := Int.mul_le_mul_of_nonneg_right hb.2 h1.1
      _ ≤ 8355585 := by omega
  · omega
theorem extraL_bd {xs : List In} (h : ∀ x ∈ xs, x.ok) : 0 ≤ extraL xs ∧ extraL xs ≤ 8355585 * xs.length := by
  induction xs with
  | nil => simp [extraL]
  | cons x r ih =>
    have h1 := extra_bd (h x (by simp))
    have h2 := ih fun y hy => h y (by simp [hy])
    simp only [extraL, List.length_cons]
    omega
theorem take_snoc {xs : List In} {j : Nat} {x : In} (h : xs[j]? = some x) : xs.take (j + 1) = xs.take j ++ [x] := by
  rw [List.take_add_one, h]
  rfl
theorem extraL_snoc {xs : List In} {j : Nat} {x : In} (h : xs[j]? = some x) : extraL (xs.take (j + 1)) = extraL (xs.take j) + extra x := by
  rw [take_snoc h, extraL_append]
  simp [extraL]

/-- Check's answer -/
def chk (d : Bool) (xs : List In) : Int :=
  if 24 < xs.length then 7 else match (List.range xs.length).find? (fun (k : Nat) => decide (at1 d xs (k : Int) (xs.getD k default) ≠ 0)) with
    | some k => at1 d xs k (xs.getD k default)
    | none => if 200 < fuelL xs then 6 else 0
theorem chk_many {d : Bool} {xs : List In} (h : 24 < xs.length) : chk d xs = 7 := by unfold chk; rw [if_pos h]
theorem chk_at {d : Bool} {xs : List In} (h : xs.length ≤ 24) {k : Nat} {x : In} (hx : xs[k]? = some x) (hb : at1 d xs k x ≠ 0) (hf : ∀ (j : Nat) y, j < k → xs[j]? = some y → at1 d xs j y = 0) : chk d xs = at1 d xs k x := by
  have hk : k < xs.length := (List.getElem?_eq_some_iff.1 hx).1
  unfold chk
  rw [if_neg (by omega), find_range hk (by rw [getD_of hx]; simpa using hb) fun j hj => by
    have hj' : j < xs.length := by omega
    have := hf j xs[j] hj (by simp [hj'])
    rw [getD_of (x := xs[j]) (by simp [hj'])]
    simpa using this]
  show at1 d xs (k : Int) (xs.getD k default) = _
  rw [getD_of hx]
theorem chk_all {d : Bool} {xs : List In} (h : xs.length ≤ 24) (ha : allAt d xs) : chk d xs = if 200 < fuelL xs then 6 else 0 := by
  unfold chk
  rw [if_neg (by omega), find_range_none fun j hj => by
    have := ha j xs[j] (by simp [hj])
    rw [getD_of (x := xs[j]) (by simp [hj])]
    simpa using this]
theorem chk_zero {d : Bool} {xs : List In} (h : chk d xs = 0) : xs.length ≤ 24 ∧ allAt d xs ∧ fuelL xs ≤ 200 := by
  have hl : xs.length ≤ 24 := by
    rcases Nat.lt_or_ge 24 xs.length with h1 | h1
    · rw [chk_many h1] at h; omega
    · exact h1
  have ha : allAt d xs := by
    intro i x hx
    by_cases hall : ∀ (j : Nat) y, xs[j]? = some y → at1 d xs j y = 0
    · exact hall i x hx
    · exfalso
      unfold chk at h
      rw [if_neg (by omega)] at h
      cases hf : (List.range xs.length).find? (fun (k : Nat) => decide (at1 d xs (k : Int) (xs.getD k default) ≠ 0)) with
      | none =>
        refine hall fun j y hy => ?_
        have hj : j < xs.length := (List.getElem?_eq_some_iff.1 hy).1
        have := List.find?_range_eq_none.1 hf j hj
        rw [getD_of hy] at this
        simpa using this
      | some k =>
        rw [hf] at h
        obtain ⟨h1, _, _⟩ := List.find?_range_eq_some.1 hf
        simp at h1
        exact h1 h
  refine ⟨hl, ha, ?_⟩
  rw [chk_all hl ha] at h
  split at h <;> omega
theorem chk_bd (d : Bool) (xs : List In) : 0 ≤ chk d xs ∧ chk d xs ≤ 12 := by
  unfold chk
  split
  · omega
  · split
    · rename_i k _
      have := at1_bd d xs k (xs.getD k default)
      omega
    · split <;> omega

/- joined -/
theorem get_left {p q : List In} {k : Nat} {x : In} (h : p[k]? = some x) : (p ++ q)[k]? = some x := by
  have hk : k < p.length := (List.getElem?_eq_some_iff.1 h).1
  rw [List.getElem?_append_left hk, h]
theorem get_cases {p q : List In} {k : Nat} {x : In} (h : (p ++ q)[k]? = some x) : p[k]? = some x ∨ ∃ j, k = p.length + j ∧ q[j]? = some x := by
  rcases Nat.lt_or_ge k p.length with hk | hk
  · left; rwa [List.getElem?_append_left hk] at h
  · right
    rw [List.getElem?_append_right hk] at h
    exact ⟨k - p.length, by omega, h⟩
theorem get_right {p q : List In} {j : Nat} {x : In} (h : q[j]? = some x) : (p ++ q)[p.length + j]? = some x := by
  rw [List.getElem?_append_right (by omega)]
  simpa using h
theorem around_left (p q : List In) {i : Int} (hi : i ≤ p.length) : around (p ++ q) i = around p i := by
  rcases around_cases p i with ⟨e, h⟩ | ⟨k, x, e, hx, hb, hf⟩
  · rw [e]
    refine around_none fun k x hx => ?_
    rcases get_cases hx with hz | ⟨j, rfl, hz⟩
    · exact h k x hz
    · cases hh : hasB x ((p.length + j : Nat) : Int) i with
      | false => rfl
      | true => have := hasB_iff.1 hh; omega
  · rw [e]
    refine around_at (get_left hx) hb fun j y hj hy => ?_
    have hk : k < p.length := (List.getElem?_eq_some_iff.1 hx).1
    rw [List.getElem?_append_left (by omega)] at hy
    exact hf j y hj hy
/-- no body goes beyond the end -/
def fits (p : List In) : Prop := ∀ (k : Nat) x, p[k]? = some x → x.op = 12 → (k : Int) + 1 + x.b ≤ p.length
theorem allAt.fits {d : Bool} {p : List In} (h : allAt d p) : fits p := fun k x hx ho => (loopH_iff.1 ((at1_zero.1 (h k x hx)).2.2.2.1 ho)).2.1
def shiftR (n : Nat) (r : Int) : Int := if r = -1 then -1 else n + r
theorem hasB_shift (x : In) (n k : Nat) (i : Int) : hasB x ((n + k : Nat) : Int) (n + i) = hasB x k i := by
  rw [Bool.eq_iff_iff, hasB_iff, hasB_iff]
  omega
theorem around_right {p : List In} (hp : fits p) (q : List In) {i : Int} (hi : 0 ≤ i) : around (p ++ q) (p.length + i) = shiftR p.length (around q i) := by
  have hl : ∀ (k : Nat) x, p[k]? = some x → hasB x k (p.length + i) = false := fun k x hx => by
    cases hh : hasB x k (p.length + i) with
    | false => rfl
    | true =>
      have h1 := hasB_iff.1 hh
      have := hp k x hx h1.1
      omega
  rcases around_cases q i with ⟨e, h⟩ | ⟨k, x, e, hx, hb, hf⟩
  · rw [e]
    refine around_none fun k x hx => ?_
    rcases get_cases hx with hz | ⟨j, rfl, hz⟩
    · exact hl k x hz
    · rw [hasB_shift]; exact h j x hz
  · rw [e, show shiftR p.length (k : Int) = ((p.length + k : Nat) : Int) by unfold shiftR; rw [if_neg (by omega)]; omega]
    refine around_at (get_right hx) (by rw [hasB_shift]; exact hb) fun j y hj hy => ?_
    rcases get_cases hy with hz | ⟨j, rfl, hz⟩
    · exact hl _ y hz
    · rw [hasB_shift]; exact hf _ y (by omega) hz
theorem overB_around {xs : List In} {i t : Int} : overB xs (around xs i) t = false ↔ ∀ (k : Nat) x, around xs i = k → xs[k]? = some x → t ≤ k + 1 + x.b := by
  rcases around_cases xs i with ⟨e, h⟩ | ⟨k, x, e, hx, hb, hf⟩
  · rw [e]
    unfold overB
    rw [bodyEnd_out (.inl (by omega))]
    exact ⟨fun _ k x h => by omega, fun _ => rfl⟩
  · rw [e]
    unfold overB
    rw [bodyEnd_at hx (hasB_iff.1 hb).1]
    constructor
    · intro h k' x' hk' hx'
      obtain rfl : k = k' := by omega
      rw [hx] at hx'
      cases hx'
      simpa using h
    · intro h
      simpa using h k x rfl hx
theorem allAt_append {d : Bool} {p q : List In} (hp : allAt d p) (hq : allAt d q) : allAt d (p ++ q) := by
  have hfp := hp.fits
  intro i x hx
  rw [at1_zero]
  rcases get_cases hx with hz | ⟨j, rfl, hz⟩
  · have hi : i < p.length := (List.getElem?_eq_some_iff.1 hz).1
    obtain ⟨h1, h2, h3, h4, h5⟩ := at1_zero.1 (hp i x hz)
    refine ⟨h1, h2, h3, fun ho => ?_, fun ho => ?_⟩
    · have := loopH_iff.1 (h4 ho)
      rw [loopH_iff, around_left p q (by omega), List.length_append]
      exact ⟨this.1, by omega, this.2.2⟩
    · obtain ⟨a1, a2, a3, a4⟩ := skipH_iff.1 (h5 ho)
      rw [skipH_iff, around_left p q (by omega), around_left p q (by omega), List.length_append]
      refine ⟨a1, by omega, ?_, a4⟩
      have a3' := overB_around.1 a3
      rw [← around_left p q (i := (i : Int)) (by omega), overB_around, around_left p q (by omega)]
      intro k y hk hy
      rcases get_cases hy with hz | ⟨j, rfl, hz⟩
      · exact a3' k y hk hz
      · have := around_ge p i
        have hc := around_cases p i
        rcases hc with ⟨e, _⟩ | ⟨k', x', e, hx', _⟩
        · omega
        · have hk' : k' < p.length := (List.getElem?_eq_some_iff.1 hx').1
          omega
  · have hj : j < q.length := (List.getElem?_eq_some_iff.1 hz).1
    obtain ⟨h1, h2, h3, h4, h5⟩ := at1_zero.1 (hq j x hz)
    have ecast : ((p.length + j : Nat) : Int) = (p.length : Int) + (j : Int) := by omega
    refine ⟨h1, h2, h3, fun ho => ?_, fun ho => ?_⟩
    · have := loopH_iff.1 (h4 ho)
      rw [loopH_iff, ecast, around_right hfp q (by omega), this.2.2.2.2, List.length_append]
      exact ⟨this.1, by omega, this.2.2.1, this.2.2.2.1, rfl⟩
    · obtain ⟨a1, a2, a3, a4⟩ := skipH_iff.1 (h5 ho)
      have et : (p.length : Int) + (j : Int) + 1 + x.imm = (p.length : Int) + ((j : Int) + 1 + x.imm) := by omega
      rw [skipH_iff, ecast, et, around_right hfp q (i := (j : Int) + 1 + x.imm) (by omega), List.length_append]
      refine ⟨a1, by omega, ?_, ?_⟩
      · have a3' := overB_around.1 a3
        rw [overB_around, around_right hfp q (by omega)]
        intro k y hk hy
        rcases around_cases q j with ⟨e, _⟩ | ⟨k', x', e, hx', _⟩
        · rw [e] at hk
          unfold shiftR at hk
          simp at hk
        · rw [e] at hk
          unfold shiftR at hk
          rw [if_neg (by omega)] at hk
          obtain rfl : k = p.length + k' := by omega
          have := get_right (p := p) hx'
          rw [hy] at this
          cases this
          have := a3' k' y e hx'
          omega
      · rw [around_right hfp q (by omega)]
        rcases a4 with a4 | a4
        · left; rw [a4]; rfl
        · right; rw [a4]

/- a program that can be mended -/
def special (d : Bool) (x : In) : Bool := decide (x.op = 12) || (decide (x.op = 11) || (decide (x.op = 13) && !d))
def mild (x : In) : Prop := (0 ≤ x.op ∧ x.op ≤ 14) ∧ (0 ≤ x.dst ∧ x.dst ≤ 11) ∧ (0 ≤ x.a ∧ x.a ≤ 8) ∧ (0 ≤ x.b ∧ x.b ≤ 11) ∧ (-32768 ≤ x.imm ∧ x.imm ≤ 32767)
theorem mild.ok {x : In} (h : mild x) : x.ok := by unfold mild at h; unfold In.ok; omega
theorem mild.regs {x : In} (h : mild x) : regs x = true := by
  unfold mild at h
  simp [Go.Proofs.Ytbbfmlehddfneaa.regs]
  omega
def movI : In := ⟨1, 0, 0, 0, 0⟩
theorem mild_mov : mild movI := by unfold mild movI; simp
theorem plain_all {d : Bool} {xs : List In} (hm : ∀ x ∈ xs, mild x) (h : ∀ x ∈ xs, special d x = false) : allAt d xs := by
  intro i x hx
  have hmem : x ∈ xs := List.mem_of_getElem? hx
  have h1 := hm x hmem
  have h2 := h x hmem
  simp [special] at h2
  rw [at1_zero]
  refine ⟨by unfold mild at h1; omega, h2.2.2, h1.regs, fun e => absurd e h2.1, fun e => absurd e h2.2.1⟩
theorem plain_extra {d : Bool} {xs : List In} (h : ∀ x ∈ xs, special d x = false) : extraL xs = 0 := by
  induction xs with
  | nil => rfl
  | cons x r ih =>
    have h1 := h x (by simp)
    simp [special] at h1
    simp only [extraL, extra, if_neg h1.1]
    have := ih fun y hy => h y (by simp [hy])
    omega
theorem special_of_chk {d : Bool} {xs : List In} (hm : ∀ x ∈ xs, mild x) (hl : xs.length ≤ 20) (h : chk d xs ≠ 0) : ∃ (i : Nat) (x : In), xs[i]? = some x ∧ special d x = true := by
  by_cases hs : ∀ x ∈ xs, special d x = false
  · exfalso
    apply h
    rw [chk_all (by omega) (plain_all hm hs), if_neg]
    unfold fuelL
    rw [plain_extra hs]
    omega
  · have : ∃ x, x ∈ xs ∧ special d x = true := by
      apply Classical.byContradiction
      intro hn
      apply hs
      intro x hx
      cases hh : special d x with
      | false => rfl
      | true => exact absurd ⟨x, hx, hh⟩ hn
    obtain ⟨x, hx, h1⟩ := this
    obtain ⟨i, hi⟩ := List.mem_iff_getElem?.1 hx
    exact ⟨i, x, hi, h1⟩
def spN (d : Bool) : List In → Nat
  | [] => 0
  | x :: r => (if special d x = true then 1 else 0) + spN d r
theorem spN_le (d : Bool) (xs : List In) : spN d xs ≤ xs.length := by
  induction xs with
  | nil => simp [spN]
  | cons x r ih => simp only [spN, List.length_cons]; split <;> omega
theorem special_mov (d : Bool) : special d movI = false := by simp [special, movI]
theorem spN_set {d : Bool} {xs : List In} {i : Nat} {x : In} (hx : xs[i]? = some x) (hs : special d x = true) : spN d (xs.set i movI) + 1 = spN d xs := by
  induction xs generalizing i with
  | nil => simp at hx
  | cons y r ih =>
    cases i with
    | zero =>
      simp at hx
      subst hx
      simp only [List.set_cons_zero, spN, hs, special_mov]
      simp
      omega
    | succ i =>
      simp at hx
      simp only [List.set_cons_succ, spN]
      have := ih hx
      omega
theorem mild_set {xs : List In} (hm : ∀ x ∈ xs, mild x) (i : Nat) : ∀ x ∈ xs.set i movI, mild x := fun x hx => by
  rcases List.mem_or_eq_of_mem_set hx with h | h
  · exact hm x h
  · rw [h]; exact mild_mov
/-- how far the mending is, after r rounds -/
def Mend (d : Bool) (n r : Nat) (xs : List In) : Prop := xs.length = n ∧ (∀ x ∈ xs, mild x) ∧ (chk d xs = 0 ∨ spN d xs + r ≤ n)
theorem Mend.start {d : Bool} {xs : List In} (hm : ∀ x ∈ xs, mild x) : Mend d xs.length 0 xs := ⟨rfl, hm, .inr (spN_le d xs)⟩
theorem Mend.stop {d : Bool} {n r : Nat} {xs : List In} (h : Mend d n r xs) (hr : n < r) : chk d xs = 0 := by
  obtain ⟨_, _, h | h⟩ := h
  · exact h
  · omega
theorem Mend.next {d : Bool} {n r : Nat} {xs : List In} (h : Mend d n r xs) (h0 : chk d xs ≠ 0) {i : Nat} {x : In} (hx : xs[i]? = some x) (hs : chk d (xs.set i movI) = 0 ∨ special d x = true) : Mend d n (r + 1) (xs.set i movI) := by
  obtain ⟨h1, h2, h3⟩ := h
  refine ⟨by simpa using h1, mild_set h2 i, ?_⟩
  rcases hs with hs | hs
  · exact .inl hs
  · rcases h3 with h3 | h3
    · exact absurd h3 h0
    · have := spN_set hx hs
      exact .inr (by omega)

/- as bytes -/
def encI (x : In) : List Int := [x.op, x.dst, x.a, x.b] ++ leb (zig x.imm)
def encs : List In → List Int
  | [] => []
  | x :: r => encI x ++ encs r
theorem encs_append (p q : List In) : encs (p ++ q) = encs p ++ encs q := by
  induction p with
  | nil => rfl
  | cons x r ih => simp [encs, ih]
theorem encs_snoc {xs : List In} {j : Nat} {x : In} (h : xs[j]? = some x) : encs (xs.take (j + 1)) = encs (xs.take j) ++ encI x := by
  rw [take_snoc h, encs_append]
  simp [encs]
theorem zig_ok {x : In} (h : x.ok) : zig x.imm < 65536 := by
  obtain ⟨_, _, _, _, h⟩ := h
  unfold zig; split <;> omega
theorem encI_len {x : In} (h : x.ok) : (encI x).length ≤ 7 := by
  have := leb_len 2 (zig x.imm) (by have := zig_ok h; omega)
  simp only [encI, List.length_append, List.length_cons, List.length_nil]
  omega
theorem encs_len {xs : List In} (h : ∀ x ∈ xs, x.ok) : (encs xs).length ≤ 7 * xs.length := by
  induction xs with
  | nil => simp [encs]
  | cons x r ih =>
    have h1 := encI_len (h x (by simp))
    have h2 := ih fun y hy => h y (by simp [hy])
    simp only [encs, List.length_append, List.length_cons]
    omega
def enc (xs : List In) : List Int := leb xs.length ++ encs xs
theorem encI_bytes {x : In} (h : x.ok) : ∀ y ∈ encI x, 0 ≤ y ∧ y ≤ 255 := by
  intro y hy
  obtain ⟨h1, h2, h3, h4, _⟩ := h
  rcases List.mem_append.1 hy with hy | hy
  · simp at hy
    rcases hy with rfl | rfl | rfl | rfl <;> assumption
  · exact leb_bytes _ y hy
theorem encs_bytes {xs : List In} (h : ∀ x ∈ xs, x.ok) : ∀ y ∈ encs xs, 0 ≤ y ∧ y ≤ 255 := by
  induction xs with
  | nil => intro y hy; cases hy
  | cons x r ih =>
    intro y hy
    rcases List.mem_append.1 hy with hy | hy
    · exact encI_bytes (h x (by simp)) y hy
    · exact ih (fun z hz => h z (by simp [hz])) y hy
theorem enc_bytes {xs : List In} (h : ∀ x ∈ xs, x.ok) : ∀ y ∈ enc xs, 0 ≤ y ∧ y ≤ 255 := fun y hy => by
  rcases List.mem_append.1 hy with hy | hy
  · exact leb_bytes _ y hy
  · exact encs_bytes h y hy
end Go.Proofs.Ytbbfmlehddfneaa

namespace Go.Proofs.Ytbbfmlehddfneaa
open Go.RowKit
set_option linter.unusedVariables false

def In.cells (x : In) : List Value := [.int .u8 x.op, .int .u8 x.dst, .int .u8 x.a, .int .u8 x.b, .int .i16 x.imm]
def insV : List In → List Value
  | [] => []
  | x :: r => x.cells ++ insV r
theorem insV_append (l m : List In) : insV (l ++ m) = insV l ++ insV m := by
  induction l with
  | nil => rfl
  | cons x r ih => simp [insV, ih]
theorem insV_length (l : List In) : (insV l).length = l.length * 5 := by
  induction l with
  | nil => rfl
  | cons x r ih => simp [insV, ih, In.cells]; omega
theorem insV_get {l : List In} {j : Nat} {x : In} (h : l[j]? = some x) (i : Nat) (hi : i < 5) : (insV l)[j * 5 + i]? = x.cells[i]? := by
  induction l generalizing j with
  | nil => simp at h
  | cons y r ih =>
    cases j with
    | zero =>
      simp at h
      subst h
      rw [Nat.zero_mul, Nat.zero_add, insV, List.getElem?_append_left (by simpa [In.cells] using hi)]
    | succ j =>
      simp at h
      rw [insV, List.getElem?_append_right (by simp [In.cells]; omega)]
      rw [show (j + 1) * 5 + i - y.cells.length = j * 5 + i by simp [In.cells]; omega]
      exact ih h
theorem insV_set {l : List In} {j : Nat} (hj : j < l.length) (x : In) : insV (l.set j x) = (((((insV l).set (j * 5) (.int .u8 x.op)).set (j * 5 + 1) (.int .u8 x.dst)).set (j * 5 + 2) (.int .u8 x.a)).set (j * 5 + 3) (.int .u8 x.b)).set (j * 5 + 4) (.int .i16 x.imm) := by
  induction l generalizing j with
  | nil => simp at hj
  | cons y r ih =>
    cases j with
    | zero => simp [insV, In.cells]
    | succ j =>
      have := ih (j := j) (by simpa using hj)
      rw [List.set_cons_succ, insV, this]
      rw [show (j + 1) * 5 = j * 5 + 5 by omega]
      simp [insV, In.cells]
theorem insV_one (l : List In) : ∀ u ∈ insV l, u.oneCell' = true := by
  induction l with
  | nil => intro u hu; cases hu
  | cons x r ih =>
    intro u hu
    rcases List.mem_append.1 hu with h | h
    · simp [In.cells] at h
      rcases h with rfl | rfl | rfl | rfl | rfl <;> rfl
    · exact ih u h

/-- v is a slice of the call's own (of a block from base on) and holds these instructions -/
def OwnP (w : World) (base : Nat) (v : Value) (l : List In) : Prop := w.ownsRow base 72 5 v l.length (insV l)

theorem OwnP.lt {w : World} {base : Nat} {v : Value} {l : List In} (h : OwnP w base v l) : ∀ k, v.ownBlock = some k → base ≤ k ∧ k < w.heap.size := World.ownsRow.lt h
theorem OwnP.nil (w : World) (base : Nat) : OwnP w base (.slice none 0 0) [] := World.ownsRow_nil w base _ 5
theorem OwnP.kept {w w' : World} {base : Nat} {v : Value} {l : List In} (h : OwnP w base v l) (hb : ∀ k, v.ownBlock = some k → w'.heap[k]? = w.heap[k]?) : OwnP w' base v l := by
  obtain ⟨h1, h2⟩ := h
  refine ⟨h1, ?_⟩
  rcases h2 with h2 | ⟨g, cap, cur, rfl, a1, a2, a3, a4, a5, a6⟩
  · exact .inl h2
  · exact .inr ⟨g, cap, cur, rfl, a1, (hb g rfl).trans a2, a3, a4, a5, a6⟩
theorem OwnP.ext {w w' : World} {base : Nat} {v : Value} {l : List In} (h : OwnP w base v l) (hx : Ext w w') : OwnP w' base v l := h.kept fun k hk => hx.block (h.lt k hk).2
theorem OwnP.calm {O : List Nat} {w w' : World} {base : Nat} {v : Value} {l : List In} (h : OwnP w base v l) (hx : Calm O w w') (hO : ∀ k, v.ownBlock = some k → k ∉ O) : OwnP w' base v l := h.kept fun k hk => hx.block k (h.lt k hk).2 (hO k hk)
theorem OwnP.mono {w : World} {base base' : Nat} {v : Value} {l : List In} (h : OwnP w base v l) (hb : base' ≤ base) : OwnP w base' v l := by
  obtain ⟨h1, h2⟩ := h
  refine ⟨h1, ?_⟩
  rcases h2 with h2 | ⟨g, cap, cur, rfl, a1, a2⟩
  · exact .inl h2
  · exact .inr ⟨g, cap, cur, rfl, Nat.le_trans hb a1, a2⟩
theorem OwnP.slice {w : World} {base : Nat} {v : Value} {l : List In} (h : OwnP w base v l) : ∃ (ao : Option Addr) (c : Nat), v = .slice ao l.length c ∧ (ao = none → l = [] ∧ c = 0) ∧ ∀ a, ao = some a → a = ⟨a.block, 0, none⟩ := by
  rcases h.2 with ⟨rfl, h0⟩ | ⟨g, cap, cur, rfl, _⟩
  · have h0' : l = [] := List.eq_nil_of_length_eq_zero h0
    subst h0'
    exact ⟨none, 0, rfl, (fun _ => ⟨rfl, rfl⟩), (fun a ha => by cases ha)⟩
  · exact ⟨_, cap, rfl, (fun h => by cases h), (fun a ha => by cases ha; rfl)⟩
/-- an instruction, where it lies -/
theorem OwnP.nth {w : World} {base : Nat} {ao : Option Addr} {n c : Nat} {l : List In} (h : OwnP w base (.slice ao n c) l) (j : Nat) (hj : j < l.length) : ∃ g x, ao = some ⟨g, 0, none⟩ ∧ n = l.length ∧ l[j]? = some x ∧ w.cell? ⟨g, j * 5, none⟩ = some (.int .u8 x.op) ∧ w.cell? ⟨g, j * 5 + 1, none⟩ = some (.int .u8 x.dst) ∧ w.cell? ⟨g, j * 5 + 2, none⟩ = some (.int .u8 x.a) ∧ w.cell? ⟨g, j * 5 + 3, none⟩ = some (.int .u8 x.b) ∧ w.cell? ⟨g, j * 5 + 4, none⟩ = some (.int .i16 x.imm) := by
  have h' : w.ownsRow base 72 5 (.slice ao n c) l.length (insV l) := h
  rcases h.2 with ⟨e, h0⟩ | ⟨g, cap, cur, e, _⟩
  · omega
  · cases e
    have hx : l[j]? = some l[j] := by simp [hj]
    refine ⟨g, l[j], rfl, rfl, hx, ?_, ?_, ?_, ?_, ?_⟩
    · have := World.ownsRow.cellAt h' (j * 5) (by omega)
      rw [this]; exact insV_get hx 0 (by omega)
    · have := World.ownsRow.cellAt h' (j * 5 + 1) (by omega)
      rw [this]; exact insV_get hx 1 (by omega)
    · have := World.ownsRow.cellAt h' (j * 5 + 2) (by omega)
      rw [this]; exact insV_get hx 2 (by omega)
    · have := World.ownsRow.cellAt h' (j * 5 + 3) (by omega)
      rw [this]; exact insV_get hx 3 (by omega)
    · have := World.ownsRow.cellAt h' (j * 5 + 4) (by omega)
      rw [this]; exact insV_get hx 4 (by omega)
theorem OwnP.thaw {w : World} {base g c n : Nat} {L : List In} (h : OwnP w base (.slice (some ⟨g, 0, none⟩) n c) L) (hn : n = L.length) (j : Nat) : w.frozen? ⟨g, j, none⟩ = false := by
  subst hn
  exact World.ownsRow.frozenAt h j
/-- a whole instruction is stored -/
theorem OwnP.put {w : World} {base g c n : Nat} {L : List In} (h : OwnP w base (.slice (some ⟨g, 0, none⟩) n c) L) (hn : n = L.length) (j : Nat) (hj : j < L.length) (x : In) : OwnP (((((w.setCell ⟨g, j * 5, none⟩ (.int .u8 x.op)).setCell ⟨g, j * 5 + 1, none⟩ (.int .u8 x.dst)).setCell ⟨g, j * 5 + 2, none⟩ (.int .u8 x.a)).setCell ⟨g, j * 5 + 3, none⟩ (.int .u8 x.b)).setCell ⟨g, j * 5 + 4, none⟩ (.int .i16 x.imm)) base (.slice (some ⟨g, 0, none⟩) n c) (L.set j x) := by
  subst hn
  have h1 := (World.ownsRow.stored h (j * 5) (.int .u8 x.op)).1
  have h2 := (World.ownsRow.stored h1 (j * 5 + 1) (.int .u8 x.dst)).1
  have h3 := (World.ownsRow.stored h2 (j * 5 + 2) (.int .u8 x.a)).1
  have h4 := (World.ownsRow.stored h3 (j * 5 + 3) (.int .u8 x.b)).1
  have h5 := (World.ownsRow.stored h4 (j * 5 + 4) (.int .i16 x.imm)).1
  unfold OwnP
  rw [List.length_set, insV_set hj]
  exact h5

/-- v is a slice that can be read and holds these instructions -/
def PArr (w : World) (v : Value) (xs : List In) : Prop := ∃ ao cap, v = .slice ao xs.length cap ∧ (xs ≠ [] → ∃ b off, ao = some ⟨b, off, none⟩ ∧ ∀ (j : Nat) x, xs[j]? = some x → w.cell? ⟨b, off + j * 5, none⟩ = some (.int .u8 x.op) ∧ w.cell? ⟨b, off + j * 5 + 1, none⟩ = some (.int .u8 x.dst) ∧ w.cell? ⟨b, off + j * 5 + 2, none⟩ = some (.int .u8 x.a) ∧ w.cell? ⟨b, off + j * 5 + 3, none⟩ = some (.int .u8 x.b) ∧ w.cell? ⟨b, off + j * 5 + 4, none⟩ = some (.int .i16 x.imm))
theorem PArr.slice {w : World} {v : Value} {xs : List In} (h : PArr w v xs) : ∃ (ao : Option Addr) (c : Nat), v = .slice ao xs.length c ∧ True ∧ True := by
  obtain ⟨ao, c, rfl, _⟩ := h
  exact ⟨ao, c, rfl, trivial, trivial⟩
theorem PArr.ext {w w' : World} {v : Value} {xs : List In} (h : PArr w v xs) (hx : Ext w w') : PArr w' v xs := by
  obtain ⟨ao, c, rfl, h1⟩ := h
  refine ⟨ao, c, rfl, fun hne => ?_⟩
  obtain ⟨b, off, rfl, hc⟩ := h1 hne
  exact ⟨b, off, rfl, fun j x hj => ⟨hx.old (hc j x hj).1, hx.old (hc j x hj).2.1, hx.old (hc j x hj).2.2.1, hx.old (hc j x hj).2.2.2.1, hx.old (hc j x hj).2.2.2.2⟩⟩
theorem PArr.qt {w w' : World} {v : Value} {xs : List In} (h : PArr w v xs) (q : Qt w w') : PArr w' v xs := h.ext ((Ext.refl w).qt q)
theorem PArr.nth {w : World} {ao : Option Addr} {n c : Nat} {xs : List In} (h : PArr w (.slice ao n c) xs) (j : Nat) (hj : j < xs.length) : ∃ g off x, ao = some ⟨g, off, none⟩ ∧ n = xs.length ∧ xs[j]? = some x ∧ w.cell? ⟨g, off + j * 5, none⟩ = some (.int .u8 x.op) ∧ w.cell? ⟨g, off + j * 5 + 1, none⟩ = some (.int .u8 x.dst) ∧ w.cell? ⟨g, off + j * 5 + 2, none⟩ = some (.int .u8 x.a) ∧ w.cell? ⟨g, off + j * 5 + 3, none⟩ = some (.int .u8 x.b) ∧ w.cell? ⟨g, off + j * 5 + 4, none⟩ = some (.int .i16 x.imm) := by
  obtain ⟨ao', c', e, h1⟩ := h
  cases e
  obtain ⟨b, off, rfl, hc⟩ := h1 (by intro e; subst e; simp at hj)
  exact ⟨b, off, xs[j], rfl, rfl, by simp [hj], hc j xs[j] (by simp [hj])⟩
theorem OwnP.parr {w : World} {base : Nat} {v : Value} {l : List In} (h : OwnP w base v l) : PArr w v l := by
  have h' := h
  obtain ⟨ao, c, rfl, h0, ha⟩ := h.slice
  refine ⟨ao, c, rfl, fun hne => ?_⟩
  cases ao with
  | none => exact absurd (h0 rfl).1 hne
  | some a =>
    obtain ⟨g, rfl⟩ : ∃ g, a = ⟨g, 0, none⟩ := ⟨a.block, ha a rfl⟩
    refine ⟨g, 0, rfl, fun j x hj => ?_⟩
    obtain ⟨g', y, e, _, hy, c0, c1, c2, c3, c4⟩ := h'.nth j (List.getElem?_eq_some_iff.1 hj).1
    cases e
    rw [hj] at hy
    cases hy
    rw [Nat.zero_add]
    exact ⟨c0, c1, c2, c3, c4⟩

theorem info_in : (Try.prog.info? 72).map (fun i => (i.zero, i.size, i.bytes)) = some (some (.agg #[.int .u8 0, .int .u8 0, .int .u8 0, .int .u8 0, .int .i16 0]), 5, 6) := by kernel_rfl

/-- what appending instructions to a slice of the call's own comes to: it stays in its block, or moves to a new one -/
theorem run_append_ins {w : World} (ty : TypeId) (base : Nat) (v : Value) (l : List In) (hown : OwnP w base v l) (ad : Addr) (c : Nat) (m : List In) (hm : ∀ j u, (insV m)[j]? = some u → w.cell? (ad.add j) = some u) (hlen : l.length + m.length ≤ 1000000) (hbase : base ≤ w.heap.size) :
    ∃ v' w', (Builtin.append_ #[74, 74] ty #[v, .slice (some ad) m.length c]).run Try.prog w = .ok v' w' ∧ OwnP w' base v' (l ++ m) ∧ Calm v.ownBlock.toList w w' ∧ ∀ k, v'.ownBlock = some k → v.ownBlock = some k ∨ k = w.heap.size := by
  obtain ⟨i, hi, hz, h1, h2⟩ := info_parts info_in
  have hm' := hm
  have hl1 : (insV m).length = m.length * i.size := by rw [insV_length, h1]
  obtain ⟨v', w', hr, a1, a2, a3⟩ := run_append_own (P := Try.prog) w base 74 ty 72 i (.agg #[.int .u8 0, .int .u8 0, .int .u8 0, .int .u8 0, .int .i16 0]) 5 6 Try.underlying74 hi hz h1 h2 rfl (by decide) v l.length (insV l) hown ad m.length c (insV m) (by rw [insV_length]) hm' (insV_one m) (by simp only [maxLen]; omega) (by omega) hbase
  refine ⟨v', w', hr, by unfold OwnP; rw [List.length_append, insV_append]; exact a1, calm_grownBy a2, fun k hk => ?_⟩
  rcases hown.2 with ⟨rfl, h0⟩ | ⟨g, cap, cur, rfl, b1, b2, b3, b4, b5, b6⟩
  · by_cases hm0 : m.length = 0
    · have : v' = .slice none 0 0 := a3.2 ⟨rfl, hm0⟩
      rw [this] at hk; cases hk
    · have e := run_append_nil (P := Try.prog) w 74 ty 72 i (.agg #[.int .u8 0, .int .u8 0, .int .u8 0, .int .u8 0, .int .i16 0]) Try.underlying74 hi hz ad m.length c (insV m) hl1 hm' (by omega) (by omega) (by rw [h2]; omega)
      rw [hr] at e
      have e' := (Result.ok.inj e).1
      rw [e'] at hk
      exact .inr (Option.some.inj hk).symm
  · by_cases hroom : l.length + m.length ≤ cap
    · have e := run_append_room (P := Try.prog) w 74 ty 72 i Try.underlying74 hi g l.length cap cur b2 ad m.length c (insV m) hl1 hm' (insV_one m) hroom (by rw [h1, insV_length, b5]; omega)
      rw [hr] at e
      have e' := (Result.ok.inj e).1
      rw [e'] at hk
      exact .inl hk
    · have e := run_append_grow (P := Try.prog) w 74 ty 72 i (.agg #[.int .u8 0, .int .u8 0, .int .u8 0, .int .u8 0, .int .i16 0]) Try.underlying74 hi hz ⟨g, 0, none⟩ l.length cap (insV l) (by rw [insV_length, h1]) (World.ownsRow.cells hown (g := g) rfl) ad m.length c (insV m) hl1 hm' (by omega) (by omega) (growslice_fits (by omega) (by rw [h2]; omega))
      rw [hr] at e
      have e' := (Result.ok.inj e).1
      rw [e'] at hk
      exact .inr (Option.some.inj hk).symm

theorem wpList_append_ins {ops : Array Oper} {rest : List Oper} {o : Oper} {a : Act} {w : World} {Q : Exit → Act → World → Prop} (hgd : o.guard = none) (s x : Operand)
    (ho : o.op = .call { callee := .builtin .append, args := #[s, x], argTypes := #[74, 74] }) (base : Nat) (v : Value) (l : List In) (hs : a.eval s = v) (hown : OwnP w base v l)
    (ad : Addr) (c : Nat) (m : List In) (hx : a.eval x = .slice (some ad) m.length c) (hm : ∀ j u, (insV m)[j]? = some u → w.cell? (ad.add j) = some u) (hlen : l.length + m.length ≤ 1000000) (hbase : base ≤ w.heap.size)
    (h : ∀ v' w', OwnP w' base v' (l ++ m) → Calm v.ownBlock.toList w w' → (∀ k, v'.ownBlock = some k → v.ownBlock = some k ∨ k = w.heap.size) → wpList Try.prog ops Q rest (a.put o.dst v') w') : wpList Try.prog ops Q (o :: rest) a w :=
  wpList_plain hgd fun K hK => by
    obtain ⟨v', w', hr, h1, h2, h3⟩ := run_append_ins o.type base v l hown ad c m hm hlen hbase
    unfold Oper.wp execOp
    simp only [ho, resolve, invoke, builtin, Sem.run_bind, Sem.run_pure, Result.andThen_ok, List.map_toArray, List.map_cons, List.map_nil, hs, hx, hr]
    exact hK _ _ (h v' w' h1 h2 h3)
/-- one instruction -/
theorem wpList_append_in {ops : Array Oper} {rest : List Oper} {o : Oper} {a : Act} {w : World} {Q : Exit → Act → World → Prop} (hgd : o.guard = none) (s x : Operand)
    (ho : o.op = .call { callee := .builtin .append, args := #[s, x], argTypes := #[74, 74] }) (base : Nat) (v : Value) (l : List In) (hs : a.eval s = v) (hown : OwnP w base v l)
    (g c : Nat) (y : In) (hx : a.eval x = .slice (some ⟨g, 0, none⟩) 1 c) (hy : ∀ i u, y.cells[i]? = some u → w.cell? ⟨g, i, none⟩ = some u) (hlen : l.length < 1000000) (hbase : base ≤ w.heap.size)
    (h : ∀ v' w', OwnP w' base v' (l ++ [y]) → Calm v.ownBlock.toList w w' → (∀ k, v'.ownBlock = some k → v.ownBlock = some k ∨ k = w.heap.size) → wpList Try.prog ops Q rest (a.put o.dst v') w') : wpList Try.prog ops Q (o :: rest) a w :=
  wpList_append_ins hgd s x ho base v l hs hown ⟨g, 0, none⟩ c [y] hx (fun j u hj => by
    rw [show insV [y] = y.cells by simp [insV]] at hj
    have := hy j u hj
    rcases Nat.eq_zero_or_pos j with h0 | h0
    · subst h0; simpa [Addr.add] using this
    · simpa [Addr.add, Nat.ne_of_gt h0] using this) (by simp; omega) hbase h
/-- all of another slice of the call's own (or nil) -/
theorem wpList_append_own {ops : Array Oper} {rest : List Oper} {o : Oper} {a : Act} {w : World} {Q : Exit → Act → World → Prop} (hgd : o.guard = none) (s x : Operand)
    (ho : o.op = .call { callee := .builtin .append, args := #[s, x], argTypes := #[74, 74] }) (base : Nat) (v : Value) (l : List In) (hs : a.eval s = v) (hown : OwnP w base v l)
    (base' : Nat) (vx : Value) (m : List In) (hx : a.eval x = vx) (hm : OwnP w base' vx m) (hlen : l.length + m.length ≤ 1000000) (hbase : base ≤ w.heap.size)
    (h : ∀ v' w', OwnP w' base v' (l ++ m) → Calm v.ownBlock.toList w w' → (∀ k, v'.ownBlock = some k → v.ownBlock = some k ∨ k = w.heap.size) → wpList Try.prog ops Q rest (a.put o.dst v') w') : wpList Try.prog ops Q (o :: rest) a w := by
  obtain ⟨ao, c, rfl, h1, h2⟩ := hm.slice
  cases ao with
  | none =>
    obtain ⟨rfl, rfl⟩ := h1 rfl
    obtain ⟨i, hi, _, _, _⟩ := info_parts info_in
    refine wpList_append_own_none hgd s x 74 ho base 72 i 5 Try.underlying74 hi v l.length (insV l) hs hown hx (h v w (by simpa using hown) (Calm.refl _ _) fun k hk => .inl hk)
  | some ad =>
    have e := h2 ad rfl
    rw [e] at hm hx
    exact wpList_append_ins hgd s x ho base v l hs hown ⟨ad.block, 0, none⟩ c m hx (World.ownsRow.cells hm (g := ad.block) rfl) hlen hbase h

theorem make_ins (n : Nat) (hn : n ≤ 1000000) (w : World) :
    (Instr.makeSlice 74 (.int .i64 (n : Int)) (.int .i64 (n : Int))).run Try.prog w = .ok (.slice (some ⟨w.heap.size, 0, none⟩) n n) (w.alloc (.cells (madeCells #[.int .u8 0, .int .u8 0, .int .u8 0, .int .u8 0, .int .i16 0] (n * 5)) 72)) := by
  obtain ⟨i, hi, hz, h1, h2⟩ := info_parts info_in
  have := run_make (P := Try.prog) w 74 72 i (.agg #[.int .u8 0, .int .u8 0, .int .u8 0, .int .u8 0, .int .i16 0]) Try.underlying74 hi hz .i64 .i64 n n (by omega) (by omega) (by rw [h2]; omega) (by omega)
  rw [this, h1]
  simp [Value.cells]
def zeroI : In := ⟨0, 0, 0, 0, 0⟩
theorem insV_zeros (n : Nat) : (madeCells #[.int .u8 0, .int .u8 0, .int .u8 0, .int .u8 0, .int .i16 0] (n * 5)).toList = insV (List.replicate n zeroI) := by
  apply List.ext_getElem?
  intro j
  by_cases hj : j < n * 5
  · have h1 : (List.replicate n zeroI)[j / 5]? = some zeroI := by
      rw [List.getElem?_replicate, if_pos (by omega)]
    have h2 := insV_get h1 (j % 5) (by omega)
    rw [show j / 5 * 5 + j % 5 = j by omega] at h2
    rw [h2]
    have : j % 5 = 0 ∨ j % 5 = 1 ∨ j % 5 = 2 ∨ j % 5 = 3 ∨ j % 5 = 4 := by omega
    rcases this with e | e | e | e | e <;> simp [madeCells, hj, e, In.cells, zeroI]
  · rw [List.getElem?_eq_none (by simp [madeCells]; omega), List.getElem?_eq_none (by rw [insV_length]; simp; omega)]
theorem ownP_zeros (w : World) (n : Nat) (hn : n ≤ 1000000) : OwnP (w.alloc (.cells (madeCells #[.int .u8 0, .int .u8 0, .int .u8 0, .int .u8 0, .int .i16 0] (n * 5)) 72)) w.heap.size (.slice (some ⟨w.heap.size, 0, none⟩) n n) (List.replicate n zeroI) := by
  unfold OwnP
  have := World.ownsRow_lit (base := w.heap.size) (e := 72) (size := 5) w (madeCells #[.int .u8 0, .int .u8 0, .int .u8 0, .int .u8 0, .int .i16 0] (n * 5)) n (Nat.le_refl _) (by simp only [maxLen]; omega) (by rw [size_madeCells])
  rw [insV_zeros] at this
  rw [List.length_replicate]
  exact this
end Go.Proofs.Ytbbfmlehddfneaa

namespace Go.Proofs.Ytbbfmlehddfneaa
open Go.RowKit
set_option linter.unusedVariables false

theorem calm_setP (w : World) (b o : Nat) (u : Value) : Calm [b] w (w.setCell ⟨b, o, none⟩ u) :=
  ⟨rfl, rfl, rfl, by simp, fun k hk hO => Below.heap_setCell _ _ _ _ (fun e => hO (by simp [e]))⟩
theorem calm5 (w : World) (g o1 o2 o3 o4 o5 : Nat) (u1 u2 u3 u4 u5 : Value) : Calm [g] w (((((w.setCell ⟨g, o1, none⟩ u1).setCell ⟨g, o2, none⟩ u2).setCell ⟨g, o3, none⟩ u3).setCell ⟨g, o4, none⟩ u4).setCell ⟨g, o5, none⟩ u5) :=
  ((((calm_setP _ _ _ _).trans (calm_setP _ _ _ _)).trans (calm_setP _ _ _ _)).trans (calm_setP _ _ _ _)).trans (calm_setP _ _ _ _)
theorem Calm.new_trans {O O' : List Nat} {a b c : World} (h : Calm O a b) (k : Calm O' b c) (hO : ∀ g ∈ O', a.heap.size ≤ g ∨ g ∈ O) : Calm O a c :=
  ⟨k.os.trans h.os, k.tape.trans h.tape, k.output.trans h.output, Nat.le_trans h.size k.size, fun x hx hn => by
    have hx' := h.size
    refine (k.block x (by omega) (fun hin => ?_)).trans (h.block x hx hn)
    rcases hO x hin with h1 | h1
    · omega
    · exact hn h1⟩
theorem Step.store {F F' O : List Nat} {a b c : World} (h : Step F F' a b) (k : Calm O b c) (hO : ∀ g ∈ O, a.heap.size ≤ g) : Step F F' a c :=
  ⟨h.1.new_trans k (fun g hg => .inl (hO g hg)), h.2⟩
theorem lit_in (W : World) (y : In) (T : TypeId) : ∀ i u, y.cells[i]? = some u → (W.alloc (.cells #[.int .u8 y.op, .int .u8 y.dst, .int .u8 y.a, .int .u8 y.b, .int .i16 y.imm] T)).cell? ⟨W.heap.size, i, none⟩ = some u := by
  intro i u h
  match i, h with
  | 0, h => simp [In.cells] at h; subst h; simp [go_sem]
  | 1, h => simp [In.cells] at h; subst h; simp [go_sem]
  | 2, h => simp [In.cells] at h; subst h; simp [go_sem]
  | 3, h => simp [In.cells] at h; subst h; simp [go_sem]
  | 4, h => simp [In.cells] at h; subst h; simp [go_sem]
  | i + 5, h => simp [In.cells] at h
theorem lit_own (W : World) (y : In) : OwnP (W.alloc (.cells #[.int .u8 y.op, .int .u8 y.dst, .int .u8 y.a, .int .u8 y.b, .int .i16 y.imm] 72)) W.heap.size (.slice (some ⟨W.heap.size, 0, none⟩) 1 1) [y] :=
  World.ownsRow_lit (base := W.heap.size) (e := 72) (size := 5) W _ 1 (Nat.le_refl _) (by simp [maxLen]) rfl
theorem lit_none (W : World) : OwnP (W.alloc (.cells #[] 72)) W.heap.size (.slice (some ⟨W.heap.size, 0, none⟩) 0 0) [] :=
  World.ownsRow_lit (base := W.heap.size) (e := 72) (size := 5) W #[] 0 (Nat.le_refl _) (by simp [maxLen]) rfl
end Go.Proofs.Ytbbfmlehddfneaa

namespace Go.Proofs.Ytbbfmlehddfneaa
open Go.ChangeShapes Go.WideShapes Go.RowKit Go.Deep
set_option linter.unusedVariables false

structure Sm where
  op : Int
  dst : Int
  a : Int
  b : Int
  imm : Int
  raw : Bool
instance : Inhabited Sm := ⟨⟨0, 0, 0, 0, 0, false⟩⟩
def Sm.ok (p : Sm) : Prop := ((0 ≤ p.op ∧ p.op ≤ 255) ∧ (0 ≤ p.dst ∧ p.dst ≤ 255) ∧ (0 ≤ p.a ∧ p.a ≤ 255) ∧ (0 ≤ p.b ∧ p.b ≤ 255) ∧ (-32768 ≤ p.imm ∧ p.imm ≤ 32767))
/-- a slice of Smalls that came in -/
structure SArr (w : World) (v : Value) (xs : List Sm) : Prop where
  slice : ∃ ao cap, v = .slice ao xs.length cap ∧ (xs ≠ [] → ∃ b off, ao = some ⟨b, off, none⟩ ∧ ∀ j p, xs[j]? = some p → w.cell? ⟨b, off + j * 6, none⟩ = some (.int .u8 p.op) ∧ w.cell? ⟨b, off + j * 6 + 1, none⟩ = some (.int .u8 p.dst) ∧ w.cell? ⟨b, off + j * 6 + 2, none⟩ = some (.int .u8 p.a) ∧ w.cell? ⟨b, off + j * 6 + 3, none⟩ = some (.int .u8 p.b) ∧ w.cell? ⟨b, off + j * 6 + 4, none⟩ = some (.int .i16 p.imm) ∧ w.cell? ⟨b, off + j * 6 + 5, none⟩ = some (.bool p.raw))
  most : xs.length ≤ maxLen
  bd : ∀ p ∈ xs, p.ok
theorem SArr.ext {w w' : World} {v : Value} {xs : List Sm} (h : SArr w v xs) (hx : Ext w w') : SArr w' v xs := by
  obtain ⟨⟨ao, cap, rfl, h1⟩, h2, h3⟩ := h
  refine ⟨⟨ao, cap, rfl, fun hne => ?_⟩, h2, h3⟩
  obtain ⟨b, off, rfl, hc⟩ := h1 hne
  exact ⟨b, off, rfl, fun j p hj => ⟨hx.old (hc j p hj).1, hx.old (hc j p hj).2.1, hx.old (hc j p hj).2.2.1, hx.old (hc j p hj).2.2.2.1, hx.old (hc j p hj).2.2.2.2.1, hx.old (hc j p hj).2.2.2.2.2⟩⟩
theorem SArr.nth {w : World} {ao : Option Addr} {c : Nat} {xs : List Sm} (h : SArr w (.slice ao xs.length c) xs) (j : Nat) (hj : j < xs.length) : ∃ b off p, ao = some ⟨b, off, none⟩ ∧ xs[j]? = some p ∧ p.ok ∧ w.cell? ⟨b, off + j * 6, none⟩ = some (.int .u8 p.op) ∧ w.cell? ⟨b, off + j * 6 + 1, none⟩ = some (.int .u8 p.dst) ∧ w.cell? ⟨b, off + j * 6 + 2, none⟩ = some (.int .u8 p.a) ∧ w.cell? ⟨b, off + j * 6 + 3, none⟩ = some (.int .u8 p.b) ∧ w.cell? ⟨b, off + j * 6 + 4, none⟩ = some (.int .i16 p.imm) ∧ w.cell? ⟨b, off + j * 6 + 5, none⟩ = some (.bool p.raw) := by
  obtain ⟨⟨ao', c', e, h1⟩, _, hb⟩ := h
  cases e
  obtain ⟨b, off, rfl, hc⟩ := h1 (by intro e; subst e; simp at hj)
  exact ⟨b, off, xs[j], rfl, by simp [hj], hb _ (List.getElem_mem hj), hc j xs[j] (by simp [hj])⟩
theorem cells_int {H : Type} {enc : TypeId × Value → H} {w : World} {base : Nat} {spare : Nat → Bool} {held : Bool} {fuel : Nat} {c : Value} {x : DataW H × List MemPlace} {t : TypeId} {k : IntKind} (ht : Try.prog.underlying t = some (.int k)) (h : DataW.trod enc Try.prog w base spare held fuel t [c] = some x) : ∃ n, c = .int k n ∧ (Lit.int k n).wf = true := by
  obtain ⟨n, e, _, hw⟩ := DataW.trod_int ht h
  exact ⟨n, by simpa using e, hw⟩

theorem cells_bool {H : Type} {enc : TypeId × Value → H} {w : World} {base : Nat} {spare : Nat → Bool} {held : Bool} {fuel : Nat} {c : Value} {x : DataW H × List MemPlace} {t : TypeId} (ht : Try.prog.underlying t = some .bool) (h : DataW.trod enc Try.prog w base spare held fuel t [c] = some x) : ∃ n, c = .bool n := by
  obtain ⟨n, e, _⟩ := DataW.trod_bool ht h
  exact ⟨n, by simpa using e⟩

set_option maxRecDepth 100000 in
theorem sm_cells {H : Type} {enc : TypeId × Value → H} {w : World} {base : Nat} {spare : Nat → Bool} {held : Bool} {fuel : Nat} {cs : List Value} {x : DataW H × List MemPlace} (h : DataW.trod enc Try.prog w base spare held fuel 118 cs = some x) :
    ∃ p : Sm, cs = [.int .u8 p.op, .int .u8 p.dst, .int .u8 p.a, .int .u8 p.b, .int .i16 p.imm, .bool p.raw] ∧ p.ok := by
  obtain ⟨xs, n, _, _, hl, hlen, hf⟩ := DataW.trod_struct Try.underlying118 h
  have hl2 : cs.length = 6 := hl.trans (by kernel_rfl)
  have hlen2 : xs.length = 6 := hlen
  match cs, hl2, xs, hlen2 with
  | [c0, c1, c2, c3, c4, c5], _, [y0, y1, y2, y3, y4, y5], _ =>
    have h0 : DataW.trod enc Try.prog w base spare held n 5 [c0] = some y0 := hf 0 _ rfl
    have h1 : DataW.trod enc Try.prog w base spare held n 5 [c1] = some y1 := hf 1 _ rfl
    have h2 : DataW.trod enc Try.prog w base spare held n 5 [c2] = some y2 := hf 2 _ rfl
    have h3 : DataW.trod enc Try.prog w base spare held n 5 [c3] = some y3 := hf 3 _ rfl
    have h4 : DataW.trod enc Try.prog w base spare held n 22 [c4] = some y4 := hf 4 _ rfl
    have h5 : DataW.trod enc Try.prog w base spare held n 4 [c5] = some y5 := hf 5 _ rfl
    obtain ⟨k0, rfl, w0⟩ := cells_int Try.underlying5 h0
    obtain ⟨k1, rfl, w1⟩ := cells_int Try.underlying5 h1
    obtain ⟨k2, rfl, w2⟩ := cells_int Try.underlying5 h2
    obtain ⟨k3, rfl, w3⟩ := cells_int Try.underlying5 h3
    obtain ⟨k4, rfl, w4⟩ := cells_int Try.underlying22 h4
    obtain ⟨l, rfl⟩ := cells_bool Try.underlying4 h5
    exact ⟨⟨k0, k1, k2, k3, k4, l⟩, rfl, bounds_u8 w0, bounds_u8 w1, bounds_u8 w2, bounds_u8 w3, bounds_i16 w4⟩
set_option maxRecDepth 100000 in
theorem openSm {H : Type} {enc : TypeId × Value → H} {w : World} {base : Nat} {spare : Nat → Bool} {held : Bool} {r : Reach} {b0 : Nat} {v : Value} {dt : DataW H} {p : List MemPlace} (hv : Value.okWide Try.prog w r b0 77 v) (h : DataW.Trod enc Try.prog w base spare held 77 v dt p) :
    ∃ xs, SArr w v xs := by
  obtain ⟨a0, len, cap, rfl⟩ := okWide_slice Try.underlying77 hv
  obtain ⟨fuel, hf⟩ := h
  have c6 : Try.prog.cellsOf 118 = 6 := by kernel_rfl
  rcases open_slice Try.underlying77 hf with ⟨hcs, _⟩ | ⟨a, len', cap', m, n, D, Pl, hcs, _, hl, hm, hmm, _, hat⟩
  · simp [Value.cells] at hcs
    obtain ⟨rfl, rfl, rfl⟩ := hcs
    exact ⟨[], ⟨none, 0, rfl, fun h => absurd rfl h⟩, Nat.zero_le _, fun p hp => by cases hp⟩
  · simp [Value.cells] at hcs
    obtain ⟨rfl, rfl, rfl⟩ := hcs
    have hle : len ≤ m := by rw [hmm]; split <;> omega
    have each : ∀ i, i < len → ∃ p : Sm, p.ok ∧ w.cell? (a.add (i * 6)) = some (.int .u8 p.op) ∧ w.cell? ((a.add (i * 6)).add 1) = some (.int .u8 p.dst) ∧ w.cell? ((a.add (i * 6)).add 2) = some (.int .u8 p.a) ∧ w.cell? ((a.add (i * 6)).add 3) = some (.int .u8 p.b) ∧ w.cell? ((a.add (i * 6)).add 4) = some (.int .i16 p.imm) ∧ w.cell? ((a.add (i * 6)).add 5) = some (.bool p.raw) := by
      intro i hi
      obtain ⟨cs', h1, h2⟩ := hat i (by omega)
      rw [c6] at h1
      obtain ⟨q, rfl, hq⟩ := sm_cells h2
      obtain ⟨_, _, h3⟩ := World.cells?_some h1
      refine ⟨q, hq, ?_, ?_, ?_, ?_, ?_, ?_⟩
      · simpa [Addr.add] using h3 0 (by omega)
      · simpa using h3 1 (by omega)
      · simpa using h3 2 (by omega)
      · simpa using h3 3 (by omega)
      · simpa using h3 4 (by omega)
      · simpa using h3 5 (by omega)
    obtain ⟨g, hg⟩ := choose_lt each
    refine ⟨(List.range len).map g, ⟨⟨some a, cap, by simp, fun hne => ?_⟩, by simp; omega, fun q hq => ?_⟩⟩
    · have hpos : 0 < len := by
        rcases Nat.eq_zero_or_pos len with h0 | h0
        · rw [h0] at hne; simp at hne
        · exact h0
      obtain ⟨b, off, spot⟩ := a
      have hspot : spot = none := by simpa [Addr.add] using World.cell?_spot (hg 0 hpos).2.1
      subst hspot
      refine ⟨b, off, rfl, fun j q hq => ?_⟩
      have hj : j < len := by
        have := (List.getElem?_eq_some_iff.1 hq).1
        simpa using this
      have eq : q = g j := by
        rw [List.getElem?_map, List.getElem?_range hj] at hq
        simpa using hq.symm
      subst eq
      obtain ⟨_, k1, k2, k3, k4, k5, k6⟩ := hg j hj
      simp only [add_plain] at k1 k2 k3 k4 k5 k6
      exact ⟨k1, k2, k3, k4, k5, k6⟩
    · obtain ⟨j, hj, rfl⟩ := List.mem_map.1 hq
      exact (hg j (List.mem_range.1 hj)).1
end Go.Proofs.Ytbbfmlehddfneaa

namespace Go.Proofs.Ytbbfmlehddfneaa
open Go.ChangeShapes Go.WideShapes Go.RowKit Go.Deep
set_option linter.unusedVariables false

set_option maxRecDepth 100000 in
theorem in_cells {H : Type} {enc : TypeId × Value → H} {w : World} {base : Nat} {spare : Nat → Bool} {held : Bool} {fuel : Nat} {cs : List Value} {x : DataW H × List MemPlace} (h : DataW.trod enc Try.prog w base spare held fuel 72 cs = some x) :
    ∃ p : In, cs = [.int .u8 p.op, .int .u8 p.dst, .int .u8 p.a, .int .u8 p.b, .int .i16 p.imm] ∧ p.ok := by
  obtain ⟨xs, n, _, _, hl, hlen, hf⟩ := DataW.trod_struct Try.underlying72 h
  have hl2 : cs.length = 5 := hl.trans (by kernel_rfl)
  have hlen2 : xs.length = 5 := hlen
  match cs, hl2, xs, hlen2 with
  | [c0, c1, c2, c3, c4], _, [y0, y1, y2, y3, y4], _ =>
    have h0 : DataW.trod enc Try.prog w base spare held n 70 [c0] = some y0 := hf 0 _ rfl
    have h1 : DataW.trod enc Try.prog w base spare held n 5 [c1] = some y1 := hf 1 _ rfl
    have h2 : DataW.trod enc Try.prog w base spare held n 5 [c2] = some y2 := hf 2 _ rfl
    have h3 : DataW.trod enc Try.prog w base spare held n 5 [c3] = some y3 := hf 3 _ rfl
    have h4 : DataW.trod enc Try.prog w base spare held n 22 [c4] = some y4 := hf 4 _ rfl
    obtain ⟨k0, rfl, w0⟩ := cells_int Try.underlying70 h0
    obtain ⟨k1, rfl, w1⟩ := cells_int Try.underlying5 h1
    obtain ⟨k2, rfl, w2⟩ := cells_int Try.underlying5 h2
    obtain ⟨k3, rfl, w3⟩ := cells_int Try.underlying5 h3
    obtain ⟨k4, rfl, w4⟩ := cells_int Try.underlying22 h4
    exact ⟨⟨k0, k1, k2, k3, k4⟩, rfl, bounds_u8 w0, bounds_u8 w1, bounds_u8 w2, bounds_u8 w3, bounds_i16 w4⟩
set_option maxRecDepth 100000 in
theorem openPr {H : Type} {enc : TypeId × Value → H} {w : World} {base : Nat} {spare : Nat → Bool} {held : Bool} {r : Reach} {b0 : Nat} {v : Value} {dt : DataW H} {p : List MemPlace} (hv : Value.okWide Try.prog w r b0 74 v) (h : DataW.Trod enc Try.prog w base spare held 74 v dt p) :
    ∃ xs, PArr w v xs ∧ xs.length ≤ maxLen ∧ ∀ x ∈ xs, x.ok := by
  obtain ⟨a0, len, cap, rfl⟩ := okWide_slice Try.underlying74 hv
  obtain ⟨fuel, hf⟩ := h
  have c5 : Try.prog.cellsOf 72 = 5 := by kernel_rfl
  rcases open_slice Try.underlying74 hf with ⟨hcs, _⟩ | ⟨a, len', cap', m, n, D, Pl, hcs, _, hl, hm, hmm, _, hat⟩
  · simp [Value.cells] at hcs
    obtain ⟨rfl, rfl, rfl⟩ := hcs
    exact ⟨[], ⟨none, 0, rfl, fun h => absurd rfl h⟩, Nat.zero_le _, fun p hp => absurd hp (by simp)⟩
  · simp [Value.cells] at hcs
    obtain ⟨rfl, rfl, rfl⟩ := hcs
    have hle : len ≤ m := by rw [hmm]; split <;> omega
    have each : ∀ i, i < len → ∃ p : In, p.ok ∧ w.cell? (a.add (i * 5)) = some (.int .u8 p.op) ∧ w.cell? ((a.add (i * 5)).add 1) = some (.int .u8 p.dst) ∧ w.cell? ((a.add (i * 5)).add 2) = some (.int .u8 p.a) ∧ w.cell? ((a.add (i * 5)).add 3) = some (.int .u8 p.b) ∧ w.cell? ((a.add (i * 5)).add 4) = some (.int .i16 p.imm) := by
      intro i hi
      obtain ⟨cs', h1, h2⟩ := hat i (by omega)
      rw [c5] at h1
      obtain ⟨q, rfl, hq⟩ := in_cells h2
      obtain ⟨_, _, h3⟩ := World.cells?_some h1
      refine ⟨q, hq, ?_, ?_, ?_, ?_, ?_⟩
      · simpa [Addr.add] using h3 0 (by omega)
      · simpa using h3 1 (by omega)
      · simpa using h3 2 (by omega)
      · simpa using h3 3 (by omega)
      · simpa using h3 4 (by omega)
    obtain ⟨g, hg⟩ := choose_lt each
    refine ⟨(List.range len).map g, ⟨some a, cap, by simp, fun hne => ?_⟩, by simp; omega, fun q hq => ?_⟩
    · have hpos : 0 < len := by
        rcases Nat.eq_zero_or_pos len with h0 | h0
        · rw [h0] at hne; simp at hne
        · exact h0
      obtain ⟨b, off, spot⟩ := a
      have hspot : spot = none := by simpa [Addr.add] using World.cell?_spot (hg 0 hpos).2.1
      subst hspot
      refine ⟨b, off, rfl, fun j q hq => ?_⟩
      have hj : j < len := by
        have := (List.getElem?_eq_some_iff.1 hq).1
        simpa using this
      have eq : q = g j := by
        rw [List.getElem?_map, List.getElem?_range hj] at hq
        simpa using hq.symm
      subst eq
      obtain ⟨_, k1, k2, k3, k4, k5⟩ := hg j hj
      simp only [add_plain] at k1 k2 k3 k4 k5
      exact ⟨k1, k2, k3, k4, k5⟩
    · obtain ⟨j, hj, rfl⟩ := List.mem_map.1 hq
      exact (hg j (List.mem_range.1 hj)).1
end Go.Proofs.Ytbbfmlehddfneaa

namespace Go.Proofs.Ytbbfmlehddfneaa
open Go.RowKit
set_option linter.unusedVariables false
set_option maxRecDepth 100000 in
theorem regs_any (x : In) (hx : x.ok) (w : World) : Calls Try.prog 78 #[.agg #[.int .u8 x.op, .int .u8 x.dst, .int .u8 x.a, .int .u8 x.b, .int .i16 x.imm]] w fun e w' => e = .returned (.bool (regs x)) ∧ Ext w w' := by
  unfold regs
  cases h1 : decide (11 < x.dst)
  · cases h2 : decide (11 < x.a)
    · cases h3 : decide (11 < x.b)
      · by_cases h5 : x.op = 14
        · go_enter Try.func78, Try.ntmps78
          go_wp2
          go_ret
          exact ⟨by simp [h5], (Ext.refl _).alloc _ _⟩
        · go_enter Try.func78, Try.ntmps78
          go_wp2
          go_ret
          exact ⟨by simp [h5], (Ext.refl _).alloc _ _⟩
      · by_cases h4 : x.op = 12
        · go_enter Try.func78, Try.ntmps78
          go_wp2
          go_ret
          exact ⟨by simp [h4], (Ext.refl _).alloc _ _⟩
        · go_enter Try.func78, Try.ntmps78
          go_wp2
          go_ret
          exact ⟨by simp [h4], (Ext.refl _).alloc _ _⟩
    · go_enter Try.func78, Try.ntmps78
      go_wp2
      go_ret
      exact ⟨by simp, (Ext.refl _).alloc _ _⟩
  · go_enter Try.func78, Try.ntmps78
    go_wp2
    go_ret
    exact ⟨by simp, (Ext.refl _).alloc _ _⟩
set_option maxRecDepth 100000 in
theorem body_yes (w : World) (v : Value) (xs : List In) (h : PArr w v xs) (hok : ∀ x ∈ xs, x.ok) (hl : xs.length ≤ 1000000) (k : Nat) (x : In) (hx : xs[k]? = some x) (ho : x.op = 12) : Calls Try.prog 88 #[v, .int .i64 k] w fun e w' => e = .returned (.tuple #[.int .i64 (k + 1), .int .i64 (k + 1 + x.b), .bool true]) ∧ Qt w w' := by
  have hk : k < xs.length := (List.getElem?_eq_some_iff.1 hx).1
  obtain ⟨ao, c, rfl, -, -⟩ := h.slice
  obtain ⟨g, off, y, rfl, -, hy, c0, c1, c2, c3, c4⟩ := h.nth k hk
  rw [hx] at hy
  cases hy
  have hkI : (k : Int) < (xs.length : Int) := by omega
  have hkN : decide ((k : Int) < 0) = false := by simp
  have hkD : ¬ xs.length ≤ k := by omega
  have hb := (hok x (List.mem_of_getElem? hx)).2.2.2.1
  clear hx
  go_enter Try.func88, Try.ntmps88
  go_wp2_with fail
  go_region
  all_goals go_wp2
  all_goals exact bodyPost_ret (v := .tuple #[.int .i64 (k + 1), .int .i64 (k + 1 + x.b), .bool true]) (by simp [results, Try.results88]) rfl ⟨rfl, ⟨1, rfl⟩⟩
theorem body_no (w : World) (v : Value) (xs : List In) (h : PArr w v xs) (hok : ∀ x ∈ xs, x.ok) (hl : xs.length ≤ 1000000) (k : Int) (hk : -1000 ≤ k ∧ k ≤ 9223372036854775807) (hno : bodyEnd xs k = none) : Calls Try.prog 88 #[v, .int .i64 k] w fun e w' => e = .returned (.tuple #[.int .i64 0, .int .i64 0, .bool false]) ∧ w = w' := by
  obtain ⟨ao, c, rfl, -, -⟩ := h.slice
  have hcase : k < 0 ∨ (xs.length : Int) ≤ k ∨ ∃ n : Nat, k = n ∧ n < xs.length := by
    rcases Int.lt_or_le k 0 with h0 | h0
    · exact .inl h0
    · rcases Int.lt_or_le k xs.length with h1 | h1
      · exact .inr (.inr ⟨k.toNat, by omega, by omega⟩)
      · exact .inr (.inl h1)
  rcases hcase with h0 | h0 | ⟨n, rfl, hn⟩
  · go_enter Try.func88, Try.ntmps88
    go_wp2
    exact bodyPost_ret (v := .tuple #[.int .i64 0, .int .i64 0, .bool false]) (by simp [results, Try.results88]) rfl ⟨rfl, rfl⟩
  · have h1 : ¬ k < 0 := by omega
    go_enter Try.func88, Try.ntmps88
    go_wp2
    exact bodyPost_ret (v := .tuple #[.int .i64 0, .int .i64 0, .bool false]) (by simp [results, Try.results88]) rfl ⟨rfl, rfl⟩
  · obtain ⟨g, off, y, rfl, -, hy, c0, c1, c2, c3, c4⟩ := h.nth n hn
    have hop : y.op ≠ 12 := fun e => by rw [bodyEnd_at hy e] at hno; cases hno
    have hkI : (n : Int) < (xs.length : Int) := by omega
    have hkN : decide ((n : Int) < 0) = false := by simp
    have hkD : decide (xs.length ≤ n) = false := by simp; omega
    have hopD : (y.op != 12) = true := by simpa using hop
    clear hy
    go_enter Try.func88, Try.ntmps88
    go_wp2
    exact bodyPost_ret (v := .tuple #[.int .i64 0, .int .i64 0, .bool false]) (by simp [results, Try.results88]) rfl ⟨rfl, rfl⟩
end Go.Proofs.Ytbbfmlehddfneaa

namespace Go.Proofs.Ytbbfmlehddfneaa
open Go.RowKit
set_option linter.unusedVariables false
theorem OwnP.qt {w w' : World} {base : Nat} {v : Value} {l : List In} (h : OwnP w base v l) (q : Qt w w') : OwnP w' base v l := h.ext ((Ext.refl w).qt q)
set_option maxRecDepth 100000 in
theorem around_any (w : World) (v : Value) (xs : List In) (h : PArr w v xs) (hok : ∀ x ∈ xs, x.ok) (hl : xs.length ≤ 1000000) (i : Int) : Calls Try.prog 89 #[v, .int .i64 i] w fun e w' => e = .returned (.int .i64 (around xs i)) ∧ Qt w w' := by
  obtain ⟨ao, c, rfl, -, -⟩ := h.slice
  have hlI : (xs.length : Int) ≤ 1000000 := by omega
  go_enter Try.func89, Try.ntmps89
  go_wp2_with fail
  go_loopg [11] xs.length (fun k iv wr => ∃ j : Nat, j + k = xs.length ∧ iv = .int .i64 j ∧ (∀ (n : Nat) x, n < j → xs[n]? = some x → hasB x n i = false) ∧ Qt w wr)
  case atStart => exact ⟨0, by omega, rfl, fun n x hn => by omega, Qt.refl _⟩
  case round =>
    obtain ⟨j, hjk, rfl, hb, q1⟩ := hrel
    by_cases hj : j < xs.length
    · have hjI : (j : Int) < (xs.length : Int) := by omega
      obtain ⟨x, hx⟩ : ∃ x, xs[j]? = some x := ⟨xs[j], by simp [hj]⟩
      have HX := Lib.hid hx
      by_cases ho : x.op = 12
      · go_wp2_with fail
        refine (body_yes _ _ xs (h.qt q1) hok hl j x HX.out ho).mono ?_
        rintro e w2 ⟨rfl, q2⟩
        have q3 := q1.trans q2
        clear q1 q2
        by_cases ha : (j : Int) + 1 ≤ i
        · by_cases hc : i < (j : Int) + 1 + x.b
          · go_wp2
            go_ret
            exact ⟨by rw [around_at HX.out (hasB_iff.2 ⟨ho, ha, hc⟩) (fun n y hn hy => hb n y hn hy)]; rfl, q3⟩
          · go_wp2
            go_roundg (gk - 1)
            case measure => omega
            case rel => exact ⟨j + 1, by omega, rfl, fun n y hn hy => by
              rcases Nat.lt_or_ge n j with h1 | h1
              · exact hb n y h1 hy
              · obtain rfl : n = j := by omega
                rw [HX.out] at hy
                cases hy
                cases hh : hasB x n i with
                | false => rfl
                | true => have := hasB_iff.1 hh; omega, q3⟩
        · go_wp2
          go_roundg (gk - 1)
          case measure => omega
          case rel => exact ⟨j + 1, by omega, rfl, fun n y hn hy => by
            rcases Nat.lt_or_ge n j with h1 | h1
            · exact hb n y h1 hy
            · obtain rfl : n = j := by omega
              rw [HX.out] at hy
              cases hy
              cases hh : hasB x n i with
              | false => rfl
              | true => have := hasB_iff.1 hh; omega, q3⟩
      · go_wp2_with fail
        refine (body_no _ _ xs (h.qt q1) hok hl j (by omega) (bodyEnd_not HX.out ho)).mono ?_
        rintro e w2 ⟨rfl, rfl⟩
        go_wp2
        go_roundg (gk - 1)
        case measure => omega
        case rel => exact ⟨j + 1, by omega, rfl, fun n y hn hy => by
          rcases Nat.lt_or_ge n j with h1 | h1
          · exact hb n y h1 hy
          · obtain rfl : n = j := by omega
            rw [HX.out] at hy
            cases hy
            cases hh : hasB x n i with
            | false => rfl
            | true => exact absurd (hasB_iff.1 hh).1 ho, q1⟩
    · obtain rfl : j = xs.length := by omega
      go_wp2
      go_ret
      exact ⟨by rw [around_none fun k x hx => hb k x (List.getElem?_eq_some_iff.1 hx).1 hx]; rfl, q1⟩
set_option maxRecDepth 100000 in
theorem fuelP_any (w : World) (v : Value) (xs : List In) (h : PArr w v xs) (hok : ∀ x ∈ xs, x.ok) (hl : xs.length ≤ 1000000) : Calls Try.prog 81 #[v] w fun e w' => e = .returned (.int .i64 (fuelL xs)) ∧ Ext w w' := by
  obtain ⟨ao, c, rfl, -, -⟩ := h.slice
  have hlI : (xs.length : Int) ≤ 1000000 := by omega
  have hmx := maxI_fold
  go_enter Try.func81, Try.ntmps81
  go_wp2_with fail
  go_loopg [10, 3] xs.length (fun k iv sv wr => ∃ j : Nat, j + k = xs.length ∧ iv = .int .i64 j ∧ sv = .int .i64 (xs.length + extraL (xs.take j)) ∧ Ext w wr)
  case atStart => exact ⟨0, by omega, rfl, by simp [extraL], Ext.refl _⟩
  case round =>
    obtain ⟨j, hjk, rfl, rfl, e1⟩ := hrel
    by_cases hj : j < xs.length
    · have hjI : (j : Int) < (xs.length : Int) := by omega
      obtain ⟨g, off, x, rfl, -, hx, c0, c1, c2, c3, c4⟩ := (h.ext e1).nth j hj
      have hxo := hok x (List.mem_of_getElem? hx)
      have hex := extra_bd hxo
      have hEL := extraL_bd (xs := xs.take j) fun y hy => hok y (List.mem_of_mem_take hy)
      have hES := Lib.hid (extraL_snoc hx)
      have hel2 : ((xs.take j).length : Int) ≤ 1000000 := by simp; omega
      clear hx
      generalize extraL (xs.take j) = s at *
      by_cases ho : x.op = 12
      · have hm : extra x = x.b * (maxI x.imm 1 - 1) := by unfold extra; rw [if_pos ho]
        have hbb := hxo.2.2.2.1
        have hii := hxo.2.2.2.2
        have hmb : 1 ≤ maxI x.imm 1 ∧ maxI x.imm 1 ≤ 32767 := by unfold maxI; split <;> omega
        rw [hm] at hex hES
        go_wp2
        go_roundg (gk - 1)
        case measure => omega
        case rel => exact ⟨j + 1, by omega, rfl, by rw [hES.out]; congr 1; omega, (e1.alloc _ _)⟩
      · have hm : extra x = 0 := by unfold extra; rw [if_neg ho]
        rw [hm] at hES
        go_wp2
        go_roundg (gk - 1)
        case measure => omega
        case rel => exact ⟨j + 1, by omega, rfl, by rw [hES.out]; congr 1; omega, (e1.alloc _ _)⟩
    · obtain rfl : j = xs.length := by omega
      rw [List.take_length]
      go_wp2
      go_ret
      exact ⟨rfl, e1⟩
theorem fuel_any (w : World) (base : Nat) (v : Value) (xs : List In) (h : OwnP w base v xs) (hok : ∀ x ∈ xs, x.ok) (hl : xs.length ≤ 1000000) : Calls Try.prog 81 #[v] w fun e w' => e = .returned (.int .i64 (fuelL xs)) ∧ Ext w w' := fuelP_any w v xs h.parr hok hl
set_option maxRecDepth 100000 in
theorem loopHolds_any (w : World) (v : Value) (xs : List In) (h : PArr w v xs) (hok : ∀ x ∈ xs, x.ok) (hl : xs.length ≤ 1000000) (k : Nat) (x : In) (hx : xs[k]? = some x) (ho : x.op = 12) : Calls Try.prog 79 #[v, .int .i64 k] w fun e w' => e = .returned (.bool (loopH xs k x)) ∧ Qt w w' := by
  have hlI : (xs.length : Int) ≤ 1000000 := by omega
  have hk : k < xs.length := (List.getElem?_eq_some_iff.1 hx).1
  have hkI : (k : Int) < (xs.length : Int) := by omega
  have hb := (hok x (List.mem_of_getElem? hx)).2.2.2.1
  obtain ⟨ao, c, rfl, -, -⟩ := h.slice
  by_cases h0 : x.b = 0
  · have hL : loopH xs k x = false := by simp [loopH, h0]
    have hs : (k : Int) + 1 + x.b = (k : Int) + 1 := by omega
    go_enter Try.func79, Try.ntmps79
    go_wp2_with fail
    refine (body_yes _ _ xs h hok hl k x hx ho).mono ?_
    rintro e w2 ⟨rfl, q2⟩
    rw [hs]
    go_wp2
    go_ret
    exact ⟨by first | rfl | (rw [hL]; rfl), q2⟩
  · have hne : ((k : Int) + 1 == (k : Int) + 1 + x.b) = false := by simp; omega
    by_cases h1 : (xs.length : Int) < k + 1 + x.b
    · have hL : loopH xs k x = false := by simp [loopH, h0, h1]
      go_enter Try.func79, Try.ntmps79
      go_wp2_with fail
      refine (body_yes _ _ xs h hok hl k x hx ho).mono ?_
      rintro e w2 ⟨rfl, q2⟩
      go_wp2
      go_ret
      exact ⟨by first | rfl | (rw [hL]; rfl), q2⟩
    · have h1d : decide ((xs.length : Int) < k + 1 + x.b) = false := by simpa using h1
      by_cases h2 : 1 ≤ x.imm
      · by_cases h3 : x.imm ≤ 8
        · have hL : loopH xs k x = decide (around xs k = -1) := by simp [loopH, h0, h1, h2, h3]
          go_enter Try.func79, Try.ntmps79
          go_wp2_with fail
          refine (body_yes _ _ xs h hok hl k x hx ho).mono ?_
          rintro e w2 ⟨rfl, q2⟩
          obtain ⟨g, off, y, rfl, -, hy, c0, c1, c2, c3, c4⟩ := (h.qt q2).nth k hk
          rw [hx] at hy
          cases hy
          have HX := Lib.hid hx
          clear hx
          go_wp2_with fail
          refine (around_any _ _ xs (h.qt q2) hok hl k).mono ?_
          rintro e w3 ⟨rfl, q3⟩
          go_wp2
          go_ret
          refine ⟨?_, q2.trans q3⟩
          rw [hL]
          rfl
        · have hL : loopH xs k x = false := by simp [loopH, h0, h1, h2, h3]
          go_enter Try.func79, Try.ntmps79
          go_wp2_with fail
          refine (body_yes _ _ xs h hok hl k x hx ho).mono ?_
          rintro e w2 ⟨rfl, q2⟩
          obtain ⟨g, off, y, rfl, -, hy, c0, c1, c2, c3, c4⟩ := (h.qt q2).nth k hk
          rw [hx] at hy
          cases hy
          have HX := Lib.hid hx
          clear hx
          go_wp2
          go_ret
          exact ⟨by first | rfl | (rw [hL]; rfl), q2⟩
      · have hL : loopH xs k x = false := by simp [loopH, h0, h1, h2]
        go_enter Try.func79, Try.ntmps79
        go_wp2_with fail
        refine (body_yes _ _ xs h hok hl k x hx ho).mono ?_
        rintro e w2 ⟨rfl, q2⟩
        obtain ⟨g, off, y, rfl, -, hy, c0, c1, c2, c3, c4⟩ := (h.qt q2).nth k hk
        rw [hx] at hy
        cases hy
        have HX := Lib.hid hx
        clear hx
        go_wp2
        go_ret
        exact ⟨by first | rfl | (rw [hL]; rfl), q2⟩
end Go.Proofs.Ytbbfmlehddfneaa

namespace Go.Proofs.Ytbbfmlehddfneaa
open Go.RowKit
set_option linter.unusedVariables false
set_option maxRecDepth 100000 in
theorem skipHolds_any (w : World) (v : Value) (xs : List In) (h : PArr w v xs) (hok : ∀ x ∈ xs, x.ok) (hl : xs.length ≤ 1000000) (k : Nat) (x : In) (hx : xs[k]? = some x) : Calls Try.prog 80 #[v, .int .i64 k] w fun e w' => e = .returned (.bool (skipH xs k x)) ∧ Qt w w' := by
  have hlI : (xs.length : Int) ≤ 1000000 := by omega
  have hk : k < xs.length := (List.getElem?_eq_some_iff.1 hx).1
  have hkI : (k : Int) < (xs.length : Int) := by omega
  have hb := (hok x (List.mem_of_getElem? hx)).2.2.2.2
  obtain ⟨ao, c, rfl, -, -⟩ := h.slice
  have h' := h
  obtain ⟨g, off, y, rfl, -, hy, c0, c1, c2, c3, c4⟩ := h.nth k hk
  rw [hx] at hy
  cases hy
  have HX := Lib.hid hx
  clear hx h
  by_cases h1 : x.imm < 1
  · have hL : skipH xs k x = false := by simp [skipH, h1]
    go_enter Try.func80, Try.ntmps80
    go_wp2
    go_ret
    exact ⟨by first | rfl | (rw [hL]; rfl), Qt.refl _⟩
  · have h1d : decide (x.imm < 1) = false := by simpa using h1
    by_cases h2 : (xs.length : Int) < k + 1 + x.imm
    · have hL : skipH xs k x = false := by simp [skipH, h1, h2]
      go_enter Try.func80, Try.ntmps80
      go_wp2
      go_ret
      exact ⟨by first | rfl | (rw [hL]; rfl), Qt.refl _⟩
    · have h2d : decide ((xs.length : Int) < k + 1 + x.imm) = false := by simpa using h2
      have hL : skipH xs k x = (!(overB xs (around xs k) (k + 1 + x.imm)) && (decide (around xs (k + 1 + x.imm) = -1) || decide (around xs (k + 1 + x.imm) = around xs k))) := by simp [skipH, h1, h2]
      have HL := Lib.hid hL
      clear hL
      obtain ⟨r, hr0⟩ : ∃ r, around xs (k + 1 + x.imm) = r := ⟨_, rfl⟩
      rw [hr0] at HL
      have HR := Lib.hid hr0
      clear hr0
      rcases around_cases xs k with ⟨e0, _⟩ | ⟨n, z, e0, hz, hzb, _⟩
      · have ho : overB xs (-1) (k + 1 + x.imm) = false := by unfold overB; rw [bodyEnd_out (.inl (by omega))]
        have hE : skipH xs k x = decide (r = -1) := by rw [HL.out, e0, ho]; simp
        rw [hE]
        have E0 := Lib.hid e0
        clear e0 hE HL ho
        cases hr : decide (r = -1)
        · have hrd : (r == -1) = false := by simpa using hr
          go_enter Try.func80, Try.ntmps80
          go_wp2_with fail
          refine (around_any _ _ xs h' hok hl k).mono ?_
          rintro e w1 ⟨rfl, q1⟩
          rw [E0.out]
          go_wp2_with fail
          refine (body_no _ _ xs (h'.qt q1) hok hl (-1) (by omega) (bodyEnd_out (.inl (by omega)))).mono ?_
          rintro e w2 ⟨rfl, rfl⟩
          go_wp2_with fail
          refine (around_any _ _ xs (h'.qt q1) hok hl (k + 1 + x.imm)).mono ?_
          rintro e w3 ⟨rfl, q3⟩
          rw [HR.out]
          go_wp2
          go_ret
          exact ⟨rfl, q1.trans q3⟩
        · have hr' : r = -1 := by simpa using hr
          subst hr'
          go_enter Try.func80, Try.ntmps80
          go_wp2_with fail
          refine (around_any _ _ xs h' hok hl k).mono ?_
          rintro e w1 ⟨rfl, q1⟩
          rw [E0.out]
          go_wp2_with fail
          refine (body_no _ _ xs (h'.qt q1) hok hl (-1) (by omega) (bodyEnd_out (.inl (by omega)))).mono ?_
          rintro e w2 ⟨rfl, rfl⟩
          go_wp2_with fail
          refine (around_any _ _ xs (h'.qt q1) hok hl (k + 1 + x.imm)).mono ?_
          rintro e w3 ⟨rfl, q3⟩
          rw [HR.out]
          go_wp2
          go_ret
          exact ⟨rfl, q1.trans q3⟩
      · have hzo := (hasB_iff.1 hzb).1
        have ho : overB xs n (k + 1 + x.imm) = decide ((n : Int) + 1 + z.b < k + 1 + x.imm) := by unfold overB; rw [bodyEnd_at hz hzo]
        have hE : skipH xs k x = (!(decide ((n : Int) + 1 + z.b < k + 1 + x.imm)) && (decide (r = -1) || decide (r = n))) := by rw [HL.out, e0, ho]
        rw [hE]
        have E0 := Lib.hid e0
        have HZ := Lib.hid hz
        have hnn : n < xs.length := (List.getElem?_eq_some_iff.1 hz).1
        have hnI : (n : Int) < (xs.length : Int) := by omega
        clear e0 hz hzb hE HL ho
        cases h3d : decide ((n : Int) + 1 + z.b < k + 1 + x.imm)
        · simp only [Bool.not_false, Bool.true_and]
          cases hr : decide (r = -1)
          · have hrd : (r == -1) = false := by simpa using hr
            cases hrn : decide (r = (n : Int))
            · have hrn' : (r == (n : Int)) = false := by simpa using hrn
              go_enter Try.func80, Try.ntmps80
              go_wp2_with fail
              refine (around_any _ _ xs h' hok hl k).mono ?_
              rintro e w1 ⟨rfl, q1⟩
              rw [E0.out]
              go_wp2_with fail
              refine (body_yes _ _ xs (h'.qt q1) hok hl n z HZ.out hzo).mono ?_
              rintro e w2 ⟨rfl, q2⟩
              have q12 := q1.trans q2
              clear q1 q2
              go_wp2_with fail
              refine (around_any _ _ xs (h'.qt q12) hok hl (k + 1 + x.imm)).mono ?_
              rintro e w3 ⟨rfl, q3⟩
              rw [HR.out]
              go_wp2
              go_ret
              exact ⟨rfl, q12.trans q3⟩
            · have hrn' : r = (n : Int) := by simpa using hrn
              subst hrn'
              go_enter Try.func80, Try.ntmps80
              go_wp2_with fail
              refine (around_any _ _ xs h' hok hl k).mono ?_
              rintro e w1 ⟨rfl, q1⟩
              rw [E0.out]
              go_wp2_with fail
              refine (body_yes _ _ xs (h'.qt q1) hok hl n z HZ.out hzo).mono ?_
              rintro e w2 ⟨rfl, q2⟩
              have q12 := q1.trans q2
              clear q1 q2
              go_wp2_with fail
              refine (around_any _ _ xs (h'.qt q12) hok hl (k + 1 + x.imm)).mono ?_
              rintro e w3 ⟨rfl, q3⟩
              rw [HR.out]
              go_wp2
              go_ret
              exact ⟨rfl, q12.trans q3⟩
          · have hr' : r = -1 := by simpa using hr
            subst hr'
            go_enter Try.func80, Try.ntmps80
            go_wp2_with fail
            refine (around_any _ _ xs h' hok hl k).mono ?_
            rintro e w1 ⟨rfl, q1⟩
            rw [E0.out]
            go_wp2_with fail
            refine (body_yes _ _ xs (h'.qt q1) hok hl n z HZ.out hzo).mono ?_
            rintro e w2 ⟨rfl, q2⟩
            have q12 := q1.trans q2
            clear q1 q2
            go_wp2_with fail
            refine (around_any _ _ xs (h'.qt q12) hok hl (k + 1 + x.imm)).mono ?_
            rintro e w3 ⟨rfl, q3⟩
            rw [HR.out]
            go_wp2
            go_ret
            exact ⟨rfl, q12.trans q3⟩
        · go_enter Try.func80, Try.ntmps80
          go_wp2_with fail
          refine (around_any _ _ xs h' hok hl k).mono ?_
          rintro e w1 ⟨rfl, q1⟩
          rw [E0.out]
          go_wp2_with fail
          refine (body_yes _ _ xs (h'.qt q1) hok hl n z HZ.out hzo).mono ?_
          rintro e w2 ⟨rfl, q2⟩
          go_wp2
          go_ret
          exact ⟨rfl, q1.trans q2⟩
set_option maxRecDepth 100000 in
theorem checkFuel_any (w : World) (v : Value) (xs : List In) (h : PArr w v xs) (hok : ∀ x ∈ xs, x.ok) (hl : xs.length ≤ 1000000) : Calls Try.prog 62 #[v] w fun e w' => e = .returned (.int .i64 (if 200 < fuelL xs then 6 else 0)) ∧ Ext w w' := by
  by_cases hf : 200 < fuelL xs
  · rw [if_pos hf]
    go_enter Try.func62, Try.ntmps62
    go_wp2_with fail
    refine (fuelP_any _ _ xs h hok hl).mono ?_
    rintro e w1 ⟨rfl, e1⟩
    go_wp2
    go_ret
    exact ⟨rfl, e1⟩
  · rw [if_neg hf]
    go_enter Try.func62, Try.ntmps62
    go_wp2_with fail
    refine (fuelP_any _ _ xs h hok hl).mono ?_
    rintro e w1 ⟨rfl, e1⟩
    go_wp2
    go_ret
    exact ⟨rfl, e1⟩
end Go.Proofs.Ytbbfmlehddfneaa

