/-
  DERIVED. Layer 7's law text 'Program': what it lays, two fields stored, the mending's inner loop.
-/
import Derived.Test.YtkdonkebnnjkkaaIsaAid
namespace Go.Proofs.Ytkdonkebnnjkkaa
open Go.RowKit
set_option linter.unusedVariables false

def and3 (x : Int) : Int := bits .and .i16 x 3
theorem and3_bd (x : Int) : 0 ≤ and3 x ∧ and3 x ≤ 3 := by
  have h : ((BitVec.ofInt 16 x &&& BitVec.ofInt 16 3).toNat) ≤ 3 := by
    rw [BitVec.toNat_and]
    exact Nat.le_trans Nat.and_le_right (by decide)
  show 0 ≤ IntKind.i16.wrap ((BitVec.ofInt 16 x &&& BitVec.ofInt 16 3).toNat : Int) ∧ IntKind.i16.wrap ((BitVec.ofInt 16 x &&& BitVec.ofInt 16 3).toNat : Int) ≤ 3
  generalize (BitVec.ofInt 16 x &&& BitVec.ofInt 16 3).toNat = n at *
  have e : IntKind.i16.wrap (n : Int) = n := by
    unfold IntKind.wrap
    rw [if_neg]
    · show (n : Int) % 65536 = n
      omega
    · intro h2
      have h3 : (32768 : Int) ≤ (n : Int) % 65536 := of_decide_eq_true (Bool.and_eq_true_iff.1 h2).2
      omega
  rw [e]
  omega
def baseI (s : Sm) : In := ⟨s.op % 15, s.dst % 12, s.a % 9, s.b % 12, s.imm⟩
def loopI (s : Sm) : In := ⟨s.op % 15, s.dst % 12, s.a % 9, 1 + s.b % 4, 1 + and3 s.imm⟩
def mkI (s : Sm) : In := if s.op % 15 = 12 ∨ s.op % 15 = 11 then loopI s else baseI s
def mkL (sl : List Sm) : List In := sl.map mkI
theorem mkL_length (sl : List Sm) : (mkL sl).length = sl.length := by simp [mkL]
theorem mkL_snoc {sl : List Sm} {j : Nat} {s : Sm} (h : sl[j]? = some s) : mkL (sl.take (j + 1)) = mkL (sl.take j) ++ [mkI s] := by
  unfold mkL
  rw [List.take_add_one, h]
  simp
theorem mkI_mild {s : Sm} (h : s.ok) : mild (mkI s) := by
  unfold Sm.ok at h
  have := and3_bd s.imm
  unfold mkI mild loopI baseI
  split <;> simp only <;> omega
theorem mkL_mild {sl : List Sm} (h : ∀ s ∈ sl, s.ok) : ∀ x ∈ mkL sl, mild x := fun x hx => by
  obtain ⟨s, hs, rfl⟩ := List.mem_map.1 hx
  exact mkI_mild (h s hs)

theorem insV_set2 {l : List In} {j : Nat} {x : In} (hx : l[j]? = some x) (b imm : Int) : insV (l.set j ⟨x.op, x.dst, x.a, b, imm⟩) = ((insV l).set (j * 5 + 3) (.int .u8 b)).set (j * 5 + 4) (.int .i16 imm) := by
  induction l generalizing j with
  | nil => simp at hx
  | cons y r ih =>
    cases j with
    | zero =>
      simp at hx
      subst hx
      simp [insV, In.cells]
    | succ j =>
      simp at hx
      have := ih hx
      rw [List.set_cons_succ, insV, this]
      rw [show (j + 1) * 5 = j * 5 + 5 by omega]
      simp [insV, In.cells]
/-- B and Imm of an instruction are stored -/
theorem OwnP.put2 {w : World} {base g c n : Nat} {L : List In} (h : OwnP w base (.slice (some ⟨g, 0, none⟩) n c) L) (hn : n = L.length) (j : Nat) (x : In) (hx : L[j]? = some x) (b imm : Int) : OwnP ((w.setCell ⟨g, j * 5 + 3, none⟩ (.int .u8 b)).setCell ⟨g, j * 5 + 4, none⟩ (.int .i16 imm)) base (.slice (some ⟨g, 0, none⟩) n c) (L.set j ⟨x.op, x.dst, x.a, b, imm⟩) := by
  subst hn
  have h1 := (World.ownsRow.stored h (j * 5 + 3) (.int .u8 b)).1
  have h2 := (World.ownsRow.stored h1 (j * 5 + 4) (.int .i16 imm)).1
  unfold OwnP
  rw [List.length_set, insV_set2 hx]
  exact h2
theorem set_last (L : List In) (x y : In) : (L ++ [x]).set L.length y = L ++ [y] := by
  rw [List.set_append_right _ _ (by omega)]
  simp

/-- how far the search for what is to be mended is -/
def BadR (d : Bool) (xs : List In) (j : Nat) (bad : Int) : Prop :=
  (bad = -1 ∧ (chk d xs = 0 ∨ ∀ (i : Nat) x, i < j → xs[i]? = some x → special d x = false)) ∨ ∃ (i : Nat) (x : In), bad = i ∧ xs[i]? = some x ∧ chk d xs ≠ 0 ∧ (chk d (xs.set i movI) = 0 ∨ special d x = true)
theorem BadR.start (d : Bool) (xs : List In) : BadR d xs 0 (-1) := .inl ⟨rfl, .inr fun i x hi => by omega⟩
theorem BadR.found {d : Bool} {xs : List In} {j i : Nat} {bad : Int} (h : BadR d xs j bad) (hb : bad ≠ -1) : BadR d xs i bad := by
  rcases h with ⟨h, _⟩ | h
  · exact absurd h hb
  · exact .inr h
theorem BadR.fine {d : Bool} {xs : List In} {j i : Nat} (h : chk d xs = 0) : BadR d xs j (-1) := .inl ⟨rfl, .inl h⟩
theorem BadR.pass {d : Bool} {xs : List In} {j : Nat} {x : In} (h : BadR d xs j (-1)) (h0 : chk d xs ≠ 0) (hx : xs[j]? = some x) (hs : special d x = false) : BadR d xs (j + 1) (-1) := by
  rcases h with ⟨_, h⟩ | ⟨i, y, e, _⟩
  · refine .inl ⟨rfl, .inr fun i y hi hy => ?_⟩
    rcases h with h | h
    · exact absurd h h0
    · rcases Nat.lt_or_ge i j with h1 | h1
      · exact h i y h1 hy
      · obtain rfl : i = j := by omega
        rw [hx] at hy
        cases hy
        exact hs
  · omega
theorem BadR.hit {d : Bool} {xs : List In} {j : Nat} {x : In} (h0 : chk d xs ≠ 0) (hx : xs[j]? = some x) (hs : chk d (xs.set j movI) = 0 ∨ special d x = true) : BadR d xs (j + 1) j := .inr ⟨j, x, rfl, hx, h0, hs⟩
theorem BadR.clear {d : Bool} {xs : List In} {n r : Nat} (h : BadR d xs xs.length (-1)) (hm : Mend d n r xs) (hn : n ≤ 20) : chk d xs = 0 := by
  rcases h with ⟨_, h⟩ | ⟨i, y, e, _⟩
  · rcases h with h | h
    · exact h
    · apply Classical.byContradiction
      intro h0
      obtain ⟨i, x, hx, hs⟩ := special_of_chk hm.2.1 (by rw [hm.1]; exact hn) h0
      rw [h i x (List.getElem?_eq_some_iff.1 hx).1 hx] at hs
      cases hs
  · omega
theorem BadR.one {d : Bool} {xs : List In} {j : Nat} {bad : Int} (h : BadR d xs j bad) (hb : bad ≠ -1) : ∃ (i : Nat) (x : In), bad = i ∧ i < xs.length ∧ xs[i]? = some x ∧ chk d xs ≠ 0 ∧ (chk d (xs.set i movI) = 0 ∨ special d x = true) := by
  rcases h with ⟨h, _⟩ | ⟨i, x, e, hx, h1, h2⟩
  · exact absurd h hb
  · exact ⟨i, x, e, (List.getElem?_eq_some_iff.1 hx).1, hx, h1, h2⟩
/-- the law text's question: is this one to be mended -/
def hitB (d : Bool) (xs : List In) (j : Nat) (x : In) (bad : Int) : Bool := decide (bad < 0) && (decide (chk d xs ≠ 0) && (decide (chk d (xs.set j movI) = 0) || special d x))
theorem BadR.yes {d : Bool} {xs : List In} {j : Nat} {x : In} {bad : Int} (hx : xs[j]? = some x) (ht : hitB d xs j x bad = true) : BadR d xs (j + 1) j := by
  simp [hitB] at ht
  exact BadR.hit ht.2.1 hx ht.2.2
theorem BadR.no {d : Bool} {xs : List In} {j : Nat} {x : In} {bad : Int} (h : BadR d xs j bad) (hx : xs[j]? = some x) (ht : hitB d xs j x bad = false) : BadR d xs (j + 1) bad := by
  by_cases hb : bad = -1
  · subst hb
    by_cases h0 : chk d xs = 0
    · exact .inl ⟨rfl, .inl h0⟩
    · simp [hitB, h0] at ht
      exact h.pass h0 hx ht.2
  · exact h.found hb
theorem OwnP.opAt {w : World} {base g n c : Nat} {l : List In} (h : OwnP w base (.slice (some ⟨g, 0, none⟩) n c) l) {j : Nat} {x : In} (hx : l[j]? = some x) : w.cell? ⟨g, j * 5, none⟩ = some (.int .u8 x.op) := by
  obtain ⟨g', y, e, _, hy, c0, _⟩ := h.nth j (List.getElem?_eq_some_iff.1 hx).1
  cases e
  rw [hx] at hy
  cases hy
  exact c0
end Go.Proofs.Ytkdonkebnnjkkaa
