/-
  DERIVED. Layer 7's law text 'Program': what it lays, two fields stored, the mending's inner loop. · A region of the law text 'Program' of layer 7, walked apart (made by mkprog19.py). · THE WALK of the law text 'Program' of layer 7 (made by mkprog.py).
-/
import Derived.Test.YtbbfmlehddfneaaPkIsa
import Derived.Test.YtbbfmlehddfneaaPkIsaC
import Derived.Test.YtbbfmlehddfneaaPkFix
import Derived.Deep.DeepCutAuto
namespace Go.Proofs.Ytbbfmlehddfneaa
open Go.RowKit
set_option linter.unusedVariables false

def and3 (x : Int) : Int := bits .and .i16 x 3
theorem and3_bd (x : Int) : 0 ≤ and3 x ∧ and3 x ≤ 3 := by
  have h : ((BitVec.ofInt 16 x &&& BitVec.ofInt 16 3).toNat) ≤ 3 := by
    rw [BitVec.toNat_and]
    exact Nat.le_trans Nat.and_le_right (by decide)
  show 0 ≤ IntKind.i16.wrap ((BitVec.ofInt 16 x &&& BitVec.ofInt 16 3).toNat : Int) ∧ IntKind.i16.wrap ((BitVec.ofInt 16 x &&& BitVec.ofInt 16 3).toNat : Int) ≤ 3
  generalize (BitVec.ofInt 16 x &&& BitVec.ofInt 16 3).toNat = n at *
  have e : IntKind.i16.wrap (n : Int) = n := by
    unfold IntKind.wrap
    rw [if_neg]
    · show (n : Int) % 65536 = n
      omega
    · intro h2
      have h3 : (32768 : Int) ≤ (n : Int) % 65536 := of_decide_eq_true (Bool.and_eq_true_iff.1 h2).2
      omega
  rw [e]
  omega
def baseI (s : Sm) : In := ⟨s.op % 15, s.dst % 12, s.a % 9, s.b % 12, s.imm⟩
def loopI (s : Sm) : In := ⟨s.op % 15, s.dst % 12, s.a % 9, 1 + s.b % 4, 1 + and3 s.imm⟩
def mkI (s : Sm) : In := if s.op % 15 = 12 ∨ s.op % 15 = 11 then loopI s else baseI s
def mkL (sl : List Sm) : List In := sl.map mkI
theorem mkL_length (sl : List Sm) : (mkL sl).length = sl.length := by simp [mkL]
theorem mkL_snoc {sl : List Sm} {j : Nat} {s : Sm} (h : sl[j]? = some s) : mkL (sl.take (j + 1)) = mkL (sl.take j) ++ [mkI s] := by
  unfold mkL
  rw [List.take_add_one, h]
  simp
theorem mkI_mild {s : Sm} (h : s.ok) : mild (mkI s) := by
  unfold Sm.ok at h
  have := and3_bd s.imm
  unfold mkI mild loopI baseI
  split <;> simp only <;> omega
theorem mkL_mild {sl : List Sm} (h : ∀ s ∈ sl, s.ok) : ∀ x ∈ mkL sl, mild x := fun x hx => by
  obtain ⟨s, hs, rfl⟩ := List.mem_map.1 hx
  exact mkI_mild (h s hs)

theorem insV_set2 {l : List In} {j : Nat} {x : In} (hx : l[j]? = some x) (b imm : Int) : insV (l.set j ⟨x.op, x.dst, x.a, b, imm⟩) = ((insV l).set (j * 5 + 3) (.int .u8 b)).set (j * 5 + 4) (.int .i16 imm) := by
  induction l generalizing j with
  | nil => simp at hx
  | cons y r ih =>
    cases j with
    | zero =>
      simp at hx
      subst hx
      simp [insV, In.cells]
    | succ j =>
      simp at hx
      have := ih hx
      rw [List.set_cons_succ, insV, this]
      rw [show (j + 1) * 5 = j * 5 + 5 by omega]
      simp [insV, In.cells]
/-- B and Imm of an instruction are stored -/
theorem OwnP.put2 {w : World} {base g c n : Nat} {L : List In} (h : OwnP w base (.slice (some ⟨g, 0, none⟩) n c) L) (hn : n = L.length) (j : Nat) (x : In) (hx : L[j]? = some x) (b imm : Int) : OwnP ((w.setCell ⟨g, j * 5 + 3, none⟩ (.int .u8 b)).setCell ⟨g, j * 5 + 4, none⟩ (.int .i16 imm)) base (.slice (some ⟨g, 0, none⟩) n c) (L.set j ⟨x.op, x.dst, x.a, b, imm⟩) := by
  subst hn
  have h1 := (World.ownsRow.stored h (j * 5 + 3) (.int .u8 b)).1
  have h2 := (World.ownsRow.stored h1 (j * 5 + 4) (.int .i16 imm)).1
  unfold OwnP
  rw [List.length_set, insV_set2 hx]
  exact h2
theorem set_last (L : List In) (x y : In) : (L ++ [x]).set L.length y = L ++ [y] := by
  rw [List.set_append_right _ _ (by omega)]
  simp

/-- how far the search for what is to be mended is -/
def BadR (d : Bool) (xs : List In) (j : Nat) (bad : Int) : Prop :=
  (bad = -1 ∧ (chk d xs = 0 ∨ ∀ (i : Nat) x, i < j → xs[i]? = some x → special d x = false)) ∨ ∃ (i : Nat) (x : In), bad = i ∧ xs[i]? = some x ∧ chk d xs ≠ 0 ∧ (chk d (xs.set i movI) = 0 ∨ special d x = true)
theorem BadR.start (d : Bool) (xs : List In) : BadR d xs 0 (-1) := .inl ⟨rfl, .inr fun i x hi => by omega⟩
theorem BadR.found {d : Bool} {xs : List In} {j i : Nat} {bad : Int} (h : BadR d xs j bad) (hb : bad ≠ -1) : BadR d xs i bad := by
  rcases h with ⟨h, _⟩ | h
  · exact absurd h hb
  · exact .inr h
theorem BadR.fine {d : Bool} {xs : List In} {j i : Nat} (h : chk d xs = 0) : BadR d xs j (-1) := .inl ⟨rfl, .inl h⟩
theorem BadR.pass {d : Bool} {xs : List In} {j : Nat} {x : In} (h : BadR d xs j (-1)) (h0 : chk d xs ≠ 0) (hx : xs[j]? = some x) (hs : special d x = false) : BadR d xs (j + 1) (-1) := by
  rcases h with ⟨_, h⟩ | ⟨i, y, e, _⟩
  · refine .inl ⟨rfl, .inr fun i y hi hy => ?_⟩
    rcases h with h | h
    · exact absurd h h0
    · rcases Nat.lt_or_ge i j with h1 | h1
      · exact h i y h1 hy
      · obtain rfl : i = j := by omega
        rw [hx] at hy
        cases hy
        exact hs
  · omega
theorem BadR.hit {d : Bool} {xs : List In} {j : Nat} {x : In} (h0 : chk d xs ≠ 0) (hx : xs[j]? = some x) (hs : chk d (xs.set j movI) = 0 ∨ special d x = true) : BadR d xs (j + 1) j := .inr ⟨j, x, rfl, hx, h0, hs⟩
theorem BadR.clear {d : Bool} {xs : List In} {n r : Nat} (h : BadR d xs xs.length (-1)) (hm : Mend d n r xs) (hn : n ≤ 20) : chk d xs = 0 := by
  rcases h with ⟨_, h⟩ | ⟨i, y, e, _⟩
  · rcases h with h | h
    · exact h
    · apply Classical.byContradiction
      intro h0
      obtain ⟨i, x, hx, hs⟩ := special_of_chk hm.2.1 (by rw [hm.1]; exact hn) h0
      rw [h i x (List.getElem?_eq_some_iff.1 hx).1 hx] at hs
      cases hs
  · omega
theorem BadR.one {d : Bool} {xs : List In} {j : Nat} {bad : Int} (h : BadR d xs j bad) (hb : bad ≠ -1) : ∃ (i : Nat) (x : In), bad = i ∧ i < xs.length ∧ xs[i]? = some x ∧ chk d xs ≠ 0 ∧ (chk d (xs.set i movI) = 0 ∨ special d x = true) := by
  rcases h with ⟨h, _⟩ | ⟨i, x, e, hx, h1, h2⟩
  · exact absurd h hb
  · exact ⟨i, x, e, (List.getElem?_eq_some_iff.1 hx).1, hx, h1, h2⟩
/-- the law text's question: is this one to be mended -/
def hitB (d : Bool) (xs : List In) (j : Nat) (x : In) (bad : Int) : Bool := decide (bad < 0) && (decide (chk d xs ≠ 0) && (decide (chk d (xs.set j movI) = 0) || special d x))
theorem BadR.yes {d : Bool} {xs : List In} {j : Nat} {x : In} {bad : Int} (hx : xs[j]? = some x) (ht : hitB d xs j x bad = true) : BadR d xs (j + 1) j := by
  simp [hitB] at ht
  exact BadR.hit ht.2.1 hx ht.2.2
theorem BadR.no {d : Bool} {xs : List In} {j : Nat} {x : In} {bad : Int} (h : BadR d xs j bad) (hx : xs[j]? = some x) (ht : hitB d xs j x bad = false) : BadR d xs (j + 1) bad := by
  by_cases hb : bad = -1
  · subst hb
    by_cases h0 : chk d xs = 0
    · exact .inl ⟨rfl, .inl h0⟩
    · simp [hitB, h0] at ht
      exact h.pass h0 hx ht.2
  · exact h.found hb
theorem OwnP.opAt {w : World} {base g n c : Nat} {l : List In} (h : OwnP w base (.slice (some ⟨g, 0, none⟩) n c) l) {j : Nat} {x : In} (hx : l[j]? = some x) : w.cell? ⟨g, j * 5, none⟩ = some (.int .u8 x.op) := by
  obtain ⟨g', y, e, _, hy, c0, _⟩ := h.nth j (List.getElem?_eq_some_iff.1 hx).1
  cases e
  rw [hx] at hy
  cases hy
  exact c0

/-- which instruction the inner loop finds, and what the mending makes, as functions -/
def badU (d : Bool) (xs : List In) : Nat → Int
  | 0 => -1
  | j + 1 => match xs[j]? with
    | some x => if hitB d xs j x (badU d xs j) then (j : Int) else badU d xs j
    | none => badU d xs j
theorem badU_yes {d : Bool} {xs : List In} {j : Nat} {x : In} (hx : xs[j]? = some x) (h : hitB d xs j x (badU d xs j) = true) : badU d xs (j + 1) = j := by
  simp only [badU, hx, h, if_true]
theorem badU_no {d : Bool} {xs : List In} {j : Nat} {x : In} (hx : xs[j]? = some x) (h : hitB d xs j x (badU d xs j) = false) : badU d xs (j + 1) = badU d xs j := by
  simp only [badU, hx, h, Bool.false_eq_true, if_false]
def mendF (d : Bool) : Nat → List In → List In
  | 0, xs => xs
  | r + 1, xs => if badU d xs xs.length = -1 then xs else mendF d r (xs.set (badU d xs xs.length).toNat movI)
theorem mendF_stop {d : Bool} {r : Nat} {xs : List In} (hr : r < 60) (h : badU d xs xs.length = -1) : mendF d (60 - r) xs = xs := by
  rw [show 60 - r = (60 - (r + 1)) + 1 by omega]
  simp [mendF, h]
theorem mendF_next {d : Bool} {r i : Nat} {xs : List In} (hr : r < 60) (h : badU d xs xs.length = i) : mendF d (60 - r) xs = mendF d (60 - (r + 1)) (xs.set i movI) := by
  rw [show 60 - r = (60 - (r + 1)) + 1 by omega]
  have hn : ¬ ((i : Int) = -1) := by omega
  simp [mendF, h, hn]
def progF (d : Bool) (sl : List Sm) : List In := mendF d 60 (mkL (sl.take 20))
end Go.Proofs.Ytbbfmlehddfneaa

namespace Go.Proofs.Ytbbfmlehddfneaa
open Go.RowKit
set_option linter.unusedVariables false
set_option maxRecDepth 100000 in
set_option maxHeartbeats 2000000 in
theorem prog_r19_bad (f0 f2 f3 f4 f6 f7 f8 f12 f13 f14 f15 f16 f17 f18 f19 f20 f21 f22 f23 f24 f25 f26 f27 f28 f29 f30 f31 f32 f33 f34 f35 f36 f37 f38 f39 f40 f41 f42 f43 f44 f45 f46 f47 f48 f49 f50 f51 f52 f53 f54 f55 f56 f57 f58 f59 f60 f61 f62 f63 f64 f65 f66 f67 f68 f69 f70 f71 f72 f73 f74 f75 f76 f77 f78 f79 f80 f81 f82 f83 f84 f85 f86 f87 f88 f89 f90 f91 f92 f93 f94 f95 f96 f97 f98 f99 f100 f101 f102 f103 f104 f105 f106 f107 f108 f109 f110 f111 f112 f113 f114 f115 f116 f117 f118 f119 f120 f121 f122 f123 f124 f125 f126 f127 f128 f129 f130 f131 f132 f133 f134 : Value) (d : Bool) (gp n cp : Nat) (bad : Int) (j : Nat) (vq : Value) (w : World) (base base' : Nat) (xs : List In) (x : In) (op : OwnP w base (.slice (some ⟨gp, 0, none⟩) n cp) xs) (oq : OwnP w base' vq (xs.set j movI)) (hok : ∀ x ∈ xs, x.ok) (hokq : ∀ x ∈ xs.set j movI, x.ok) (hxl : xs.length = n) (hn : n ≤ 20) (hj : j < n) (hx : xs[j]? = some x) (hb : ¬ bad < 0) {Q : Exit → Act → World → Prop}
    (hQ : ∀ (c83 c84 c85 c86 c87 c88 c89 c90 c91 c92 c93 c94 c95 c96 c97 c98 c99 c100 c101 c102 c103 c104 c105 c106 c107 c108 c109 c110 c111 c112 c113 c114 c115 c116 c117 c118 c119 c120 c121 c122 c123 : Value) (wx : World), Ext w wx → Q .normal ⟨(f0 :: Value.bool d :: f2 :: f3 :: f4 :: Value.slice (some ⟨gp, 0, none⟩) n cp :: f6 :: f7 :: f8 :: Value.int .i64 bad :: Value.int .i64 (j : Int) :: vq :: f12 :: f13 :: f14 :: f15 :: f16 :: f17 :: f18 :: f19 :: f20 :: f21 :: f22 :: f23 :: f24 :: f25 :: f26 :: f27 :: f28 :: f29 :: f30 :: f31 :: f32 :: f33 :: f34 :: f35 :: f36 :: f37 :: f38 :: f39 :: f40 :: f41 :: f42 :: f43 :: f44 :: f45 :: f46 :: f47 :: f48 :: f49 :: f50 :: f51 :: f52 :: f53 :: f54 :: f55 :: f56 :: f57 :: f58 :: f59 :: f60 :: f61 :: f62 :: f63 :: f64 :: f65 :: f66 :: f67 :: f68 :: f69 :: f70 :: f71 :: f72 :: f73 :: f74 :: f75 :: f76 :: f77 :: f78 :: f79 :: f80 :: f81 :: f82 :: c83 :: c84 :: c85 :: c86 :: c87 :: c88 :: c89 :: c90 :: c91 :: c92 :: c93 :: c94 :: c95 :: c96 :: c97 :: c98 :: c99 :: c100 :: c101 :: c102 :: c103 :: c104 :: c105 :: c106 :: c107 :: c108 :: c109 :: c110 :: c111 :: c112 :: c113 :: c114 :: c115 :: c116 :: c117 :: c118 :: c119 :: c120 :: c121 :: c122 :: c123 :: Value.bool false :: f125 :: f126 :: f127 :: f128 :: f129 :: f130 :: f131 :: f132 :: f133 :: f134 :: List.nil).toArray, []⟩ wx) : Code.wp Try.prog (regionOf Try.f29 19) Q ⟨(f0 :: Value.bool d :: f2 :: f3 :: f4 :: Value.slice (some ⟨gp, 0, none⟩) n cp :: f6 :: f7 :: f8 :: Value.int .i64 bad :: Value.int .i64 (j : Int) :: vq :: f12 :: f13 :: f14 :: f15 :: f16 :: f17 :: f18 :: f19 :: f20 :: f21 :: f22 :: f23 :: f24 :: f25 :: f26 :: f27 :: f28 :: f29 :: f30 :: f31 :: f32 :: f33 :: f34 :: f35 :: f36 :: f37 :: f38 :: f39 :: f40 :: f41 :: f42 :: f43 :: f44 :: f45 :: f46 :: f47 :: f48 :: f49 :: f50 :: f51 :: f52 :: f53 :: f54 :: f55 :: f56 :: f57 :: f58 :: f59 :: f60 :: f61 :: f62 :: f63 :: f64 :: f65 :: f66 :: f67 :: f68 :: f69 :: f70 :: f71 :: f72 :: f73 :: f74 :: f75 :: f76 :: f77 :: f78 :: f79 :: f80 :: f81 :: f82 :: f83 :: f84 :: f85 :: f86 :: f87 :: f88 :: f89 :: f90 :: f91 :: f92 :: f93 :: f94 :: f95 :: f96 :: f97 :: f98 :: f99 :: f100 :: f101 :: f102 :: f103 :: f104 :: f105 :: f106 :: f107 :: f108 :: f109 :: f110 :: f111 :: f112 :: f113 :: f114 :: f115 :: f116 :: f117 :: f118 :: f119 :: f120 :: f121 :: f122 :: f123 :: f124 :: f125 :: f126 :: f127 :: f128 :: f129 :: f130 :: f131 :: f132 :: f133 :: f134 :: List.nil).toArray, []⟩ w := by
  change Code.wp Try.prog (Code.region _ _ false) _ _ _
  have hjI : (j : Int) < (n : Int) := by omega
  have hnI : (n : Int) ≤ 20 := by omega
  have HQ := Lib.hid hQ
  clear hQ
  have HX := Lib.hid hx
  have HXL := Lib.hid hxl
  clear hx hxl
  go_wp2
  exact HQ.out _ _ _ _ _ _ _ _ _ _ _ _ _ _ _ _ _ _ _ _ _ _ _ _ _ _ _ _ _ _ _ _ _ _ _ _ _ _ _ _ _ _ (Ext.refl _)
set_option maxRecDepth 100000 in
set_option maxHeartbeats 2000000 in
theorem prog_r19_ok (f0 f2 f3 f4 f6 f7 f8 f12 f13 f14 f15 f16 f17 f18 f19 f20 f21 f22 f23 f24 f25 f26 f27 f28 f29 f30 f31 f32 f33 f34 f35 f36 f37 f38 f39 f40 f41 f42 f43 f44 f45 f46 f47 f48 f49 f50 f51 f52 f53 f54 f55 f56 f57 f58 f59 f60 f61 f62 f63 f64 f65 f66 f67 f68 f69 f70 f71 f72 f73 f74 f75 f76 f77 f78 f79 f80 f81 f82 f83 f84 f85 f86 f87 f88 f89 f90 f91 f92 f93 f94 f95 f96 f97 f98 f99 f100 f101 f102 f103 f104 f105 f106 f107 f108 f109 f110 f111 f112 f113 f114 f115 f116 f117 f118 f119 f120 f121 f122 f123 f124 f125 f126 f127 f128 f129 f130 f131 f132 f133 f134 : Value) (d : Bool) (gp n cp : Nat) (bad : Int) (j : Nat) (vq : Value) (w : World) (base base' : Nat) (xs : List In) (x : In) (op : OwnP w base (.slice (some ⟨gp, 0, none⟩) n cp) xs) (oq : OwnP w base' vq (xs.set j movI)) (hok : ∀ x ∈ xs, x.ok) (hokq : ∀ x ∈ xs.set j movI, x.ok) (hxl : xs.length = n) (hn : n ≤ 20) (hj : j < n) (hx : xs[j]? = some x) (hb : bad < 0) (hc : chk d xs = 0) {Q : Exit → Act → World → Prop}
    (hQ : ∀ (c83 c84 c85 c86 c87 c88 c89 c90 c91 c92 c93 c94 c95 c96 c97 c98 c99 c100 c101 c102 c103 c104 c105 c106 c107 c108 c109 c110 c111 c112 c113 c114 c115 c116 c117 c118 c119 c120 c121 c122 c123 : Value) (wx : World), Ext w wx → Q .normal ⟨(f0 :: Value.bool d :: f2 :: f3 :: f4 :: Value.slice (some ⟨gp, 0, none⟩) n cp :: f6 :: f7 :: f8 :: Value.int .i64 bad :: Value.int .i64 (j : Int) :: vq :: f12 :: f13 :: f14 :: f15 :: f16 :: f17 :: f18 :: f19 :: f20 :: f21 :: f22 :: f23 :: f24 :: f25 :: f26 :: f27 :: f28 :: f29 :: f30 :: f31 :: f32 :: f33 :: f34 :: f35 :: f36 :: f37 :: f38 :: f39 :: f40 :: f41 :: f42 :: f43 :: f44 :: f45 :: f46 :: f47 :: f48 :: f49 :: f50 :: f51 :: f52 :: f53 :: f54 :: f55 :: f56 :: f57 :: f58 :: f59 :: f60 :: f61 :: f62 :: f63 :: f64 :: f65 :: f66 :: f67 :: f68 :: f69 :: f70 :: f71 :: f72 :: f73 :: f74 :: f75 :: f76 :: f77 :: f78 :: f79 :: f80 :: f81 :: f82 :: c83 :: c84 :: c85 :: c86 :: c87 :: c88 :: c89 :: c90 :: c91 :: c92 :: c93 :: c94 :: c95 :: c96 :: c97 :: c98 :: c99 :: c100 :: c101 :: c102 :: c103 :: c104 :: c105 :: c106 :: c107 :: c108 :: c109 :: c110 :: c111 :: c112 :: c113 :: c114 :: c115 :: c116 :: c117 :: c118 :: c119 :: c120 :: c121 :: c122 :: c123 :: Value.bool false :: f125 :: f126 :: f127 :: f128 :: f129 :: f130 :: f131 :: f132 :: f133 :: f134 :: List.nil).toArray, []⟩ wx) : Code.wp Try.prog (regionOf Try.f29 19) Q ⟨(f0 :: Value.bool d :: f2 :: f3 :: f4 :: Value.slice (some ⟨gp, 0, none⟩) n cp :: f6 :: f7 :: f8 :: Value.int .i64 bad :: Value.int .i64 (j : Int) :: vq :: f12 :: f13 :: f14 :: f15 :: f16 :: f17 :: f18 :: f19 :: f20 :: f21 :: f22 :: f23 :: f24 :: f25 :: f26 :: f27 :: f28 :: f29 :: f30 :: f31 :: f32 :: f33 :: f34 :: f35 :: f36 :: f37 :: f38 :: f39 :: f40 :: f41 :: f42 :: f43 :: f44 :: f45 :: f46 :: f47 :: f48 :: f49 :: f50 :: f51 :: f52 :: f53 :: f54 :: f55 :: f56 :: f57 :: f58 :: f59 :: f60 :: f61 :: f62 :: f63 :: f64 :: f65 :: f66 :: f67 :: f68 :: f69 :: f70 :: f71 :: f72 :: f73 :: f74 :: f75 :: f76 :: f77 :: f78 :: f79 :: f80 :: f81 :: f82 :: f83 :: f84 :: f85 :: f86 :: f87 :: f88 :: f89 :: f90 :: f91 :: f92 :: f93 :: f94 :: f95 :: f96 :: f97 :: f98 :: f99 :: f100 :: f101 :: f102 :: f103 :: f104 :: f105 :: f106 :: f107 :: f108 :: f109 :: f110 :: f111 :: f112 :: f113 :: f114 :: f115 :: f116 :: f117 :: f118 :: f119 :: f120 :: f121 :: f122 :: f123 :: f124 :: f125 :: f126 :: f127 :: f128 :: f129 :: f130 :: f131 :: f132 :: f133 :: f134 :: List.nil).toArray, []⟩ w := by
  change Code.wp Try.prog (Code.region _ _ false) _ _ _
  have hjI : (j : Int) < (n : Int) := by omega
  have hnI : (n : Int) ≤ 20 := by omega
  have HQ := Lib.hid hQ
  clear hQ
  have HX := Lib.hid hx
  have HXL := Lib.hid hxl
  clear hx hxl
  go_wp2_with fail
  refine (check_any d _ _ _ xs op hok (by rw [HXL.out]; omega)).mono ?_
  rintro e w1 ⟨rfl, x1⟩
  have c1 := (op.ext x1).opAt HX.out
  have oq1 := oq.ext x1
  rw [hc]
  go_wp2
  exact HQ.out _ _ _ _ _ _ _ _ _ _ _ _ _ _ _ _ _ _ _ _ _ _ _ _ _ _ _ _ _ _ _ _ _ _ _ _ _ _ _ _ _ _ x1
set_option maxRecDepth 100000 in
set_option maxHeartbeats 2000000 in
theorem prog_r19_q (f0 f2 f3 f4 f6 f7 f8 f12 f13 f14 f15 f16 f17 f18 f19 f20 f21 f22 f23 f24 f25 f26 f27 f28 f29 f30 f31 f32 f33 f34 f35 f36 f37 f38 f39 f40 f41 f42 f43 f44 f45 f46 f47 f48 f49 f50 f51 f52 f53 f54 f55 f56 f57 f58 f59 f60 f61 f62 f63 f64 f65 f66 f67 f68 f69 f70 f71 f72 f73 f74 f75 f76 f77 f78 f79 f80 f81 f82 f83 f84 f85 f86 f87 f88 f89 f90 f91 f92 f93 f94 f95 f96 f97 f98 f99 f100 f101 f102 f103 f104 f105 f106 f107 f108 f109 f110 f111 f112 f113 f114 f115 f116 f117 f118 f119 f120 f121 f122 f123 f124 f125 f126 f127 f128 f129 f130 f131 f132 f133 f134 : Value) (d : Bool) (gp n cp : Nat) (bad : Int) (j : Nat) (vq : Value) (w : World) (base base' : Nat) (xs : List In) (x : In) (op : OwnP w base (.slice (some ⟨gp, 0, none⟩) n cp) xs) (oq : OwnP w base' vq (xs.set j movI)) (hok : ∀ x ∈ xs, x.ok) (hokq : ∀ x ∈ xs.set j movI, x.ok) (hxl : xs.length = n) (hn : n ≤ 20) (hj : j < n) (hx : xs[j]? = some x) (hb : bad < 0) (hc : (chk d xs != 0) = true) (hq : chk d (xs.set j movI) = 0) {Q : Exit → Act → World → Prop}
    (hQ : ∀ (c83 c84 c85 c86 c87 c88 c89 c90 c91 c92 c93 c94 c95 c96 c97 c98 c99 c100 c101 c102 c103 c104 c105 c106 c107 c108 c109 c110 c111 c112 c113 c114 c115 c116 c117 c118 c119 c120 c121 c122 c123 : Value) (wx : World), Ext w wx → Q .normal ⟨(f0 :: Value.bool d :: f2 :: f3 :: f4 :: Value.slice (some ⟨gp, 0, none⟩) n cp :: f6 :: f7 :: f8 :: Value.int .i64 bad :: Value.int .i64 (j : Int) :: vq :: f12 :: f13 :: f14 :: f15 :: f16 :: f17 :: f18 :: f19 :: f20 :: f21 :: f22 :: f23 :: f24 :: f25 :: f26 :: f27 :: f28 :: f29 :: f30 :: f31 :: f32 :: f33 :: f34 :: f35 :: f36 :: f37 :: f38 :: f39 :: f40 :: f41 :: f42 :: f43 :: f44 :: f45 :: f46 :: f47 :: f48 :: f49 :: f50 :: f51 :: f52 :: f53 :: f54 :: f55 :: f56 :: f57 :: f58 :: f59 :: f60 :: f61 :: f62 :: f63 :: f64 :: f65 :: f66 :: f67 :: f68 :: f69 :: f70 :: f71 :: f72 :: f73 :: f74 :: f75 :: f76 :: f77 :: f78 :: f79 :: f80 :: f81 :: f82 :: c83 :: c84 :: c85 :: c86 :: c87 :: c88 :: c89 :: c90 :: c91 :: c92 :: c93 :: c94 :: c95 :: c96 :: c97 :: c98 :: c99 :: c100 :: c101 :: c102 :: c103 :: c104 :: c105 :: c106 :: c107 :: c108 :: c109 :: c110 :: c111 :: c112 :: c113 :: c114 :: c115 :: c116 :: c117 :: c118 :: c119 :: c120 :: c121 :: c122 :: c123 :: Value.bool true :: f125 :: f126 :: f127 :: f128 :: f129 :: f130 :: f131 :: f132 :: f133 :: f134 :: List.nil).toArray, []⟩ wx) : Code.wp Try.prog (regionOf Try.f29 19) Q ⟨(f0 :: Value.bool d :: f2 :: f3 :: f4 :: Value.slice (some ⟨gp, 0, none⟩) n cp :: f6 :: f7 :: f8 :: Value.int .i64 bad :: Value.int .i64 (j : Int) :: vq :: f12 :: f13 :: f14 :: f15 :: f16 :: f17 :: f18 :: f19 :: f20 :: f21 :: f22 :: f23 :: f24 :: f25 :: f26 :: f27 :: f28 :: f29 :: f30 :: f31 :: f32 :: f33 :: f34 :: f35 :: f36 :: f37 :: f38 :: f39 :: f40 :: f41 :: f42 :: f43 :: f44 :: f45 :: f46 :: f47 :: f48 :: f49 :: f50 :: f51 :: f52 :: f53 :: f54 :: f55 :: f56 :: f57 :: f58 :: f59 :: f60 :: f61 :: f62 :: f63 :: f64 :: f65 :: f66 :: f67 :: f68 :: f69 :: f70 :: f71 :: f72 :: f73 :: f74 :: f75 :: f76 :: f77 :: f78 :: f79 :: f80 :: f81 :: f82 :: f83 :: f84 :: f85 :: f86 :: f87 :: f88 :: f89 :: f90 :: f91 :: f92 :: f93 :: f94 :: f95 :: f96 :: f97 :: f98 :: f99 :: f100 :: f101 :: f102 :: f103 :: f104 :: f105 :: f106 :: f107 :: f108 :: f109 :: f110 :: f111 :: f112 :: f113 :: f114 :: f115 :: f116 :: f117 :: f118 :: f119 :: f120 :: f121 :: f122 :: f123 :: f124 :: f125 :: f126 :: f127 :: f128 :: f129 :: f130 :: f131 :: f132 :: f133 :: f134 :: List.nil).toArray, []⟩ w := by
  change Code.wp Try.prog (Code.region _ _ false) _ _ _
  have hjI : (j : Int) < (n : Int) := by omega
  have hnI : (n : Int) ≤ 20 := by omega
  have HQ := Lib.hid hQ
  clear hQ
  have HX := Lib.hid hx
  have HXL := Lib.hid hxl
  clear hx hxl
  go_wp2_with fail
  refine (check_any d _ _ _ xs op hok (by rw [HXL.out]; omega)).mono ?_
  rintro e w1 ⟨rfl, x1⟩
  have c1 := (op.ext x1).opAt HX.out
  have oq1 := oq.ext x1
  go_wp2_with fail
  refine (check_any d _ _ _ (xs.set j movI) oq1 hokq (by rw [List.length_set, HXL.out]; omega)).mono ?_
  rintro e w2 ⟨rfl, x2⟩
  have c2 := ((op.ext x1).ext x2).opAt HX.out
  have x3 := x1.trans x2
  rw [hq]
  go_wp2
  exact HQ.out _ _ _ _ _ _ _ _ _ _ _ _ _ _ _ _ _ _ _ _ _ _ _ _ _ _ _ _ _ _ _ _ _ _ _ _ _ _ _ _ _ _ x3
set_option maxRecDepth 100000 in
set_option maxHeartbeats 2000000 in
theorem prog_r19_12 (f0 f2 f3 f4 f6 f7 f8 f12 f13 f14 f15 f16 f17 f18 f19 f20 f21 f22 f23 f24 f25 f26 f27 f28 f29 f30 f31 f32 f33 f34 f35 f36 f37 f38 f39 f40 f41 f42 f43 f44 f45 f46 f47 f48 f49 f50 f51 f52 f53 f54 f55 f56 f57 f58 f59 f60 f61 f62 f63 f64 f65 f66 f67 f68 f69 f70 f71 f72 f73 f74 f75 f76 f77 f78 f79 f80 f81 f82 f83 f84 f85 f86 f87 f88 f89 f90 f91 f92 f93 f94 f95 f96 f97 f98 f99 f100 f101 f102 f103 f104 f105 f106 f107 f108 f109 f110 f111 f112 f113 f114 f115 f116 f117 f118 f119 f120 f121 f122 f123 f124 f125 f126 f127 f128 f129 f130 f131 f132 f133 f134 : Value) (d : Bool) (gp n cp : Nat) (bad : Int) (j : Nat) (vq : Value) (w : World) (base base' : Nat) (xs : List In) (x : In) (op : OwnP w base (.slice (some ⟨gp, 0, none⟩) n cp) xs) (oq : OwnP w base' vq (xs.set j movI)) (hok : ∀ x ∈ xs, x.ok) (hokq : ∀ x ∈ xs.set j movI, x.ok) (hxl : xs.length = n) (hn : n ≤ 20) (hj : j < n) (hx : xs[j]? = some x) (hb : bad < 0) (hc : (chk d xs != 0) = true) (hq : (chk d (xs.set j movI) == 0) = false) (ho : x.op = 12) {Q : Exit → Act → World → Prop}
    (hQ : ∀ (c83 c84 c85 c86 c87 c88 c89 c90 c91 c92 c93 c94 c95 c96 c97 c98 c99 c100 c101 c102 c103 c104 c105 c106 c107 c108 c109 c110 c111 c112 c113 c114 c115 c116 c117 c118 c119 c120 c121 c122 c123 : Value) (wx : World), Ext w wx → Q .normal ⟨(f0 :: Value.bool d :: f2 :: f3 :: f4 :: Value.slice (some ⟨gp, 0, none⟩) n cp :: f6 :: f7 :: f8 :: Value.int .i64 bad :: Value.int .i64 (j : Int) :: vq :: f12 :: f13 :: f14 :: f15 :: f16 :: f17 :: f18 :: f19 :: f20 :: f21 :: f22 :: f23 :: f24 :: f25 :: f26 :: f27 :: f28 :: f29 :: f30 :: f31 :: f32 :: f33 :: f34 :: f35 :: f36 :: f37 :: f38 :: f39 :: f40 :: f41 :: f42 :: f43 :: f44 :: f45 :: f46 :: f47 :: f48 :: f49 :: f50 :: f51 :: f52 :: f53 :: f54 :: f55 :: f56 :: f57 :: f58 :: f59 :: f60 :: f61 :: f62 :: f63 :: f64 :: f65 :: f66 :: f67 :: f68 :: f69 :: f70 :: f71 :: f72 :: f73 :: f74 :: f75 :: f76 :: f77 :: f78 :: f79 :: f80 :: f81 :: f82 :: c83 :: c84 :: c85 :: c86 :: c87 :: c88 :: c89 :: c90 :: c91 :: c92 :: c93 :: c94 :: c95 :: c96 :: c97 :: c98 :: c99 :: c100 :: c101 :: c102 :: c103 :: c104 :: c105 :: c106 :: c107 :: c108 :: c109 :: c110 :: c111 :: c112 :: c113 :: c114 :: c115 :: c116 :: c117 :: c118 :: c119 :: c120 :: c121 :: c122 :: c123 :: Value.bool true :: f125 :: f126 :: f127 :: f128 :: f129 :: f130 :: f131 :: f132 :: f133 :: f134 :: List.nil).toArray, []⟩ wx) : Code.wp Try.prog (regionOf Try.f29 19) Q ⟨(f0 :: Value.bool d :: f2 :: f3 :: f4 :: Value.slice (some ⟨gp, 0, none⟩) n cp :: f6 :: f7 :: f8 :: Value.int .i64 bad :: Value.int .i64 (j : Int) :: vq :: f12 :: f13 :: f14 :: f15 :: f16 :: f17 :: f18 :: f19 :: f20 :: f21 :: f22 :: f23 :: f24 :: f25 :: f26 :: f27 :: f28 :: f29 :: f30 :: f31 :: f32 :: f33 :: f34 :: f35 :: f36 :: f37 :: f38 :: f39 :: f40 :: f41 :: f42 :: f43 :: f44 :: f45 :: f46 :: f47 :: f48 :: f49 :: f50 :: f51 :: f52 :: f53 :: f54 :: f55 :: f56 :: f57 :: f58 :: f59 :: f60 :: f61 :: f62 :: f63 :: f64 :: f65 :: f66 :: f67 :: f68 :: f69 :: f70 :: f71 :: f72 :: f73 :: f74 :: f75 :: f76 :: f77 :: f78 :: f79 :: f80 :: f81 :: f82 :: f83 :: f84 :: f85 :: f86 :: f87 :: f88 :: f89 :: f90 :: f91 :: f92 :: f93 :: f94 :: f95 :: f96 :: f97 :: f98 :: f99 :: f100 :: f101 :: f102 :: f103 :: f104 :: f105 :: f106 :: f107 :: f108 :: f109 :: f110 :: f111 :: f112 :: f113 :: f114 :: f115 :: f116 :: f117 :: f118 :: f119 :: f120 :: f121 :: f122 :: f123 :: f124 :: f125 :: f126 :: f127 :: f128 :: f129 :: f130 :: f131 :: f132 :: f133 :: f134 :: List.nil).toArray, []⟩ w := by
  change Code.wp Try.prog (Code.region _ _ false) _ _ _
  have hjI : (j : Int) < (n : Int) := by omega
  have hnI : (n : Int) ≤ 20 := by omega
  have HQ := Lib.hid hQ
  clear hQ
  have HX := Lib.hid hx
  have HXL := Lib.hid hxl
  clear hx hxl
  go_wp2_with fail
  refine (check_any d _ _ _ xs op hok (by rw [HXL.out]; omega)).mono ?_
  rintro e w1 ⟨rfl, x1⟩
  have c1 := (op.ext x1).opAt HX.out
  have oq1 := oq.ext x1
  go_wp2_with fail
  refine (check_any d _ _ _ (xs.set j movI) oq1 hokq (by rw [List.length_set, HXL.out]; omega)).mono ?_
  rintro e w2 ⟨rfl, x2⟩
  have c2 := ((op.ext x1).ext x2).opAt HX.out
  have x3 := x1.trans x2
  go_wp2
  exact HQ.out _ _ _ _ _ _ _ _ _ _ _ _ _ _ _ _ _ _ _ _ _ _ _ _ _ _ _ _ _ _ _ _ _ _ _ _ _ _ _ _ _ _ x3
set_option maxRecDepth 100000 in
set_option maxHeartbeats 2000000 in
theorem prog_r19_11 (f0 f2 f3 f4 f6 f7 f8 f12 f13 f14 f15 f16 f17 f18 f19 f20 f21 f22 f23 f24 f25 f26 f27 f28 f29 f30 f31 f32 f33 f34 f35 f36 f37 f38 f39 f40 f41 f42 f43 f44 f45 f46 f47 f48 f49 f50 f51 f52 f53 f54 f55 f56 f57 f58 f59 f60 f61 f62 f63 f64 f65 f66 f67 f68 f69 f70 f71 f72 f73 f74 f75 f76 f77 f78 f79 f80 f81 f82 f83 f84 f85 f86 f87 f88 f89 f90 f91 f92 f93 f94 f95 f96 f97 f98 f99 f100 f101 f102 f103 f104 f105 f106 f107 f108 f109 f110 f111 f112 f113 f114 f115 f116 f117 f118 f119 f120 f121 f122 f123 f124 f125 f126 f127 f128 f129 f130 f131 f132 f133 f134 : Value) (d : Bool) (gp n cp : Nat) (bad : Int) (j : Nat) (vq : Value) (w : World) (base base' : Nat) (xs : List In) (x : In) (op : OwnP w base (.slice (some ⟨gp, 0, none⟩) n cp) xs) (oq : OwnP w base' vq (xs.set j movI)) (hok : ∀ x ∈ xs, x.ok) (hokq : ∀ x ∈ xs.set j movI, x.ok) (hxl : xs.length = n) (hn : n ≤ 20) (hj : j < n) (hx : xs[j]? = some x) (hb : bad < 0) (hc : (chk d xs != 0) = true) (hq : (chk d (xs.set j movI) == 0) = false) (ho : x.op = 11) {Q : Exit → Act → World → Prop}
    (hQ : ∀ (c83 c84 c85 c86 c87 c88 c89 c90 c91 c92 c93 c94 c95 c96 c97 c98 c99 c100 c101 c102 c103 c104 c105 c106 c107 c108 c109 c110 c111 c112 c113 c114 c115 c116 c117 c118 c119 c120 c121 c122 c123 : Value) (wx : World), Ext w wx → Q .normal ⟨(f0 :: Value.bool d :: f2 :: f3 :: f4 :: Value.slice (some ⟨gp, 0, none⟩) n cp :: f6 :: f7 :: f8 :: Value.int .i64 bad :: Value.int .i64 (j : Int) :: vq :: f12 :: f13 :: f14 :: f15 :: f16 :: f17 :: f18 :: f19 :: f20 :: f21 :: f22 :: f23 :: f24 :: f25 :: f26 :: f27 :: f28 :: f29 :: f30 :: f31 :: f32 :: f33 :: f34 :: f35 :: f36 :: f37 :: f38 :: f39 :: f40 :: f41 :: f42 :: f43 :: f44 :: f45 :: f46 :: f47 :: f48 :: f49 :: f50 :: f51 :: f52 :: f53 :: f54 :: f55 :: f56 :: f57 :: f58 :: f59 :: f60 :: f61 :: f62 :: f63 :: f64 :: f65 :: f66 :: f67 :: f68 :: f69 :: f70 :: f71 :: f72 :: f73 :: f74 :: f75 :: f76 :: f77 :: f78 :: f79 :: f80 :: f81 :: f82 :: c83 :: c84 :: c85 :: c86 :: c87 :: c88 :: c89 :: c90 :: c91 :: c92 :: c93 :: c94 :: c95 :: c96 :: c97 :: c98 :: c99 :: c100 :: c101 :: c102 :: c103 :: c104 :: c105 :: c106 :: c107 :: c108 :: c109 :: c110 :: c111 :: c112 :: c113 :: c114 :: c115 :: c116 :: c117 :: c118 :: c119 :: c120 :: c121 :: c122 :: c123 :: Value.bool true :: f125 :: f126 :: f127 :: f128 :: f129 :: f130 :: f131 :: f132 :: f133 :: f134 :: List.nil).toArray, []⟩ wx) : Code.wp Try.prog (regionOf Try.f29 19) Q ⟨(f0 :: Value.bool d :: f2 :: f3 :: f4 :: Value.slice (some ⟨gp, 0, none⟩) n cp :: f6 :: f7 :: f8 :: Value.int .i64 bad :: Value.int .i64 (j : Int) :: vq :: f12 :: f13 :: f14 :: f15 :: f16 :: f17 :: f18 :: f19 :: f20 :: f21 :: f22 :: f23 :: f24 :: f25 :: f26 :: f27 :: f28 :: f29 :: f30 :: f31 :: f32 :: f33 :: f34 :: f35 :: f36 :: f37 :: f38 :: f39 :: f40 :: f41 :: f42 :: f43 :: f44 :: f45 :: f46 :: f47 :: f48 :: f49 :: f50 :: f51 :: f52 :: f53 :: f54 :: f55 :: f56 :: f57 :: f58 :: f59 :: f60 :: f61 :: f62 :: f63 :: f64 :: f65 :: f66 :: f67 :: f68 :: f69 :: f70 :: f71 :: f72 :: f73 :: f74 :: f75 :: f76 :: f77 :: f78 :: f79 :: f80 :: f81 :: f82 :: f83 :: f84 :: f85 :: f86 :: f87 :: f88 :: f89 :: f90 :: f91 :: f92 :: f93 :: f94 :: f95 :: f96 :: f97 :: f98 :: f99 :: f100 :: f101 :: f102 :: f103 :: f104 :: f105 :: f106 :: f107 :: f108 :: f109 :: f110 :: f111 :: f112 :: f113 :: f114 :: f115 :: f116 :: f117 :: f118 :: f119 :: f120 :: f121 :: f122 :: f123 :: f124 :: f125 :: f126 :: f127 :: f128 :: f129 :: f130 :: f131 :: f132 :: f133 :: f134 :: List.nil).toArray, []⟩ w := by
  change Code.wp Try.prog (Code.region _ _ false) _ _ _
  have hjI : (j : Int) < (n : Int) := by omega
  have hnI : (n : Int) ≤ 20 := by omega
  have HQ := Lib.hid hQ
  clear hQ
  have HX := Lib.hid hx
  have HXL := Lib.hid hxl
  clear hx hxl
  go_wp2_with fail
  refine (check_any d _ _ _ xs op hok (by rw [HXL.out]; omega)).mono ?_
  rintro e w1 ⟨rfl, x1⟩
  have c1 := (op.ext x1).opAt HX.out
  have oq1 := oq.ext x1
  go_wp2_with fail
  refine (check_any d _ _ _ (xs.set j movI) oq1 hokq (by rw [List.length_set, HXL.out]; omega)).mono ?_
  rintro e w2 ⟨rfl, x2⟩
  have c2 := ((op.ext x1).ext x2).opAt HX.out
  have x3 := x1.trans x2
  go_wp2
  exact HQ.out _ _ _ _ _ _ _ _ _ _ _ _ _ _ _ _ _ _ _ _ _ _ _ _ _ _ _ _ _ _ _ _ _ _ _ _ _ _ _ _ _ _ x3
set_option maxRecDepth 100000 in
set_option maxHeartbeats 2000000 in
theorem prog_r19_13 (f0 f2 f3 f4 f6 f7 f8 f12 f13 f14 f15 f16 f17 f18 f19 f20 f21 f22 f23 f24 f25 f26 f27 f28 f29 f30 f31 f32 f33 f34 f35 f36 f37 f38 f39 f40 f41 f42 f43 f44 f45 f46 f47 f48 f49 f50 f51 f52 f53 f54 f55 f56 f57 f58 f59 f60 f61 f62 f63 f64 f65 f66 f67 f68 f69 f70 f71 f72 f73 f74 f75 f76 f77 f78 f79 f80 f81 f82 f83 f84 f85 f86 f87 f88 f89 f90 f91 f92 f93 f94 f95 f96 f97 f98 f99 f100 f101 f102 f103 f104 f105 f106 f107 f108 f109 f110 f111 f112 f113 f114 f115 f116 f117 f118 f119 f120 f121 f122 f123 f124 f125 f126 f127 f128 f129 f130 f131 f132 f133 f134 : Value) (d : Bool) (gp n cp : Nat) (bad : Int) (j : Nat) (vq : Value) (w : World) (base base' : Nat) (xs : List In) (x : In) (op : OwnP w base (.slice (some ⟨gp, 0, none⟩) n cp) xs) (oq : OwnP w base' vq (xs.set j movI)) (hok : ∀ x ∈ xs, x.ok) (hokq : ∀ x ∈ xs.set j movI, x.ok) (hxl : xs.length = n) (hn : n ≤ 20) (hj : j < n) (hx : xs[j]? = some x) (hb : bad < 0) (hc : (chk d xs != 0) = true) (hq : (chk d (xs.set j movI) == 0) = false) (ho : x.op = 13) {Q : Exit → Act → World → Prop}
    (hQ : ∀ (c83 c84 c85 c86 c87 c88 c89 c90 c91 c92 c93 c94 c95 c96 c97 c98 c99 c100 c101 c102 c103 c104 c105 c106 c107 c108 c109 c110 c111 c112 c113 c114 c115 c116 c117 c118 c119 c120 c121 c122 c123 : Value) (wx : World), Ext w wx → Q .normal ⟨(f0 :: Value.bool d :: f2 :: f3 :: f4 :: Value.slice (some ⟨gp, 0, none⟩) n cp :: f6 :: f7 :: f8 :: Value.int .i64 bad :: Value.int .i64 (j : Int) :: vq :: f12 :: f13 :: f14 :: f15 :: f16 :: f17 :: f18 :: f19 :: f20 :: f21 :: f22 :: f23 :: f24 :: f25 :: f26 :: f27 :: f28 :: f29 :: f30 :: f31 :: f32 :: f33 :: f34 :: f35 :: f36 :: f37 :: f38 :: f39 :: f40 :: f41 :: f42 :: f43 :: f44 :: f45 :: f46 :: f47 :: f48 :: f49 :: f50 :: f51 :: f52 :: f53 :: f54 :: f55 :: f56 :: f57 :: f58 :: f59 :: f60 :: f61 :: f62 :: f63 :: f64 :: f65 :: f66 :: f67 :: f68 :: f69 :: f70 :: f71 :: f72 :: f73 :: f74 :: f75 :: f76 :: f77 :: f78 :: f79 :: f80 :: f81 :: f82 :: c83 :: c84 :: c85 :: c86 :: c87 :: c88 :: c89 :: c90 :: c91 :: c92 :: c93 :: c94 :: c95 :: c96 :: c97 :: c98 :: c99 :: c100 :: c101 :: c102 :: c103 :: c104 :: c105 :: c106 :: c107 :: c108 :: c109 :: c110 :: c111 :: c112 :: c113 :: c114 :: c115 :: c116 :: c117 :: c118 :: c119 :: c120 :: c121 :: c122 :: c123 :: Value.bool (!d) :: f125 :: f126 :: f127 :: f128 :: f129 :: f130 :: f131 :: f132 :: f133 :: f134 :: List.nil).toArray, []⟩ wx) : Code.wp Try.prog (regionOf Try.f29 19) Q ⟨(f0 :: Value.bool d :: f2 :: f3 :: f4 :: Value.slice (some ⟨gp, 0, none⟩) n cp :: f6 :: f7 :: f8 :: Value.int .i64 bad :: Value.int .i64 (j : Int) :: vq :: f12 :: f13 :: f14 :: f15 :: f16 :: f17 :: f18 :: f19 :: f20 :: f21 :: f22 :: f23 :: f24 :: f25 :: f26 :: f27 :: f28 :: f29 :: f30 :: f31 :: f32 :: f33 :: f34 :: f35 :: f36 :: f37 :: f38 :: f39 :: f40 :: f41 :: f42 :: f43 :: f44 :: f45 :: f46 :: f47 :: f48 :: f49 :: f50 :: f51 :: f52 :: f53 :: f54 :: f55 :: f56 :: f57 :: f58 :: f59 :: f60 :: f61 :: f62 :: f63 :: f64 :: f65 :: f66 :: f67 :: f68 :: f69 :: f70 :: f71 :: f72 :: f73 :: f74 :: f75 :: f76 :: f77 :: f78 :: f79 :: f80 :: f81 :: f82 :: f83 :: f84 :: f85 :: f86 :: f87 :: f88 :: f89 :: f90 :: f91 :: f92 :: f93 :: f94 :: f95 :: f96 :: f97 :: f98 :: f99 :: f100 :: f101 :: f102 :: f103 :: f104 :: f105 :: f106 :: f107 :: f108 :: f109 :: f110 :: f111 :: f112 :: f113 :: f114 :: f115 :: f116 :: f117 :: f118 :: f119 :: f120 :: f121 :: f122 :: f123 :: f124 :: f125 :: f126 :: f127 :: f128 :: f129 :: f130 :: f131 :: f132 :: f133 :: f134 :: List.nil).toArray, []⟩ w := by
  change Code.wp Try.prog (Code.region _ _ false) _ _ _
  have hjI : (j : Int) < (n : Int) := by omega
  have hnI : (n : Int) ≤ 20 := by omega
  have HQ := Lib.hid hQ
  clear hQ
  have HX := Lib.hid hx
  have HXL := Lib.hid hxl
  clear hx hxl
  go_wp2_with fail
  refine (check_any d _ _ _ xs op hok (by rw [HXL.out]; omega)).mono ?_
  rintro e w1 ⟨rfl, x1⟩
  have c1 := (op.ext x1).opAt HX.out
  have oq1 := oq.ext x1
  go_wp2_with fail
  refine (check_any d _ _ _ (xs.set j movI) oq1 hokq (by rw [List.length_set, HXL.out]; omega)).mono ?_
  rintro e w2 ⟨rfl, x2⟩
  have c2 := ((op.ext x1).ext x2).opAt HX.out
  have x3 := x1.trans x2
  go_wp2
  exact HQ.out _ _ _ _ _ _ _ _ _ _ _ _ _ _ _ _ _ _ _ _ _ _ _ _ _ _ _ _ _ _ _ _ _ _ _ _ _ _ _ _ _ _ x3
set_option maxRecDepth 100000 in
set_option maxHeartbeats 2000000 in
theorem prog_r19_no (f0 f2 f3 f4 f6 f7 f8 f12 f13 f14 f15 f16 f17 f18 f19 f20 f21 f22 f23 f24 f25 f26 f27 f28 f29 f30 f31 f32 f33 f34 f35 f36 f37 f38 f39 f40 f41 f42 f43 f44 f45 f46 f47 f48 f49 f50 f51 f52 f53 f54 f55 f56 f57 f58 f59 f60 f61 f62 f63 f64 f65 f66 f67 f68 f69 f70 f71 f72 f73 f74 f75 f76 f77 f78 f79 f80 f81 f82 f83 f84 f85 f86 f87 f88 f89 f90 f91 f92 f93 f94 f95 f96 f97 f98 f99 f100 f101 f102 f103 f104 f105 f106 f107 f108 f109 f110 f111 f112 f113 f114 f115 f116 f117 f118 f119 f120 f121 f122 f123 f124 f125 f126 f127 f128 f129 f130 f131 f132 f133 f134 : Value) (d : Bool) (gp n cp : Nat) (bad : Int) (j : Nat) (vq : Value) (w : World) (base base' : Nat) (xs : List In) (x : In) (op : OwnP w base (.slice (some ⟨gp, 0, none⟩) n cp) xs) (oq : OwnP w base' vq (xs.set j movI)) (hok : ∀ x ∈ xs, x.ok) (hokq : ∀ x ∈ xs.set j movI, x.ok) (hxl : xs.length = n) (hn : n ≤ 20) (hj : j < n) (hx : xs[j]? = some x) (hb : bad < 0) (hc : (chk d xs != 0) = true) (hq : (chk d (xs.set j movI) == 0) = false) (h12 : (x.op == 12) = false) (h11 : (x.op == 11) = false) (h13 : (x.op == 13) = false) {Q : Exit → Act → World → Prop}
    (hQ : ∀ (c83 c84 c85 c86 c87 c88 c89 c90 c91 c92 c93 c94 c95 c96 c97 c98 c99 c100 c101 c102 c103 c104 c105 c106 c107 c108 c109 c110 c111 c112 c113 c114 c115 c116 c117 c118 c119 c120 c121 c122 c123 : Value) (wx : World), Ext w wx → Q .normal ⟨(f0 :: Value.bool d :: f2 :: f3 :: f4 :: Value.slice (some ⟨gp, 0, none⟩) n cp :: f6 :: f7 :: f8 :: Value.int .i64 bad :: Value.int .i64 (j : Int) :: vq :: f12 :: f13 :: f14 :: f15 :: f16 :: f17 :: f18 :: f19 :: f20 :: f21 :: f22 :: f23 :: f24 :: f25 :: f26 :: f27 :: f28 :: f29 :: f30 :: f31 :: f32 :: f33 :: f34 :: f35 :: f36 :: f37 :: f38 :: f39 :: f40 :: f41 :: f42 :: f43 :: f44 :: f45 :: f46 :: f47 :: f48 :: f49 :: f50 :: f51 :: f52 :: f53 :: f54 :: f55 :: f56 :: f57 :: f58 :: f59 :: f60 :: f61 :: f62 :: f63 :: f64 :: f65 :: f66 :: f67 :: f68 :: f69 :: f70 :: f71 :: f72 :: f73 :: f74 :: f75 :: f76 :: f77 :: f78 :: f79 :: f80 :: f81 :: f82 :: c83 :: c84 :: c85 :: c86 :: c87 :: c88 :: c89 :: c90 :: c91 :: c92 :: c93 :: c94 :: c95 :: c96 :: c97 :: c98 :: c99 :: c100 :: c101 :: c102 :: c103 :: c104 :: c105 :: c106 :: c107 :: c108 :: c109 :: c110 :: c111 :: c112 :: c113 :: c114 :: c115 :: c116 :: c117 :: c118 :: c119 :: c120 :: c121 :: c122 :: c123 :: Value.bool false :: f125 :: f126 :: f127 :: f128 :: f129 :: f130 :: f131 :: f132 :: f133 :: f134 :: List.nil).toArray, []⟩ wx) : Code.wp Try.prog (regionOf Try.f29 19) Q ⟨(f0 :: Value.bool d :: f2 :: f3 :: f4 :: Value.slice (some ⟨gp, 0, none⟩) n cp :: f6 :: f7 :: f8 :: Value.int .i64 bad :: Value.int .i64 (j : Int) :: vq :: f12 :: f13 :: f14 :: f15 :: f16 :: f17 :: f18 :: f19 :: f20 :: f21 :: f22 :: f23 :: f24 :: f25 :: f26 :: f27 :: f28 :: f29 :: f30 :: f31 :: f32 :: f33 :: f34 :: f35 :: f36 :: f37 :: f38 :: f39 :: f40 :: f41 :: f42 :: f43 :: f44 :: f45 :: f46 :: f47 :: f48 :: f49 :: f50 :: f51 :: f52 :: f53 :: f54 :: f55 :: f56 :: f57 :: f58 :: f59 :: f60 :: f61 :: f62 :: f63 :: f64 :: f65 :: f66 :: f67 :: f68 :: f69 :: f70 :: f71 :: f72 :: f73 :: f74 :: f75 :: f76 :: f77 :: f78 :: f79 :: f80 :: f81 :: f82 :: f83 :: f84 :: f85 :: f86 :: f87 :: f88 :: f89 :: f90 :: f91 :: f92 :: f93 :: f94 :: f95 :: f96 :: f97 :: f98 :: f99 :: f100 :: f101 :: f102 :: f103 :: f104 :: f105 :: f106 :: f107 :: f108 :: f109 :: f110 :: f111 :: f112 :: f113 :: f114 :: f115 :: f116 :: f117 :: f118 :: f119 :: f120 :: f121 :: f122 :: f123 :: f124 :: f125 :: f126 :: f127 :: f128 :: f129 :: f130 :: f131 :: f132 :: f133 :: f134 :: List.nil).toArray, []⟩ w := by
  change Code.wp Try.prog (Code.region _ _ false) _ _ _
  have hjI : (j : Int) < (n : Int) := by omega
  have hnI : (n : Int) ≤ 20 := by omega
  have HQ := Lib.hid hQ
  clear hQ
  have HX := Lib.hid hx
  have HXL := Lib.hid hxl
  clear hx hxl
  go_wp2_with fail
  refine (check_any d _ _ _ xs op hok (by rw [HXL.out]; omega)).mono ?_
  rintro e w1 ⟨rfl, x1⟩
  have c1 := (op.ext x1).opAt HX.out
  have oq1 := oq.ext x1
  go_wp2_with fail
  refine (check_any d _ _ _ (xs.set j movI) oq1 hokq (by rw [List.length_set, HXL.out]; omega)).mono ?_
  rintro e w2 ⟨rfl, x2⟩
  have c2 := ((op.ext x1).ext x2).opAt HX.out
  have x3 := x1.trans x2
  go_wp2
  exact HQ.out _ _ _ _ _ _ _ _ _ _ _ _ _ _ _ _ _ _ _ _ _ _ _ _ _ _ _ _ _ _ _ _ _ _ _ _ _ _ _ _ _ _ x3
set_option maxRecDepth 100000 in
set_option maxHeartbeats 2000000 in
theorem prog_r19 (f0 f2 f3 f4 f6 f7 f8 f12 f13 f14 f15 f16 f17 f18 f19 f20 f21 f22 f23 f24 f25 f26 f27 f28 f29 f30 f31 f32 f33 f34 f35 f36 f37 f38 f39 f40 f41 f42 f43 f44 f45 f46 f47 f48 f49 f50 f51 f52 f53 f54 f55 f56 f57 f58 f59 f60 f61 f62 f63 f64 f65 f66 f67 f68 f69 f70 f71 f72 f73 f74 f75 f76 f77 f78 f79 f80 f81 f82 f83 f84 f85 f86 f87 f88 f89 f90 f91 f92 f93 f94 f95 f96 f97 f98 f99 f100 f101 f102 f103 f104 f105 f106 f107 f108 f109 f110 f111 f112 f113 f114 f115 f116 f117 f118 f119 f120 f121 f122 f123 f124 f125 f126 f127 f128 f129 f130 f131 f132 f133 f134 : Value) (d : Bool) (gp n cp : Nat) (bad : Int) (j : Nat) (vq : Value) (w : World) (base base' : Nat) (xs : List In) (x : In) (op : OwnP w base (.slice (some ⟨gp, 0, none⟩) n cp) xs) (oq : OwnP w base' vq (xs.set j movI)) (hok : ∀ x ∈ xs, x.ok) (hokq : ∀ x ∈ xs.set j movI, x.ok) (hxl : xs.length = n) (hn : n ≤ 20) (hj : j < n) (hx : xs[j]? = some x)  {Q : Exit → Act → World → Prop}
    (hQ : ∀ (c83 c84 c85 c86 c87 c88 c89 c90 c91 c92 c93 c94 c95 c96 c97 c98 c99 c100 c101 c102 c103 c104 c105 c106 c107 c108 c109 c110 c111 c112 c113 c114 c115 c116 c117 c118 c119 c120 c121 c122 c123 : Value) (wx : World), Ext w wx → Q .normal ⟨(f0 :: Value.bool d :: f2 :: f3 :: f4 :: Value.slice (some ⟨gp, 0, none⟩) n cp :: f6 :: f7 :: f8 :: Value.int .i64 bad :: Value.int .i64 (j : Int) :: vq :: f12 :: f13 :: f14 :: f15 :: f16 :: f17 :: f18 :: f19 :: f20 :: f21 :: f22 :: f23 :: f24 :: f25 :: f26 :: f27 :: f28 :: f29 :: f30 :: f31 :: f32 :: f33 :: f34 :: f35 :: f36 :: f37 :: f38 :: f39 :: f40 :: f41 :: f42 :: f43 :: f44 :: f45 :: f46 :: f47 :: f48 :: f49 :: f50 :: f51 :: f52 :: f53 :: f54 :: f55 :: f56 :: f57 :: f58 :: f59 :: f60 :: f61 :: f62 :: f63 :: f64 :: f65 :: f66 :: f67 :: f68 :: f69 :: f70 :: f71 :: f72 :: f73 :: f74 :: f75 :: f76 :: f77 :: f78 :: f79 :: f80 :: f81 :: f82 :: c83 :: c84 :: c85 :: c86 :: c87 :: c88 :: c89 :: c90 :: c91 :: c92 :: c93 :: c94 :: c95 :: c96 :: c97 :: c98 :: c99 :: c100 :: c101 :: c102 :: c103 :: c104 :: c105 :: c106 :: c107 :: c108 :: c109 :: c110 :: c111 :: c112 :: c113 :: c114 :: c115 :: c116 :: c117 :: c118 :: c119 :: c120 :: c121 :: c122 :: c123 :: Value.bool (hitB d xs j x bad) :: f125 :: f126 :: f127 :: f128 :: f129 :: f130 :: f131 :: f132 :: f133 :: f134 :: List.nil).toArray, []⟩ wx) : Code.wp Try.prog (regionOf Try.f29 19) Q ⟨(f0 :: Value.bool d :: f2 :: f3 :: f4 :: Value.slice (some ⟨gp, 0, none⟩) n cp :: f6 :: f7 :: f8 :: Value.int .i64 bad :: Value.int .i64 (j : Int) :: vq :: f12 :: f13 :: f14 :: f15 :: f16 :: f17 :: f18 :: f19 :: f20 :: f21 :: f22 :: f23 :: f24 :: f25 :: f26 :: f27 :: f28 :: f29 :: f30 :: f31 :: f32 :: f33 :: f34 :: f35 :: f36 :: f37 :: f38 :: f39 :: f40 :: f41 :: f42 :: f43 :: f44 :: f45 :: f46 :: f47 :: f48 :: f49 :: f50 :: f51 :: f52 :: f53 :: f54 :: f55 :: f56 :: f57 :: f58 :: f59 :: f60 :: f61 :: f62 :: f63 :: f64 :: f65 :: f66 :: f67 :: f68 :: f69 :: f70 :: f71 :: f72 :: f73 :: f74 :: f75 :: f76 :: f77 :: f78 :: f79 :: f80 :: f81 :: f82 :: f83 :: f84 :: f85 :: f86 :: f87 :: f88 :: f89 :: f90 :: f91 :: f92 :: f93 :: f94 :: f95 :: f96 :: f97 :: f98 :: f99 :: f100 :: f101 :: f102 :: f103 :: f104 :: f105 :: f106 :: f107 :: f108 :: f109 :: f110 :: f111 :: f112 :: f113 :: f114 :: f115 :: f116 :: f117 :: f118 :: f119 :: f120 :: f121 :: f122 :: f123 :: f124 :: f125 :: f126 :: f127 :: f128 :: f129 :: f130 :: f131 :: f132 :: f133 :: f134 :: List.nil).toArray, []⟩ w := by
  by_cases hb : bad < 0
  · by_cases hc : chk d xs = 0
    · rw [show hitB d xs j x bad = false by simp [hitB, hc]] at hQ
      exact prog_r19_ok f0 f2 f3 f4 f6 f7 f8 f12 f13 f14 f15 f16 f17 f18 f19 f20 f21 f22 f23 f24 f25 f26 f27 f28 f29 f30 f31 f32 f33 f34 f35 f36 f37 f38 f39 f40 f41 f42 f43 f44 f45 f46 f47 f48 f49 f50 f51 f52 f53 f54 f55 f56 f57 f58 f59 f60 f61 f62 f63 f64 f65 f66 f67 f68 f69 f70 f71 f72 f73 f74 f75 f76 f77 f78 f79 f80 f81 f82 f83 f84 f85 f86 f87 f88 f89 f90 f91 f92 f93 f94 f95 f96 f97 f98 f99 f100 f101 f102 f103 f104 f105 f106 f107 f108 f109 f110 f111 f112 f113 f114 f115 f116 f117 f118 f119 f120 f121 f122 f123 f124 f125 f126 f127 f128 f129 f130 f131 f132 f133 f134 d gp n cp bad j vq w base base' xs x op oq hok hokq hxl hn hj hx hb hc hQ
    · have hc' : (chk d xs != 0) = true := by simpa using hc
      by_cases hq : chk d (xs.set j movI) = 0
      · rw [show hitB d xs j x bad = true by simp [hitB, hc, hb, hq]] at hQ
        exact prog_r19_q f0 f2 f3 f4 f6 f7 f8 f12 f13 f14 f15 f16 f17 f18 f19 f20 f21 f22 f23 f24 f25 f26 f27 f28 f29 f30 f31 f32 f33 f34 f35 f36 f37 f38 f39 f40 f41 f42 f43 f44 f45 f46 f47 f48 f49 f50 f51 f52 f53 f54 f55 f56 f57 f58 f59 f60 f61 f62 f63 f64 f65 f66 f67 f68 f69 f70 f71 f72 f73 f74 f75 f76 f77 f78 f79 f80 f81 f82 f83 f84 f85 f86 f87 f88 f89 f90 f91 f92 f93 f94 f95 f96 f97 f98 f99 f100 f101 f102 f103 f104 f105 f106 f107 f108 f109 f110 f111 f112 f113 f114 f115 f116 f117 f118 f119 f120 f121 f122 f123 f124 f125 f126 f127 f128 f129 f130 f131 f132 f133 f134 d gp n cp bad j vq w base base' xs x op oq hok hokq hxl hn hj hx hb hc' hq hQ
      · have hq' : (chk d (xs.set j movI) == 0) = false := by simpa using hq
        by_cases h12 : x.op = 12
        · rw [show hitB d xs j x bad = true by simp [hitB, hc, hb, special, h12]] at hQ
          exact prog_r19_12 f0 f2 f3 f4 f6 f7 f8 f12 f13 f14 f15 f16 f17 f18 f19 f20 f21 f22 f23 f24 f25 f26 f27 f28 f29 f30 f31 f32 f33 f34 f35 f36 f37 f38 f39 f40 f41 f42 f43 f44 f45 f46 f47 f48 f49 f50 f51 f52 f53 f54 f55 f56 f57 f58 f59 f60 f61 f62 f63 f64 f65 f66 f67 f68 f69 f70 f71 f72 f73 f74 f75 f76 f77 f78 f79 f80 f81 f82 f83 f84 f85 f86 f87 f88 f89 f90 f91 f92 f93 f94 f95 f96 f97 f98 f99 f100 f101 f102 f103 f104 f105 f106 f107 f108 f109 f110 f111 f112 f113 f114 f115 f116 f117 f118 f119 f120 f121 f122 f123 f124 f125 f126 f127 f128 f129 f130 f131 f132 f133 f134 d gp n cp bad j vq w base base' xs x op oq hok hokq hxl hn hj hx hb hc' hq' h12 hQ
        · by_cases h11 : x.op = 11
          · rw [show hitB d xs j x bad = true by simp [hitB, hc, hb, special, h11]] at hQ
            exact prog_r19_11 f0 f2 f3 f4 f6 f7 f8 f12 f13 f14 f15 f16 f17 f18 f19 f20 f21 f22 f23 f24 f25 f26 f27 f28 f29 f30 f31 f32 f33 f34 f35 f36 f37 f38 f39 f40 f41 f42 f43 f44 f45 f46 f47 f48 f49 f50 f51 f52 f53 f54 f55 f56 f57 f58 f59 f60 f61 f62 f63 f64 f65 f66 f67 f68 f69 f70 f71 f72 f73 f74 f75 f76 f77 f78 f79 f80 f81 f82 f83 f84 f85 f86 f87 f88 f89 f90 f91 f92 f93 f94 f95 f96 f97 f98 f99 f100 f101 f102 f103 f104 f105 f106 f107 f108 f109 f110 f111 f112 f113 f114 f115 f116 f117 f118 f119 f120 f121 f122 f123 f124 f125 f126 f127 f128 f129 f130 f131 f132 f133 f134 d gp n cp bad j vq w base base' xs x op oq hok hokq hxl hn hj hx hb hc' hq' h11 hQ
          · by_cases h13 : x.op = 13
            · rw [show hitB d xs j x bad = !d by simp [hitB, hc, hb, hq, special, h13]] at hQ
              exact prog_r19_13 f0 f2 f3 f4 f6 f7 f8 f12 f13 f14 f15 f16 f17 f18 f19 f20 f21 f22 f23 f24 f25 f26 f27 f28 f29 f30 f31 f32 f33 f34 f35 f36 f37 f38 f39 f40 f41 f42 f43 f44 f45 f46 f47 f48 f49 f50 f51 f52 f53 f54 f55 f56 f57 f58 f59 f60 f61 f62 f63 f64 f65 f66 f67 f68 f69 f70 f71 f72 f73 f74 f75 f76 f77 f78 f79 f80 f81 f82 f83 f84 f85 f86 f87 f88 f89 f90 f91 f92 f93 f94 f95 f96 f97 f98 f99 f100 f101 f102 f103 f104 f105 f106 f107 f108 f109 f110 f111 f112 f113 f114 f115 f116 f117 f118 f119 f120 f121 f122 f123 f124 f125 f126 f127 f128 f129 f130 f131 f132 f133 f134 d gp n cp bad j vq w base base' xs x op oq hok hokq hxl hn hj hx hb hc' hq' h13 hQ
            · rw [show hitB d xs j x bad = false by simp [hitB, hq, special, h12, h11, h13]] at hQ
              exact prog_r19_no f0 f2 f3 f4 f6 f7 f8 f12 f13 f14 f15 f16 f17 f18 f19 f20 f21 f22 f23 f24 f25 f26 f27 f28 f29 f30 f31 f32 f33 f34 f35 f36 f37 f38 f39 f40 f41 f42 f43 f44 f45 f46 f47 f48 f49 f50 f51 f52 f53 f54 f55 f56 f57 f58 f59 f60 f61 f62 f63 f64 f65 f66 f67 f68 f69 f70 f71 f72 f73 f74 f75 f76 f77 f78 f79 f80 f81 f82 f83 f84 f85 f86 f87 f88 f89 f90 f91 f92 f93 f94 f95 f96 f97 f98 f99 f100 f101 f102 f103 f104 f105 f106 f107 f108 f109 f110 f111 f112 f113 f114 f115 f116 f117 f118 f119 f120 f121 f122 f123 f124 f125 f126 f127 f128 f129 f130 f131 f132 f133 f134 d gp n cp bad j vq w base base' xs x op oq hok hokq hxl hn hj hx hb hc' hq' (by simpa using h12) (by simpa using h11) (by simpa using h13) hQ
  · rw [show hitB d xs j x bad = false by simp [hitB]; omega] at hQ
    exact prog_r19_bad f0 f2 f3 f4 f6 f7 f8 f12 f13 f14 f15 f16 f17 f18 f19 f20 f21 f22 f23 f24 f25 f26 f27 f28 f29 f30 f31 f32 f33 f34 f35 f36 f37 f38 f39 f40 f41 f42 f43 f44 f45 f46 f47 f48 f49 f50 f51 f52 f53 f54 f55 f56 f57 f58 f59 f60 f61 f62 f63 f64 f65 f66 f67 f68 f69 f70 f71 f72 f73 f74 f75 f76 f77 f78 f79 f80 f81 f82 f83 f84 f85 f86 f87 f88 f89 f90 f91 f92 f93 f94 f95 f96 f97 f98 f99 f100 f101 f102 f103 f104 f105 f106 f107 f108 f109 f110 f111 f112 f113 f114 f115 f116 f117 f118 f119 f120 f121 f122 f123 f124 f125 f126 f127 f128 f129 f130 f131 f132 f133 f134 d gp n cp bad j vq w base base' xs x op oq hok hokq hxl hn hj hx hb hQ
end Go.Proofs.Ytbbfmlehddfneaa

namespace Go.Proofs.Ytbbfmlehddfneaa
open Go.RowKit
set_option linter.unusedVariables false
set_option maxRecDepth 100000 in
set_option maxHeartbeats 4000000 in
theorem program_fn (d : Bool) (w : World) (v : Value) (sl : List Sm) (h : SArr w v sl) (hl : sl.length ≤ 40) :
    Calls Try.prog 29 #[v, .bool d] w fun e w' => ∃ v' xs, e = .returned v' ∧ OwnP w' w.heap.size v' xs ∧ (∀ x ∈ xs, x.ok) ∧ xs.length = min sl.length 20 ∧ chk d xs = 0 ∧ Ext w w' ∧ xs = progF d sl := by
  have hA := h
  obtain ⟨⟨ao, c, rfl, -⟩, -, hsb⟩ := h
  have hlI : (sl.length : Int) ≤ 40 := by omega
  have hmild := Lib.hid (mkL_mild (sl := sl.take 20) fun s hs => hsb s (List.mem_of_mem_take hs))
  have hml : (mkL (sl.take 20)).length = min sl.length 20 := by rw [mkL_length]; simp; omega
  have HML := Lib.hid hml
  clear hsb hml
  go_enter Try.func29, Try.ntmps29
  go_wp2_with fail
  go_loopg [14, 5] sl.length (fun k iv pv wr => ∃ (j : Nat), j + k = sl.length ∧ iv = .int .i64 j ∧ OwnP wr w.heap.size pv (mkL ((sl.take 20).take j)) ∧ Ext w wr)
  case atStart => exact ⟨0, by omega, rfl, OwnP.nil _ _, Ext.refl _⟩
  case round =>
    obtain ⟨j, hjk, rfl, o1, e1⟩ := hrel
    by_cases hj : j < sl.length
    · have hjI : (j : Int) < (sl.length : Int) := by omega
      obtain ⟨b, off, s, rfl, hs, hsb, c0, c1, c2, c3, c4, c5⟩ := (hA.ext e1).nth j hj
      obtain ⟨b0, b1, b2, b3, b4⟩ := hsb
      have x2 := (Ext.refl wr).alloc #[.int .u8 s.op, .int .u8 s.dst, .int .u8 s.a, .int .u8 s.b, .int .i16 s.imm, .bool s.raw] 118
      have hzz := e1.size
      by_cases h20 : j < 20
      · have h20I : (j : Int) < 20 := by omega
        have hsn := mkL_snoc (sl := sl.take 20) (j := j) (s := s) (by rw [List.getElem?_take, if_pos h20]; exact hs)
        have HSN := Lib.hid hsn
        have hrl : (mkL ((sl.take 20).take j)).length = j := by rw [mkL_length]; simp; omega
        have HRL := Lib.hid hrl
        have hnb : ∀ k, u5.ownBlock = some k → k < wr.heap.size := fun k hk => (o1.lt k hk).2
        have ha3 := and3_bd s.imm
        have hfa : bits .and .i16 s.imm 3 = and3 s.imm := rfl
        clear hsn hs hrl
        obtain ⟨p, hp⟩ : ∃ p, s.op % 15 = p := ⟨_, rfl⟩
        have hpb : 0 ≤ p ∧ p ≤ 14 := by omega
        by_cases hp12 : p = 12
        · subst hp12
          have hbs := (Blk.new wr #[.int .u8 s.op, .int .u8 s.dst, .int .u8 s.a, .int .u8 s.b, .int .i16 s.imm, .bool s.raw] 118).alloc (.cells #[.int .u8 12, .int .u8 (s.dst % 12), .int .u8 (s.a % 9), .int .u8 (s.b % 12), .int .i16 s.imm] 72)
          have x3 := x2.alloc #[.int .u8 12, .int .u8 (s.dst % 12), .int .u8 (s.a % 9), .int .u8 (s.b % 12), .int .i16 s.imm] 72
          have hcn := lit_in (wr.alloc (.cells #[.int .u8 s.op, .int .u8 s.dst, .int .u8 s.a, .int .u8 s.b, .int .i16 s.imm, .bool s.raw] 118)) ⟨12, s.dst % 12, s.a % 9, s.b % 12, s.imm⟩ 72
          have z3 : (wr.alloc (.cells #[.int .u8 s.op, .int .u8 s.dst, .int .u8 s.a, .int .u8 s.b, .int .i16 s.imm, .bool s.raw] 118)).heap.size = wr.heap.size + 1 := by simp
          rw [z3] at hcn
          dsimp only at hcn
          have o3 := o1.ext x3
          have e3 := e1.trans x3
          clear z3 x2 x3 o1 e1
          go_wp2_with (at_builtin; refine wpList_append_in rfl _ _ rfl w.heap.size _ _ rfl o3 (wr.heap.size + 1) 1 ⟨12, s.dst % 12, s.a % 9, s.b % 12, s.imm⟩ rfl hcn (by rw [HRL.out]; omega) (by simp; omega) ?_
                       intro v4 w4 o4 K4 hk4
                       have e4 := Ext.calm_trans e3 K4 (fun g hg => (o3.lt g (Option.mem_toList.1 hg)).1)
                       have bs4 := hbs.calm K4 (fun hin => by have := hnb _ (Option.mem_toList.1 hin); omega)
                       have cs4 := bs4.cell
                       obtain ⟨ao4, c4', rfl, -, -⟩ := o4.slice
                       have el4 : (mkL ((sl.take 20).take j) ++ [(⟨12, s.dst % 12, s.a % 9, s.b % 12, s.imm⟩ : In)]).length = j + 1 := by rw [List.length_append, HRL.out]; rfl
                       rw [el4] at o4
                       obtain ⟨g4, y4, rfl, -, hy4, d0, d1, d2, d3, d4⟩ := o4.nth j (by rw [el4]; omega)
                       have hth := o4.thaw el4.symm
                       obtain rfl : y4 = ⟨12, s.dst % 12, s.a % 9, s.b % 12, s.imm⟩ := by
                         rw [List.getElem?_append_right (by rw [HRL.out]; omega), HRL.out, Nat.sub_self] at hy4
                         exact (Option.some.inj hy4).symm
                       dsimp only at d0 d1 d2 d3 d4
                       have HEL := Lib.hid el4
                       have HY4 := Lib.hid hy4
                       rw [el4]
                       clear el4 hy4 o3 e3 hcn K4 hk4 hbs bs4)
          have o5 := o4.put2 HEL.out.symm j ⟨12, s.dst % 12, s.a % 9, s.b % 12, s.imm⟩ HY4.out (1 + s.b % 4) (1 + and3 s.imm)
          dsimp only at o5
          rw [show ∀ z, (mkL ((sl.take 20).take j) ++ [(⟨12, s.dst % 12, s.a % 9, s.b % 12, s.imm⟩ : In)]).set j z = mkL ((sl.take 20).take j) ++ [z] from fun z => by have := set_last (mkL ((sl.take 20).take j)) ⟨12, s.dst % 12, s.a % 9, s.b % 12, s.imm⟩ z; rw [HRL.out] at this; exact this] at o5
          have e5 := Ext.calm_trans e4 ((calm_setP w4 g4 (j * 5 + 3) (.int .u8 (1 + s.b % 4))).trans (calm_setP _ g4 (j * 5 + 4) (.int .i16 (1 + and3 s.imm)))) (fun g hg => by simp at hg; rw [hg]; exact (o4.lt g4 rfl).1)
          go_region
          go_wp2
          go_roundg (gk - 1)
          case measure => omega
          case rel => exact ⟨j + 1, by omega, rfl, by rw [HSN.out, show mkI s = ⟨12, s.dst % 12, s.a % 9, 1 + s.b % 4, 1 + and3 s.imm⟩ by unfold mkI; rw [if_pos (by omega)]; unfold loopI; rw [hp]]; exact o5.qt ⟨1, rfl⟩, e5.drew⟩
        · by_cases hp11 : p = 11
          · subst hp11
            have hbs := (Blk.new wr #[.int .u8 s.op, .int .u8 s.dst, .int .u8 s.a, .int .u8 s.b, .int .i16 s.imm, .bool s.raw] 118).alloc (.cells #[.int .u8 11, .int .u8 (s.dst % 12), .int .u8 (s.a % 9), .int .u8 (s.b % 12), .int .i16 s.imm] 72)
            have x3 := x2.alloc #[.int .u8 11, .int .u8 (s.dst % 12), .int .u8 (s.a % 9), .int .u8 (s.b % 12), .int .i16 s.imm] 72
            have hcn := lit_in (wr.alloc (.cells #[.int .u8 s.op, .int .u8 s.dst, .int .u8 s.a, .int .u8 s.b, .int .i16 s.imm, .bool s.raw] 118)) ⟨11, s.dst % 12, s.a % 9, s.b % 12, s.imm⟩ 72
            have z3 : (wr.alloc (.cells #[.int .u8 s.op, .int .u8 s.dst, .int .u8 s.a, .int .u8 s.b, .int .i16 s.imm, .bool s.raw] 118)).heap.size = wr.heap.size + 1 := by simp
            rw [z3] at hcn
            dsimp only at hcn
            have o3 := o1.ext x3
            have e3 := e1.trans x3
            clear z3 x2 x3 o1 e1
            go_wp2_with (at_builtin; refine wpList_append_in rfl _ _ rfl w.heap.size _ _ rfl o3 (wr.heap.size + 1) 1 ⟨11, s.dst % 12, s.a % 9, s.b % 12, s.imm⟩ rfl hcn (by rw [HRL.out]; omega) (by simp; omega) ?_
                         intro v4 w4 o4 K4 hk4
                         have e4 := Ext.calm_trans e3 K4 (fun g hg => (o3.lt g (Option.mem_toList.1 hg)).1)
                         have bs4 := hbs.calm K4 (fun hin => by have := hnb _ (Option.mem_toList.1 hin); omega)
                         have cs4 := bs4.cell
                         obtain ⟨ao4, c4', rfl, -, -⟩ := o4.slice
                         have el4 : (mkL ((sl.take 20).take j) ++ [(⟨11, s.dst % 12, s.a % 9, s.b % 12, s.imm⟩ : In)]).length = j + 1 := by rw [List.length_append, HRL.out]; rfl
                         rw [el4] at o4
                         obtain ⟨g4, y4, rfl, -, hy4, d0, d1, d2, d3, d4⟩ := o4.nth j (by rw [el4]; omega)
                         have hth := o4.thaw el4.symm
                         obtain rfl : y4 = ⟨11, s.dst % 12, s.a % 9, s.b % 12, s.imm⟩ := by
                           rw [List.getElem?_append_right (by rw [HRL.out]; omega), HRL.out, Nat.sub_self] at hy4
                           exact (Option.some.inj hy4).symm
                         dsimp only at d0 d1 d2 d3 d4
                         have HEL := Lib.hid el4
                         have HY4 := Lib.hid hy4
                         rw [el4]
                         clear el4 hy4 o3 e3 hcn K4 hk4 hbs bs4)
            have o5 := o4.put2 HEL.out.symm j ⟨11, s.dst % 12, s.a % 9, s.b % 12, s.imm⟩ HY4.out (1 + s.b % 4) (1 + and3 s.imm)
            dsimp only at o5
            rw [show ∀ z, (mkL ((sl.take 20).take j) ++ [(⟨11, s.dst % 12, s.a % 9, s.b % 12, s.imm⟩ : In)]).set j z = mkL ((sl.take 20).take j) ++ [z] from fun z => by have := set_last (mkL ((sl.take 20).take j)) ⟨11, s.dst % 12, s.a % 9, s.b % 12, s.imm⟩ z; rw [HRL.out] at this; exact this] at o5
            have e5 := Ext.calm_trans e4 ((calm_setP w4 g4 (j * 5 + 3) (.int .u8 (1 + s.b % 4))).trans (calm_setP _ g4 (j * 5 + 4) (.int .i16 (1 + and3 s.imm)))) (fun g hg => by simp at hg; rw [hg]; exact (o4.lt g4 rfl).1)
            go_region
            go_wp2
            go_roundg (gk - 1)
            case measure => omega
            case rel => exact ⟨j + 1, by omega, rfl, by rw [HSN.out, show mkI s = ⟨11, s.dst % 12, s.a % 9, 1 + s.b % 4, 1 + and3 s.imm⟩ by unfold mkI; rw [if_pos (by omega)]; unfold loopI; rw [hp]]; exact o5.qt ⟨1, rfl⟩, e5.drew⟩
          · have hd12 : (p == 12) = false := by simpa using hp12
            have hd11 : (p == 11) = false := by simpa using hp11
            have hbs := (Blk.new wr #[.int .u8 s.op, .int .u8 s.dst, .int .u8 s.a, .int .u8 s.b, .int .i16 s.imm, .bool s.raw] 118).alloc (.cells #[.int .u8 p, .int .u8 (s.dst % 12), .int .u8 (s.a % 9), .int .u8 (s.b % 12), .int .i16 s.imm] 72)
            have x3 := x2.alloc #[.int .u8 p, .int .u8 (s.dst % 12), .int .u8 (s.a % 9), .int .u8 (s.b % 12), .int .i16 s.imm] 72
            have hcn := lit_in (wr.alloc (.cells #[.int .u8 s.op, .int .u8 s.dst, .int .u8 s.a, .int .u8 s.b, .int .i16 s.imm, .bool s.raw] 118)) ⟨p, s.dst % 12, s.a % 9, s.b % 12, s.imm⟩ 72
            have z3 : (wr.alloc (.cells #[.int .u8 s.op, .int .u8 s.dst, .int .u8 s.a, .int .u8 s.b, .int .i16 s.imm, .bool s.raw] 118)).heap.size = wr.heap.size + 1 := by simp
            rw [z3] at hcn
            dsimp only at hcn
            have o3 := o1.ext x3
            have e3 := e1.trans x3
            clear z3 x2 x3 o1 e1
            go_wp2_with (at_builtin; refine wpList_append_in rfl _ _ rfl w.heap.size _ _ rfl o3 (wr.heap.size + 1) 1 ⟨p, s.dst % 12, s.a % 9, s.b % 12, s.imm⟩ rfl hcn (by rw [HRL.out]; omega) (by simp; omega) ?_
                         intro v4 w4 o4 K4 hk4
                         have e4 := Ext.calm_trans e3 K4 (fun g hg => (o3.lt g (Option.mem_toList.1 hg)).1)
                         have bs4 := hbs.calm K4 (fun hin => by have := hnb _ (Option.mem_toList.1 hin); omega)
                         have cs4 := bs4.cell
                         obtain ⟨ao4, c4', rfl, -, -⟩ := o4.slice
                         have el4 : (mkL ((sl.take 20).take j) ++ [(⟨p, s.dst % 12, s.a % 9, s.b % 12, s.imm⟩ : In)]).length = j + 1 := by rw [List.length_append, HRL.out]; rfl
                         rw [el4] at o4
                         obtain ⟨g4, y4, rfl, -, hy4, d0, d1, d2, d3, d4⟩ := o4.nth j (by rw [el4]; omega)
                         have hth := o4.thaw el4.symm
                         obtain rfl : y4 = ⟨p, s.dst % 12, s.a % 9, s.b % 12, s.imm⟩ := by
                           rw [List.getElem?_append_right (by rw [HRL.out]; omega), HRL.out, Nat.sub_self] at hy4
                           exact (Option.some.inj hy4).symm
                         dsimp only at d0 d1 d2 d3 d4
                         have HEL := Lib.hid el4
                         have HY4 := Lib.hid hy4
                         rw [el4]
                         clear el4 hy4 o3 e3 hcn K4 hk4 hbs bs4)
            go_roundg (gk - 1)
            case measure => omega
            case rel => exact ⟨j + 1, by omega, rfl, by rw [HSN.out, show mkI s = ⟨p, s.dst % 12, s.a % 9, s.b % 12, s.imm⟩ by unfold mkI; rw [if_neg (by omega)]; unfold baseI; rw [hp]]; exact o4, e4⟩
      · have h20I : ¬ (j : Int) < 20 := by omega
        have hsm : mkL ((sl.take 20).take (j + 1)) = mkL ((sl.take 20).take j) := by
          have h20l : (sl.take 20).length ≤ 20 := by simp; omega
          rw [List.take_of_length_le (Nat.le_trans h20l (by omega)), List.take_of_length_le (Nat.le_trans h20l (by omega))]
        have HSM := Lib.hid hsm
        clear hsm hs
        go_wp2
        go_roundg (gk - 1)
        case measure => omega
        case rel => exact ⟨j + 1, by omega, rfl, by rw [HSM.out]; exact o1.ext x2, e1.trans x2⟩
    · obtain rfl : j = sl.length := by omega
      rw [show (sl.take 20).take sl.length = sl.take 20 from List.take_of_length_le (by simp; omega)] at o1
      have M0 := Mend.start (d := d) hmild.out
      obtain ⟨ao5, c5, rfl, -, -⟩ := o1.slice
      have hn := HML.out
      generalize hxs0 : mkL (sl.take 20) = xs0 at *
      obtain ⟨n, hnn⟩ : ∃ n, xs0.length = n := ⟨_, rfl⟩
      rw [hnn] at o1 M0 hn ⊢
      have hn20 : n ≤ 20 := by omega
      have hnI : (n : Int) ≤ 20 := by omega
      have HN := Lib.hid hn
      clear HML hmild hn hnn
      go_wp2_with fail
      go_loopg [69] 60 (fun k iv wr => ∃ (r : Nat) (xs : List In), r + k = 60 ∧ iv = .int .i64 r ∧ OwnP wr w.heap.size (.slice ao5 n c5) xs ∧ Mend d n r xs ∧ Ext w wr ∧ mendF d k xs = progF d sl)
      case atStart => exact ⟨0, xs0, by omega, rfl, o1, M0, e1, by rw [← hxs0]; rfl⟩
      case round =>
        clear o1 M0 e1
        obtain ⟨r, xs, hrk, rfl, o2, M2, e2, hmf⟩ := hrel
        have HMF := Lib.hid (show mendF d (60 - r) xs = progF d sl by rw [show 60 - r = gk by omega]; exact hmf)
        clear hmf
        generalize wr = wo at *
        have hxl := Lib.hid M2.1
        have hok := Lib.hid (fun x hx => (M2.2.1 x hx).ok : ∀ x ∈ xs, x.ok)
        by_cases hr : r < 60
        · have hrI : (r : Int) < 60 := by omega
          go_wp2_with fail
          go_loopg [73, 9] n (fun k iv bv wq => ∃ (j : Nat) (bad : Int), j + k = n ∧ iv = .int .i64 j ∧ bv = .int .i64 bad ∧ BadR d xs j bad ∧ Ext wo wq ∧ bad = badU d xs j)
          case atStart => exact ⟨0, -1, by omega, rfl, rfl, BadR.start _ _, Ext.refl _, rfl⟩
          case round =>
            obtain ⟨j, bad, hjn, rfl, rfl, hB, x3, hbu⟩ := hrel
            have HBU := Lib.hid hbu
            clear hbu
            by_cases hj : j < n
            · have hjI : (j : Int) < (n : Int) := by omega
              have HB := Lib.hid hB
              clear hB
              have oq := lit_none wr
              have xq := (Ext.refl wr).alloc #[] 72
              have op := (o2.ext x3).ext xq
              go_upto_region 19 with (at_builtin; refine wpList_append_own rfl _ _ rfl wr.heap.size _ [] rfl oq w.heap.size _ xs rfl op (by rw [hxl.out]; simp; omega) (by simp) ?_
                                      intro v5 w5 o5 K5 hk5
                                      have x5 := Ext.calm_trans xq K5 (fun g hg => (oq.lt g (Option.mem_toList.1 hg)).1)
                                      rw [List.nil_append] at o5
                                      obtain ⟨aoq, cq, rfl, -, -⟩ := o5.slice
                                      rw [hxl.out] at o5 ⊢
                                      obtain ⟨gq, y5, rfl, -, -, d0, d1, d2, d3, d4⟩ := o5.nth j (by rw [hxl.out]; exact hj)
                                      have hth := o5.thaw hxl.out.symm
                                      clear oq xq op K5 hk5)
              have o6 : OwnP _ _ _ (xs.set j movI) := o5.put hxl.out.symm j (by rw [hxl.out]; exact hj) movI
              dsimp only [movI] at o6
              have x6 := Ext.calm_trans x5 (calm5 w5 gq (j * 5) (j * 5 + 1) (j * 5 + 2) (j * 5 + 3) (j * 5 + 4) (.int .u8 1) (.int .u8 0) (.int .u8 0) (.int .u8 0) (.int .i16 0)) (fun g hg => by simp at hg; rw [hg]; exact (o5.lt gq rfl).1)
              clear x5 o5 d0 d1 d2 d3 d4 hth
              generalize (((((w5.setCell ⟨gq, j * 5, none⟩ (.int .u8 1)).setCell ⟨gq, j * 5 + 1, none⟩ (.int .u8 0)).setCell ⟨gq, j * 5 + 2, none⟩ (.int .u8 0)).setCell ⟨gq, j * 5 + 3, none⟩ (.int .u8 0)).setCell ⟨gq, j * 5 + 4, none⟩ (.int .i16 0)) = w6 at *
              have op6 := o2.ext (x3.trans x6)
              obtain ⟨gp, x, rfl, -, hx, -⟩ := op6.nth j (by rw [hxl.out]; exact hj)
              have HX := Lib.hid hx
              clear hx
              refine prog_r19 _ _ _ _ _ _ _ _ _ _ _ _ _ _ _ _ _ _ _ _ _ _ _ _ _ _ _ _ _ _ _ _ _ _ _ _ _ _ _ _ _ _ _ _ _ _ _ _ _ _ _ _ _ _ _ _ _ _ _ _ _ _ _ _ _ _ _ _ _ _ _ _ _ _ _ _ _ _ _ _ _ _ _ _ _ _ _ _ _ _ _ _ _ _ _ _ _ _ _ _ _ _ _ _ _ _ _ _ _ _ _ _ _ _ _ _ _ _ _ _ _ _ _ _ _ _ _ _ _ _ d gp n c5 bad j _ w6 _ _ xs x op6 o6 hok.out (fun y hy => (mild_set M2.2.1 j y hy).ok) hxl.out hn20 hj HX.out ?_
              intro q0 q1 q2 q3 q4 q5 q6 q7 q8 q9 q10 q11 q12 q13 q14 q15 q16 q17 q18 q19 q20 q21 q22 q23 q24 q25 q26 q27 q28 q29 q30 q31 q32 q33 q34 q35 q36 q37 q38 q39 q40 w7 x7
              have x8 := x3.trans (x6.trans x7)
              clear o6 op6 x6 x7 x3
              cases hh : hitB d xs j x bad
              · have HB2 := Lib.hid (HB.out.no HX.out hh)
                have HU := Lib.hid (badU_no HX.out (HBU.out ▸ hh))
                clear HB hh
                go_wp2
                go_roundg (gk - 1)
                case measure => omega
                case rel => exact ⟨j + 1, bad, by omega, rfl, rfl, HB2.out, x8, HBU.out.trans HU.out.symm⟩
              · have HB2 := Lib.hid (BadR.yes HX.out hh)
                have HU := Lib.hid (badU_yes HX.out (HBU.out ▸ hh))
                clear HB hh
                go_wp2
                go_roundg (gk - 1)
                case measure => omega
                case rel => exact ⟨j + 1, j, by omega, rfl, rfl, HB2.out, x8, HU.out.symm⟩
            · obtain rfl : j = n := by omega
              have o3 := o2.ext x3
              have e3 := e2.trans x3
              by_cases hbad : bad = -1
              · subst hbad
                have hB' := hB
                rw [← hxl.out] at hB'
                have hc0 := Lib.hid (hB'.clear M2 hn20)
                have hF := Lib.hid ((mendF_stop (by omega) (by rw [hxl.out]; exact HBU.out.symm)).symm.trans HMF.out)
                clear hB hB'
                go_wp2
                go_ret
                exact ⟨_, xs, rfl, o3, hok.out, by rw [hxl.out, HN.out], hc0.out, e3, hF.out⟩
              · obtain ⟨i, x, rfl, hi, hx, hc, hs⟩ := hB.one hbad
                have hiI : (i : Int) < (j : Int) := by have := hxl.out; omega
                have hin : i < j := by omega
                have M3 := M2.next hc hx hs
                obtain ⟨gp, y, rfl, -, -, d0, d1, d2, d3, d4⟩ := o3.nth i hi
                have hth := o3.thaw hxl.out.symm
                have o4 := o3.put hxl.out.symm i hi movI
                dsimp only [movI] at o4
                have e4 := Ext.calm_trans e3 (calm5 _ gp (i * 5) (i * 5 + 1) (i * 5 + 2) (i * 5 + 3) (i * 5 + 4) (.int .u8 1) (.int .u8 0) (.int .u8 0) (.int .u8 0) (.int .i16 0)) (fun g hg => by simp at hg; rw [hg]; exact (o3.lt gp rfl).1)
                have hbn : ¬ ((i : Int) < 0) := by omega
                have hF := Lib.hid ((mendF_next (i := i) (by omega) (by rw [hxl.out]; exact HBU.out.symm)).symm.trans HMF.out)
                clear hB hs hc hx o3 e3 M2 hbad
                go_wp2
                go_roundg (60 - (r + 1))
                case measure => omega
                case rel => exact ⟨r + 1, xs.set i movI, by omega, rfl, o4, M3, e4, hF.out⟩
        · obtain rfl : r = 60 := by omega
          have hc0 := Lib.hid (M2.stop (by omega))
          go_wp2
          go_ret
          exact ⟨_, xs, rfl, o2, hok.out, by rw [hxl.out, HN.out], hc0.out, e2, HMF.out⟩
theorem program_any (d : Bool) (w : World) (v : Value) (sl : List Sm) (h : SArr w v sl) (hl : sl.length ≤ 40) :
    Calls Try.prog 29 #[v, .bool d] w fun e w' => ∃ v' xs, e = .returned v' ∧ OwnP w' w.heap.size v' xs ∧ (∀ x ∈ xs, x.ok) ∧ xs.length = min sl.length 20 ∧ chk d xs = 0 ∧ Ext w w' :=
  (program_fn d w v sl h hl).mono fun e w' ⟨v', xs, h1, h2, h3, h4, h5, h6, _⟩ => ⟨v', xs, h1, h2, h3, h4, h5, h6⟩
end Go.Proofs.Ytbbfmlehddfneaa

