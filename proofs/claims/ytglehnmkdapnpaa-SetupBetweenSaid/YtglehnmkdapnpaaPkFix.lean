/-
  DERIVED. Plain facts on whole numbers that the walks of layer 1 (fix) lean on: clamping, rounding down. No Go in sight. · THE WALKS of layer 1 (fix) and of the document's own answers to it: what each call returns, over every world; nothing but draws happens to the world. · Small joints between the walks and the rows of the laws. · 'Ext w w'': w' is w with new blocks behind it and draws made: of what was there nothing turns. A relation that joins: refl, trans, a new block, a store into a new block, draws. · Go's max and min of two numbers, as the walk meets them: folded, so that the walk does not part on them. · A part of a function's code by the number of its block: a long walk can be laid apart, and said once for all rounds. · What is known of a whole block: its cells, through draws, stores and new blocks. · A REGION THAT DRAWS ITS ORDER, whose operations read old memory, call what only makes memory, make variables of their own and store into them: ONE walk of the text's order serves every order. The operations that make or store ('marked') are told by an invariant J of their own; all others yield one value in every world that has only grown. · Calm regions that make variables of their own and store into them ('x, y := f(a), g(b)' with structs or arrays), or store into blocks of the call's own: what stands behind the region is ONE goal: the frame written out, each variable's block a letter, its cells known. · Loads and stores of whole variables of many cells, over a block that is known: one step, whatever the number of cells. · Calm regions that store into blocks of the call's own that were there before the region. · A region that draws its order and calls what makes memory, whose result another call takes: steps by an invariant. · A region that draws its order: operations that read or call quietly, and some (marked) that make memory whose address counts, or turn memory, and wait for one another: the quiet ones are walked once in the text's order, the marked ones once, one behind the other. · From a law's walk to its row: arguments that are arrays of integers, opened; what the arguments read as, carried to the world behind the call. · Slices of integers that came in: what a law's walk knows of them; carried to worlds that have only grown. · '==' on vectors and matrices: of one value and itself it is true.
-/
import Derived.Test.YtglehnmkdapnpaaRows
import Derived.WalkKit
import Derived.WalkSpells
import Derived.WalkLawsBesides
import Derived.Deep.QuietTactic
import Derived.BigQuiet
import Derived.Lib.Hide
import Derived.ProofKit
import Derived.OpenShut
import Derived.Below
import Derived.Deep.Draws
import Derived.Laws.CopyRow
import Derived.Deep.MidRow
import Derived.Carry
import Derived.ChangeSlices
import Derived.Laws.StructEq
namespace Go.Proofs.Ytglehnmkdapnpaa

def clampZ (n : Int) : Int := max (-2147483647) (min n 2147483647)
def withinZ (n most : Int) : Int := max (-most) (min n most)
/-- the quotient, rounded down; 0 for a division by 0 -/
def flr (a b : Int) : Int := Int.fdiv a b

theorem clampZ_bd (n : Int) : -2147483647 ≤ clampZ n ∧ clampZ n ≤ 2147483647 := by unfold clampZ; omega
theorem clampZ_id {n : Int} (h1 : -2147483647 ≤ n) (h2 : n ≤ 2147483647) : clampZ n = n := by unfold clampZ; omega
theorem clampZ_zero {n : Int} : clampZ n = 0 ↔ n = 0 := by unfold clampZ; omega
theorem clampZ_mono {a b : Int} (h : a ≤ b) : clampZ a ≤ clampZ b := by unfold clampZ; omega
theorem withinZ_max (n : Int) : withinZ n 2147483647 = clampZ n := rfl

theorem flr_zero (a : Int) : flr a 0 = 0 := by unfold flr; exact Int.fdiv_zero a
theorem flr_pos (a : Int) {b : Int} (h : 0 < b) : flr a b = a / b := by unfold flr; exact Int.fdiv_eq_ediv_of_nonneg a (by omega)
theorem flr_neg (a : Int) {b : Int} (h : b < 0) : flr a b = (-a) / (-b) := by
  have e := flr_pos (-a) (b := -b) (by omega)
  rw [← e]; unfold flr; rw [Int.neg_fdiv_neg]

/-- the product of two numbers within M is within M times M -/
theorem mul_abs {x y M : Int} (hx1 : -M ≤ x) (hx2 : x ≤ M) (hy1 : -M ≤ y) (hy2 : y ≤ M) : -(M * M) ≤ x * y ∧ x * y ≤ M * M := by
  obtain ⟨m, rfl⟩ := Int.eq_ofNat_of_zero_le (show 0 ≤ M by omega)
  have h : (x * y).natAbs ≤ m * m := by
    rw [Int.natAbs_mul]; exact Nat.mul_le_mul (by omega) (by omega)
  have e : ((m * m : Nat) : Int) = (m : Int) * (m : Int) := by simp
  rw [← e]; omega
theorem mul_bd {x y : Int} (hx : -2147483647 ≤ x ∧ x ≤ 2147483647) (hy : -2147483647 ≤ y ∧ y ≤ 2147483647) : -4611686014132420609 ≤ x * y ∧ x * y ≤ 4611686014132420609 := by
  have := mul_abs hx.1 hx.2 hy.1 hy.2; omega

/-- Go's quotient, cut towards 0, keeps within the bounds of the dividend -/
theorem tdiv_bd (a b : Int) {M : Int} (h1 : -M ≤ a) (h2 : a ≤ M) : -M ≤ a.tdiv b ∧ a.tdiv b ≤ M := by
  have h : (a.tdiv b).natAbs = a.natAbs / b.natAbs := Int.natAbs_tdiv a b
  have h' : a.natAbs / b.natAbs ≤ a.natAbs := Nat.div_le_self _ _
  rw [← h] at h'; omega
theorem tmod_bd (a b : Int) {M : Int} (h1 : -M ≤ a) (h2 : a ≤ M) : -M ≤ a.tmod b ∧ a.tmod b ≤ M := by
  have h : (a.tmod b).natAbs = a.natAbs % b.natAbs := Int.natAbs_tmod a b
  have h' : a.natAbs % b.natAbs ≤ a.natAbs := Nat.mod_le _ _
  rw [← h] at h'; omega

/-- rounding down out of Go's quotient and rest -/
theorem flr_of_tdiv (a b : Int) (hb : b ≠ 0) : flr a b = if a.tmod b ≠ 0 ∧ (a.tmod b < 0 ↔ ¬ b < 0) then a.tdiv b - 1 else a.tdiv b := by
  unfold flr
  rw [Int.fdiv_eq_ediv, Int.tdiv_eq_ediv, Int.tmod_eq_emod]
  have hd := Int.dvd_iff_emod_eq_zero (a := b) (b := a)
  have h1 := Int.emod_nonneg a hb
  have h2 := Int.emod_lt a hb
  by_cases d : b ∣ a
  · have hz := hd.1 d
    simp [d, hz]
  · have hz : a % b ≠ 0 := fun h => d (hd.2 h)
    simp only [d, or_false]
    rcases Int.lt_or_gt_of_ne hb with c | c
    · have hs : b.sign = -1 := Int.sign_eq_neg_one_of_neg c
      by_cases ha : 0 ≤ a
      · simp [ha, hz]; split <;> split <;> omega
      · simp [ha, hs]; split <;> split <;> omega
    · have hs : b.sign = 1 := Int.sign_eq_one_of_pos c
      by_cases ha : 0 ≤ a
      · simp [ha, hz]; split <;> split <;> omega
      · simp [ha, hs]; split <;> split <;> omega

theorem flr_bd (a b : Int) {M : Int} (h1 : -M ≤ a) (h2 : a ≤ M) : -M - 1 ≤ flr a b ∧ flr a b ≤ M := by
  by_cases hb : b = 0
  · subst hb; rw [flr_zero]; omega
  · have h := tdiv_bd a b h1 h2
    rw [flr_of_tdiv a b hb]; split <;> omega

/-- the document's own way to round down a negative number -/
theorem flr_up (a : Int) {b : Int} (hb : 0 < b) : -((b - 1 - a) / b) = a / b := by
  have e1 := Int.mul_ediv_add_emod a b
  have e2 := Int.mul_ediv_add_emod (b - 1 - a) b
  have n1 := Int.emod_nonneg a (show b ≠ 0 by omega)
  have n2 := Int.emod_nonneg (b - 1 - a) (show b ≠ 0 by omega)
  have l1 := Int.emod_lt_of_pos a hb
  have l2 := Int.emod_lt_of_pos (b - 1 - a) hb
  have hs : b * (a / b + (b - 1 - a) / b) = b * (a / b) + b * ((b - 1 - a) / b) := Int.mul_add _ _ _
  have k1 : b * (a / b + (b - 1 - a) / b) < b * 1 := by omega
  have k2 : b * (-1) < b * (a / b + (b - 1 - a) / b) := by omega
  have m1 := Int.lt_of_mul_lt_mul_left k1 (by omega)
  have m2 := Int.lt_of_mul_lt_mul_left k2 (by omega)
  omega

theorem flr_mono {a b c : Int} (hc : 0 < c) (h : a ≤ b) : flr a c ≤ flr b c := by
  rw [flr_pos a hc, flr_pos b hc]; exact Int.ediv_le_ediv hc h

end Go.Proofs.Ytglehnmkdapnpaa

namespace Go.Proofs.Ytglehnmkdapnpaa
open Go.RowKit
set_option linter.unusedVariables false

/-- the world has been asked for some orders, and nothing else has become of it -/
def Qt (w w' : World) : Prop := ∃ n : Nat, w' = w.drewN n
theorem Qt.refl (w : World) : Qt w w := ⟨0, rfl⟩

theorem ret_int {k : IntKind} {a b : Int} (h : a = b) : Ending.returned (.int k a) = .returned (.int k b) := by rw [h]

set_option maxHeartbeats 400000 in
theorem within_any (a b : Int) (w : World) (h1 : -9223372036854775808 ≤ a) (h2 : a ≤ 9223372036854775807) (h3 : -9223372036854775807 ≤ b) (h4 : b ≤ 9223372036854775807) :
    Calls Try.prog 53 #[.int .i64 a, .int .i64 b] w fun e w' => e = .returned (.int .i64 (withinZ a b)) ∧ w = w' := by
  go_enter Try.func53, Try.ntmps53
  go_wp2
  all_goals (go_ret; exact ⟨ret_int (by unfold withinZ; omega), rfl⟩)

set_option maxHeartbeats 400000 in
theorem clamp_any (a : Int) (w : World) (h1 : -9223372036854775808 ≤ a) (h2 : a ≤ 9223372036854775807) :
    Calls Try.prog 63 #[.int .i64 a] w fun e w' => e = .returned (.int .i64 (clampZ a)) ∧ w = w' := by
  go_enter Try.func63, Try.ntmps63
  go_wp2_with fail
  with_reducible refine (within_any _ _ _ (by omega) (by omega) (by omega) (by omega)).mono ?_
  rintro e w' ⟨rfl, rfl⟩
  go_wp2
  go_ret
  exact ⟨ret_int (withinZ_max a), rfl⟩

set_option maxHeartbeats 400000 in
theorem floor_any (a b : Int) (w : World) (h1 : -4611686018427387904 ≤ a) (h2 : a ≤ 4611686018427387904) (h3 : -4611686018427387904 ≤ b) (h4 : b ≤ 4611686018427387904) :
    Calls Try.prog 35 #[.int .i64 a, .int .i64 b] w fun e w' => e = .returned (.int .i64 (flr a b)) ∧ Qt w w' := by
  by_cases hb : b = 0
  · subst hb
    go_enter Try.func35, Try.ntmps35
    go_wp2
    go_ret
    exact ⟨ret_int (flr_zero a).symm, Qt.refl _⟩
  · have hbq : (b == 0) = false := by simpa using hb
    obtain ⟨q1, q2⟩ := tdiv_bd a b (M := 4611686018427387904) h1 h2
    obtain ⟨r1, r2⟩ := tmod_bd a b (M := 4611686018427387904) h1 h2
    have HF := Lib.hid (flr_of_tdiv a b hb)
    go_enter Try.func35, Try.ntmps35
    go_wp2
    go_quiet (fail)
    go_wp2
    all_goals
      go_ret
      refine ⟨ret_int ?_, _, rfl⟩
      rw [HF.out]; clear HF h1 h2 h3 h4 q1 q2 r1 r2
      by_cases c1 : a.tmod b < 0 <;> by_cases c2 : b < 0 <;> simp_all <;> omega

theorem Qt.trans {a b c : World} (h1 : Qt a b) (h2 : Qt b c) : Qt a c := by
  obtain ⟨n, rfl⟩ := h1
  obtain ⟨m, rfl⟩ := h2
  exact ⟨n + m, by simp [World.drewN, Nat.add_assoc]⟩

set_option maxHeartbeats 400000 in
theorem rfloor_pos (a b : Int) (w : World) (h1 : -4611686018427387904 ≤ a) (h2 : a ≤ 4611686018427387904) (h3 : 0 < b) (h4 : b ≤ 4611686018427387904) :
    Calls Try.prog 50 #[.int .i64 a, .int .i64 b] w fun e w' => e = .returned (.int .i64 (flr a b)) ∧ w = w' := by
  have HF := Lib.hid (flr_pos a h3)
  have HU := Lib.hid (flr_up a h3)
  have d1 : (b - 1 - a) / b ≤ 9223372036854775807 := by
    by_cases h : 0 ≤ b - 1 - a
    · have := Int.ediv_le_self b h; omega
    · have := Int.ediv_neg_of_neg_of_pos (a := b - 1 - a) (b := b) (by omega) h3; omega
  by_cases ha : 0 ≤ a
  · go_enter Try.func50, Try.ntmps50
    go_wp2
    go_ret
    exact ⟨ret_int HF.out.symm, rfl⟩
  · have d2 : 0 ≤ (b - 1 - a) / b := Int.ediv_nonneg (by omega) (by omega)
    go_enter Try.func50, Try.ntmps50
    go_wp2
    go_ret
    exact ⟨ret_int (HU.out.trans HF.out.symm), rfl⟩

set_option maxHeartbeats 400000 in
theorem rfloor_any (a b : Int) (w : World) (h1 : -4611686018427387904 ≤ a) (h2 : a ≤ 4611686018427387904) (h3 : -4611686018427387904 ≤ b) (h4 : b ≤ 4611686018427387904) :
    Calls Try.prog 50 #[.int .i64 a, .int .i64 b] w fun e w' => e = .returned (.int .i64 (flr a b)) ∧ w = w' := by
  by_cases hp : 0 < b
  · exact rfloor_pos a b w h1 h2 hp h4
  · by_cases hb : b = 0
    · subst hb
      go_enter Try.func50, Try.ntmps50
      go_wp2
      go_ret
      exact ⟨ret_int (flr_zero a).symm, rfl⟩
    · have hbq : (b == 0) = false := by simpa using hb
      have hlt : b < 0 := by omega
      go_enter Try.func50, Try.ntmps50
      go_wp2_with fail
      with_reducible refine (rfloor_pos _ _ _ (by omega) (by omega) (by omega) (by omega)).mono ?_
      rintro e w' ⟨rfl, rfl⟩
      go_wp2
      go_ret
      exact ⟨ret_int (by unfold flr; rw [Int.neg_fdiv_neg]), rfl⟩

def addZ (a b : Int) : Int := clampZ (clampZ a + clampZ b)
def subZ (a b : Int) : Int := clampZ (clampZ a - clampZ b)
def mulZ (a b : Int) : Int := clampZ (flr (clampZ a * clampZ b) 65536)
def limZ (a : Int) : Int := if 0 < a then 2147483647 else if a < 0 then -2147483647 else 0
def divZ (a b : Int) : Int := if b = 0 then limZ a else clampZ (flr (65536 * clampZ a) (clampZ b))

theorem clampZ_clampZ (a : Int) : clampZ (clampZ a) = clampZ a := clampZ_id (clampZ_bd a).1 (clampZ_bd a).2
theorem mulZ_clamp (a b : Int) : mulZ (clampZ a) (clampZ b) = mulZ a b := by unfold mulZ; rw [clampZ_clampZ, clampZ_clampZ]

end Go.Proofs.Ytglehnmkdapnpaa

namespace Go.Proofs.Ytglehnmkdapnpaa
open Go.RowKit
set_option linter.unusedVariables false

theorem grown_drewN (w : World) (n : Nat) : Grown w (w.drewN n) := by
  induction n with
  | zero => exact Grown.refl _
  | succ n ih => exact ih.drew
theorem grownN {W w : World} (h : Grown W w) (n : Nat) : Grown W (w.drewN n) := by
  induction n with
  | zero => exact h
  | succ n ih => exact ih.drew
theorem Qt.grown {w w' : World} (h : Qt w w') : Grown w w' := by
  obtain ⟨n, rfl⟩ := h; exact grown_drewN w n

theorem bd64 {a : Int} (h : (Lit.int .i64 a).wf = true) : -9223372036854775808 ≤ a ∧ a ≤ 9223372036854775807 := bounds_i64 h
theorem bd32 {a : Int} (h : (Lit.int .i32 a).wf = true) : -2147483648 ≤ a ∧ a ≤ 2147483647 := bounds_i32 h
theorem bd8 {a : Int} (h : (Lit.int .u8 a).wf = true) : 0 ≤ a ∧ a ≤ 255 := bounds_u8 h


/-- a callee that leaves the world alone, inside a region that draws its order -/
theorem quiet_eq {P : Program} {f : FuncId} {args : Array Value} {w : World} {n : Nat} {v : Value}
    (h : Calls P f args (w.drewN n) fun e w' => e = .returned v ∧ w.drewN n = w') : Calls P f args (w.drewN n) fun e w'' => e = .returned v ∧ ∃ m, w'' = w.drewN m :=
  Calls.quiet_of_same (h.mono fun _ _ ⟨he, hm⟩ => ⟨he, hm.symm⟩)
/-- a callee that only draws, inside a region that draws its order -/
theorem quiet_qt {P : Program} {f : FuncId} {args : Array Value} {w : World} {n : Nat} {v : Value}
    (h : Calls P f args (w.drewN n) fun e w' => e = .returned v ∧ Qt (w.drewN n) w') : Calls P f args (w.drewN n) fun e w'' => e = .returned v ∧ ∃ m, w'' = w.drewN m :=
  Calls.quiet_of (h.mono fun _ _ ⟨he, m, hm⟩ => ⟨he, m, hm⟩)

end Go.Proofs.Ytglehnmkdapnpaa

namespace Go.Proofs.Ytglehnmkdapnpaa
open Go.RowKit
set_option linter.unusedVariables false

structure Ext (w w' : World) : Prop where
  bel : Below w.heap.size w w'

theorem Ext.refl (w : World) : Ext w w := ⟨Below.refl _ _⟩
theorem Ext.size {w w' : World} (h : Ext w w') : w.heap.size ≤ w'.heap.size := h.bel.size
theorem Ext.trans {a b c : World} (h : Ext a b) (k : Ext b c) : Ext a c :=
  ⟨h.bel.trans (k.bel.mono h.size)⟩
theorem Ext.alloc {a w : World} (h : Ext a w) (c : Array Value) (t : TypeId) : Ext a (w.alloc (.cells c t)) :=
  ⟨h.bel.alloc h.size _⟩
theorem Ext.setCell {a w : World} (h : Ext a w) {p : Addr} (hp : a.heap.size ≤ p.block) (u : Value) : Ext a (w.setCell p u) :=
  ⟨h.bel.setCell hp u⟩
theorem Ext.drew {a w : World} (h : Ext a w) : Ext a w.drew := ⟨h.bel.drew⟩
theorem Ext.drewN {a w : World} (h : Ext a w) (n : Nat) : Ext a (w.drewN n) := ⟨⟨h.bel.os, h.bel.tape, h.bel.output, h.bel.size, h.bel.block⟩⟩
theorem Ext.qt {a w w' : World} (h : Ext a w) (q : Qt w w') : Ext a w' := by obtain ⟨n, rfl⟩ := q; exact h.drewN n
theorem Ext.cell {w w' : World} (h : Ext w w') {b : Nat} (o : Nat) (hb : b < w.heap.size) : w'.cell? ⟨b, o, none⟩ = w.cell? ⟨b, o, none⟩ := h.bel.cell (p := ⟨b, o, none⟩) hb
theorem Ext.block {w w' : World} (h : Ext w w') {b : Nat} (hb : b < w.heap.size) : w'.heap[b]? = w.heap[b]? := h.bel.block b hb
theorem Ext.fr {w w' : World} (h : Ext w w') (a : Addr) (ha : a.block < w.heap.size) : w'.frozen? a = w.frozen? a := World.frozen?_of_block (w := w) (h.bel.block _ ha)
theorem Ext.kept {w w' : World} (h : Ext w w') : w.keptBut w' (fun _ => False) := h.bel.frame _
/-- a cell that is there lies in a block that is there -/
theorem cell_lt {w : World} {b o : Nat} {v : Value} (h : w.cell? ⟨b, o, none⟩ = some v) : b < w.heap.size := by
  rcases Nat.lt_or_ge b w.heap.size with k | k
  · exact k
  · simp [World.cell?, Array.getElem?_eq_none k] at h
theorem Ext.old {w w' : World} (h : Ext w w') {b o : Nat} {v : Value} (hc : w.cell? ⟨b, o, none⟩ = some v) : w'.cell? ⟨b, o, none⟩ = some v :=
  (h.cell o (cell_lt hc)).trans hc

theorem Ext.cells {w w' : World} (h : Ext w w') : ∀ b o, b < w.heap.size → w'.cell? ⟨b, o, none⟩ = w.cell? ⟨b, o, none⟩ := fun _ o hb => h.cell o hb

end Go.Proofs.Ytglehnmkdapnpaa

namespace Go.Proofs.Ytglehnmkdapnpaa

def maxI (x y : Int) : Int := if x < y then y else x
def minI (x y : Int) : Int := if y < x then y else x
theorem maxI_fold (x y : Int) : (if x < y then y else x) = maxI x y := rfl
theorem minI_fold (x y : Int) : (if y < x then y else x) = minI x y := rfl
theorem maxI_eq (x y : Int) : maxI x y = max x y := by unfold maxI; omega
theorem minI_eq (x y : Int) : minI x y = min x y := by unfold minI; omega

end Go.Proofs.Ytglehnmkdapnpaa

namespace Go.Proofs.Ytglehnmkdapnpaa
open Go.RowKit

/-- what stands in block n -/
def findBlock (n : Nat) : Code → Option Code
  | .block m c => if m = n then some c else findBlock n c
  | .seq a b => match findBlock n a with | some x => some x | none => findBlock n b
  | .cond _ a b => match findBlock n a with | some x => some x | none => findBlock n b
  | .loop c => findBlock n c
  | .scope c => findBlock n c
  | _ => none
def blockOf (f : Func) (n : Nat) : Code := ((f.body.bind (findBlock n))).getD .skip
/-- region n -/
def findRegion (n : Nat) : Code → Option Code
  | .region m ops b => if m = n then some (.region m ops b) else none
  | .block _ c => findRegion n c
  | .seq a b => match findRegion n a with | some x => some x | none => findRegion n b
  | .cond _ a b => match findRegion n a with | some x => some x | none => findRegion n b
  | .loop c => findRegion n c
  | .scope c => findRegion n c
  | _ => none
def regionOf (f : Func) (n : Nat) : Code := ((f.body.bind (findRegion n))).getD .skip

end Go.Proofs.Ytglehnmkdapnpaa

namespace Go.Proofs.Ytglehnmkdapnpaa
open Go.RowKit
set_option linter.unusedVariables false

/-- block b of w holds just these cells -/
def Blk (w : World) (b : Nat) (z : Array Value) (T : TypeId) : Prop := w.heap[b]? = some (.cells z T (0, 0))
theorem Blk.lt {w : World} {b : Nat} {z : Array Value} {T : TypeId} (h : Blk w b z T) : b < w.heap.size := (Array.getElem?_eq_some_iff.1 h).1
theorem Blk.cell {w : World} {b : Nat} {z : Array Value} {T : TypeId} (h : Blk w b z T) : ∀ o, w.cell? ⟨b, o, none⟩ = z[o]? := fun o => by
  unfold Blk at h
  simp [World.cell?, h]
theorem Blk.frozen {w : World} {b : Nat} {z : Array Value} {T : TypeId} (h : Blk w b z T) : ∀ o, w.frozen? ⟨b, o, none⟩ = false := fun o => by
  unfold Blk at h
  simp [World.frozen?, h]
theorem Blk.ext {w w' : World} {b : Nat} {z : Array Value} {T : TypeId} (h : Blk w b z T) (hx : Ext w w') : Blk w' b z T := (hx.block h.lt).trans h
theorem Blk.new (w : World) (z : Array Value) (T : TypeId) : Blk (w.alloc (.cells z T)) w.heap.size z T := by
  show (w.heap.push _)[w.heap.size]? = _
  simp
theorem Blk.new' {w : World} {b : Nat} (h : b = w.heap.size) (z : Array Value) (T : TypeId) : Blk (w.alloc (.cells z T)) b z T := h ▸ Blk.new w z T
theorem Blk.alloc {w : World} {b : Nat} {z : Array Value} {T : TypeId} (h : Blk w b z T) (o : Obj) : Blk (w.alloc o) b z T := (Below.heap_alloc w o b h.lt).trans h
theorem Blk.drewN {w : World} {b : Nat} {z : Array Value} {T : TypeId} (h : Blk w b z T) (n : Nat) : Blk (w.drewN n) b z T := h
theorem Blk.drew {w : World} {b : Nat} {z : Array Value} {T : TypeId} (h : Blk w b z T) : Blk w.drew b z T := h
theorem Blk.far {w : World} {b : Nat} {z : Array Value} {T : TypeId} (h : Blk w b z T) {p : Addr} (hp : b ≠ p.block) (v : Value) : Blk (w.setCell p v) b z T := (Below.heap_setCell w p v b hp).trans h
theorem Blk.set {w : World} {b : Nat} {z : Array Value} {T : TypeId} (h : Blk w b z T) (i : Nat) (v : Value) : Blk (w.setCell ⟨b, i, none⟩ v) b (z.setIfInBounds i v) T := by
  unfold Blk at h ⊢
  simp [World.setCell, Array.getElem?_modify, h]

end Go.Proofs.Ytglehnmkdapnpaa

namespace Go.Proofs.Ytglehnmkdapnpaa
open Go.RowKit
set_option linter.unusedVariables false

/-- w' is w but for new blocks, draws, and the blocks of O -/
structure Calm (O : List Nat) (w w' : World) : Prop where
  os : w'.os = w.os
  tape : w'.tape = w.tape
  output : w'.output = w.output
  size : w.heap.size ≤ w'.heap.size
  block : ∀ k, k < w.heap.size → k ∉ O → w'.heap[k]? = w.heap[k]?

theorem Ext.calm {w w' : World} (h : Ext w w') (O : List Nat) : Calm O w w' := ⟨h.bel.os, h.bel.tape, h.bel.output, h.bel.size, fun k hk _ => h.bel.block k hk⟩
theorem Calm.ext {w w' : World} (h : Calm [] w w') : Ext w w' := ⟨⟨h.os, h.tape, h.output, h.size, fun k hk => h.block k hk (by simp)⟩⟩
theorem Calm.refl (O : List Nat) (w : World) : Calm O w w := (Ext.refl w).calm O
theorem Calm.trans {O : List Nat} {a b c : World} (h : Calm O a b) (k : Calm O b c) : Calm O a c :=
  ⟨k.os.trans h.os, k.tape.trans h.tape, k.output.trans h.output, Nat.le_trans h.size k.size, fun i hi ho => (k.block i (Nat.lt_of_lt_of_le hi h.size) ho).trans (h.block i hi ho)⟩
theorem Calm.cell {O : List Nat} {w w' : World} (h : Calm O w w') {b : Nat} (o : Nat) (hb : b < w.heap.size) (hO : b ∉ O) : w'.cell? ⟨b, o, none⟩ = w.cell? ⟨b, o, none⟩ :=
  World.cell?_of_block (w := w) (a := ⟨b, o, none⟩) (h.block b hb hO)

/-- a world that has only grown since x -/
structure Wx (x : World) where
  val : World
  ext : Ext x val

/-- what a slot holds -/
def slot (a : Act) (d : Tmp) : Value := a.tmps.getD d undef
theorem slot_put_ne {a : Act} {dst : Option Tmp} {v : Value} {d : Tmp} (h : dst ≠ some d) : slot (a.put dst v) d = slot a d := by
  cases dst with
  | none => rfl
  | some e =>
    have hne : e ≠ d := fun k => h (by rw [k])
    simp [slot, Act.put, Array.getElem?_setIfInBounds_ne hne]
theorem slot_put_eq {a : Act} {v : Value} {d : Tmp} (h : d < a.tmps.size) : slot (a.put (some d) v) d = v := by
  simp [slot, Act.put, h]
theorem slot_out {a : Act} {d : Tmp} (h : a.tmps.size ≤ d) : slot a d = undef := by
  simp [slot, h]
theorem size_put (a : Act) (dst : Option Tmp) (v : Value) : (a.put dst v).tmps.size = a.tmps.size := by cases dst <;> simp [Act.put]
theorem defers_put (a : Act) (dst : Option Tmp) (v : Value) : (a.put dst v).defers = a.defers := by cases dst <;> rfl
theorem getElem?_of_slot {a b : Act} {d : Tmp} (hs : a.tmps.size = b.tmps.size) (h : slot a d = slot b d) : a.tmps[d]? = b.tmps[d]? := by
  rcases Nat.lt_or_ge d a.tmps.size with k | k
  · have k' : d < b.tmps.size := hs ▸ k
    simp [slot, k, k'] at h
    simp [k, k', h]
  · have k' : b.tmps.size ≤ d := hs ▸ k
    rw [Array.getElem?_eq_none k, Array.getElem?_eq_none k']

section
variable {P : Program}

/-- what the walk of the text's order tells of each operation -/
theorem quiet_lex {C : World → Prop} {F : Act} {ops' : Array Oper} : ∀ (l : List Oper) (a : Act), wpQuiet P ops' C (fun a' => a' = F) l a →
    (F.defers = a.defers ∧ F.tmps.size = a.tmps.size ∧ ∀ d, (∀ (j : Nat) (o' : Oper), l[j]? = some o' → o'.dst ≠ some d) → slot F d = slot a d) ∧
    ∀ (i : Nat) (o : Oper), l[i]? = some o → ∃ (b : Act) (v : Value), b.tmps.size = a.tmps.size ∧
      (∀ d, (∀ (j : Nat) (o' : Oper), j < i → l[j]? = some o' → o'.dst ≠ some d) → slot b d = slot a d) ∧
      (∀ d, (∀ (j : Nat) (o' : Oper), i ≤ j → l[j]? = some o' → o'.dst ≠ some d) → slot F d = slot b d) ∧
      (Region.wanted o (yielded ops' b.tmps) = true → ∀ w, C w → o.quietAt P b C w v) ∧ (Region.wanted o (yielded ops' b.tmps) = false → v = undef) ∧
      (∀ d, o.dst = some d → (∀ (j : Nat) (o' : Oper), i < j → l[j]? = some o' → o'.dst ≠ some d) → d < a.tmps.size → slot F d = v)
  | [], a, h => by
    have h' : a = F := h
    subst h'
    exact ⟨⟨rfl, rfl, fun _ _ => rfl⟩, fun i o hi => by simp at hi⟩
  | o :: rest, a, h => by
    obtain ⟨v, hy, hn, hr⟩ : ∃ v, (Region.wanted o (yielded ops' a.tmps) = true → ∀ w, C w → o.quietAt P a C w v) ∧ (Region.wanted o (yielded ops' a.tmps) = false → v = undef) ∧ wpQuiet P ops' C (fun a' => a' = F) rest (a.put o.dst v) := by
      simp only [wpQuiet] at h
      by_cases hw : Region.wanted o (yielded ops' a.tmps) = true
      · rw [if_pos hw] at h
        obtain ⟨v, h1, h2⟩ := h
        exact ⟨v, fun _ => h1, fun k => (by rw [hw] at k; cases k), h2⟩
      · rw [if_neg hw] at h
        exact ⟨undef, fun k => absurd k hw, fun _ => rfl, h⟩
    obtain ⟨⟨f1, f2, f3⟩, g⟩ := quiet_lex rest _ hr
    rw [defers_put] at f1
    rw [size_put] at f2
    have nothead : ∀ d, (∀ (j : Nat) (o' : Oper), (o :: rest)[j]? = some o' → o'.dst ≠ some d) → o.dst ≠ some d := fun d hd => hd 0 o rfl
    refine ⟨⟨f1, f2, fun d hd => ?_⟩, fun i oi hi => ?_⟩
    · rw [f3 d (fun j o' hj => hd (j + 1) o' (by simpa using hj)), slot_put_ne (nothead d hd)]
    · cases i with
      | zero =>
        have e : o = oi := by simpa using hi
        subst e
        refine ⟨a, v, rfl, fun _ _ => rfl, fun d hd => ?_, hy, hn, fun d hd hl hlt => ?_⟩
        · rw [f3 d (fun j o' hj => hd (j + 1) o' (Nat.zero_le _) (by simpa using hj)), slot_put_ne (hd 0 o (Nat.le_refl _) rfl)]
        · rw [f3 d (fun j o' hj => hl (j + 1) o' (Nat.succ_pos _) (by simpa using hj)), hd, slot_put_eq hlt]
      | succ i =>
        obtain ⟨b, u, b1, b2, b3, b4, b5, b6⟩ := g i oi (by simpa using hi)
        rw [size_put] at b1
        refine ⟨b, u, b1, fun d hd => ?_, fun d hd => b3 d (fun j o' hj h' => hd (j + 1) o' (by omega) (by simpa using h')), b4, b5, fun d hd hl hlt => b6 d hd (fun j o' hj h' => hl (j + 1) o' (by omega) (by simpa using h')) (by rw [size_put]; exact hlt)⟩
        rw [b2 d (fun j o' hj h' => hd (j + 1) o' (by omega) (by simpa using h')), slot_put_ne (hd 0 o (Nat.succ_pos _) rfl)]

/-- operation i waits for operation k -/
def waitsB (l : List Oper) (i k : Nat) : Bool :=
  match l[i]? with
  | some o => o.after.any fun e => Region.binds .any e && e.on == k
  | none => false
theorem waitsB_spec {l : List Oper} {i k : Nat} {o : Oper} (ho : l[i]? = some o) (h : waitsB l i k = true) : ∃ e ∈ o.after, Region.binds .any e = true ∧ e.on = k := by
  unfold waitsB at h
  rw [ho] at h
  obtain ⟨e, he, hb⟩ := Array.any_eq_true'.1 h
  simp only [Bool.and_eq_true, beq_iff_eq] at hb
  exact ⟨e, he, hb.1, hb.2⟩

/-- the marked operations do nothing (the walk of the text's order passes over them) -/
def eraseM : List Bool → List Oper → List Oper
  | true :: ms, o :: r => { o with op := .move (.const undef) } :: eraseM ms r
  | false :: ms, o :: r => o :: eraseM ms r
  | [], r => r
  | _ :: _, [] => []
theorem eraseM_get : ∀ (m : List Bool) (l : List Oper) (i : Nat), (eraseM m l)[i]? = (l[i]?).map fun o => if m.getD i false then { o with op := .move (.const undef) } else o
  | [], l, i => by simp [eraseM]
  | true :: ms, [], i => by simp [eraseM]
  | false :: ms, [], i => by simp [eraseM]
  | true :: ms, o :: r, 0 => by simp [eraseM]
  | false :: ms, o :: r, 0 => by simp [eraseM]
  | true :: ms, o :: r, i + 1 => by simpa [eraseM] using eraseM_get ms r i
  | false :: ms, o :: r, i + 1 => by simpa [eraseM] using eraseM_get ms r i

/-- what is asked of a region: each slot has one writer; what an operation looks at is written by operations that it waits for, or that wait for it; the marked operations alone write and look at the slots bs -/
def calmOp (l : List Oper) (m : List Bool) (bs : List Tmp) (i : Nat) (oi : Oper) : Bool :=
  oi.after.all (fun e => !Region.binds .any e || decide (e.on < i)) &&
  (match oi.dst with | some d => m.getD i false == bs.contains d | none => true) &&
  ((List.range l.length).all fun k => k == i || match l[k]? with | some ok => oi.dst.isNone || oi.dst != ok.dst | none => true) &&
  ((oi.looksAt l.toArray).all fun d => if bs.contains d then m.getD i false else (List.range l.length).all fun k => match l[k]? with
    | some ok => ok.dst != some d || (decide (k < i) && waitsB l i k) || (!m.getD i false && decide (i < k) && waitsB l k i)
    | none => true) &&
  (!m.getD i false || oi.guard.isNone)
def calmB (l : List Oper) (m : List Bool) (bs : List Tmp) : Bool :=
  Region.noSelect l.toArray && (List.range l.length).all fun i => match l[i]? with | some oi => calmOp l m bs i oi | none => true

structure CalmOp (l : List Oper) (m : List Bool) (bs : List Tmp) (i : Nat) (oi : Oper) : Prop where
  back : ∀ e ∈ oi.after, Region.binds .any e = true → e.on < i
  own : ∀ d, oi.dst = some d → m.getD i false = bs.contains d
  one : ∀ k ok d, l[k]? = some ok → k ≠ i → oi.dst = some d → ok.dst ≠ some d
  look : ∀ d ∈ oi.looksAt l.toArray, (bs.contains d = true → m.getD i false = true) ∧ (bs.contains d = false → ∀ (k : Nat) (ok : Oper), l[k]? = some ok → ok.dst = some d → (k < i ∧ waitsB l i k = true) ∨ (m.getD i false = false ∧ i < k ∧ waitsB l k i = true))
  free : m.getD i false = true → oi.guard = none

theorem calmB_spec {l : List Oper} {m : List Bool} {bs : List Tmp} (h : calmB l m bs = true) : Region.noSelect l.toArray = true ∧ ∀ i oi, l[i]? = some oi → CalmOp l m bs i oi := by
  simp only [calmB, Bool.and_eq_true] at h
  refine ⟨h.1, fun i oi hi => ?_⟩
  have hlt : i < l.length := (List.getElem?_eq_some_iff.1 hi).1
  have h1 := List.all_eq_true.1 h.2 i (List.mem_range.2 hlt)
  simp only [hi, calmOp, Bool.and_eq_true] at h1
  obtain ⟨⟨⟨⟨a1, a2⟩, a3⟩, a4⟩, a5⟩ := h1
  refine ⟨fun e he hb => by simpa [hb] using Array.all_eq_true_iff_forall_mem.1 a1 e he, fun d hd => by simpa [hd] using a2, fun k ok d hk hne hd => ?_, fun d hd => ⟨fun hb => ?_, fun hb k ok hk hkd => ?_⟩, fun hm => ?_⟩
  · have hkl : k < l.length := (List.getElem?_eq_some_iff.1 hk).1
    have := List.all_eq_true.1 a3 k (List.mem_range.2 hkl)
    simp only [hk, hd, Bool.or_eq_true, beq_iff_eq, Option.isNone_some, Bool.false_eq_true, false_or, bne_iff_ne, ne_eq] at this
    rcases this with h | h
    · exact absurd h hne
    · exact fun k => h k.symm
  · have := List.all_eq_true.1 a4 d hd
    simpa only [hb, if_true] using this
  · have h2 := List.all_eq_true.1 a4 d hd
    simp only [hb, Bool.false_eq_true, if_false] at h2
    have hkl : k < l.length := (List.getElem?_eq_some_iff.1 hk).1
    have := List.all_eq_true.1 h2 k (List.mem_range.2 hkl)
    simp only [hk, hkd, bne_self_eq_false, Bool.false_or, Bool.or_eq_true, Bool.and_eq_true, decide_eq_true_eq, Bool.not_eq_true'] at this
    rcases this with h | h
    · exact .inl h
    · exact .inr ⟨h.1.1, h.1.2, h.2⟩
  · rw [hm] at a5
    simpa using a5

/-- how many have not come up -/
def cnt : List Bool → Nat
  | [] => 0
  | true :: r => cnt r
  | false :: r => cnt r + 1
theorem cnt_set : ∀ (l : List Bool) (i : Nat), l[i]? = some false → cnt (l.set i true) + 1 = cnt l
  | [], i, h => by simp at h
  | b :: r, 0, h => by
    have : b = false := by simpa using h
    subst this; rfl
  | true :: r, i + 1, h => by simpa [cnt] using cnt_set r i (by simpa using h)
  | false :: r, i + 1, h => by simpa [cnt] using cnt_set r i (by simpa using h)
theorem cnt_zero : ∀ (l : List Bool) (i : Nat), cnt l = 0 → l[i]? ≠ some false
  | [], i, _ => by simp
  | true :: r, 0, _ => by simp
  | true :: r, i + 1, h => by simpa using cnt_zero r i (by simpa [cnt] using h)
  | false :: r, i, h => by simp [cnt] at h
theorem cnt_replicate : ∀ n : Nat, cnt (List.replicate n false) = n
  | 0 => rfl
  | n + 1 => by simp [List.replicate_succ, cnt, cnt_replicate n]

structure CInv (l : List Oper) (bs : List Tmp) (a0 F : Act) (listed : Array Bool) (c : Act) : Prop where
  lsz : listed.size = l.length
  closed : ∀ j oj, l[j]? = some oj → listed.getD j false = true → ∀ e ∈ oj.after, Region.binds .any e = true → listed.getD e.on false = true
  df : c.defers = a0.defers
  sz : c.tmps.size = a0.tmps.size
  yes : ∀ d, bs.contains d = false → ∀ (k : Nat) (ok : Oper), l[k]? = some ok → ok.dst = some d → listed.getD k false = true → slot c d = slot F d
  no : ∀ d, bs.contains d = false → (∀ (k : Nat) (ok : Oper), l[k]? = some ok → ok.dst = some d → listed.getD k false = false) → slot c d = slot a0 d

theorem getD_at {listed : Array Bool} {i : Nat} (h : i < listed.size) : (listed.setIfInBounds i true).getD i false = true := by simp [h]
theorem getD_f {listed : Array Bool} {i : Nat} (h : listed.getD i true = false) : listed.getD i false = false ∧ i < listed.size := by
  rcases Nat.lt_or_ge i listed.size with h' | h'
  · simp [h'] at h ⊢; exact h
  · simp [Array.getElem?_eq_none h'] at h
theorem getD_sub {listed : Array Bool} {i j : Nat} (h : (listed.setIfInBounds i true).getD j false = false) : listed.getD j false = false := by
  cases hl : listed.getD j false with
  | false => rfl
  | true => rw [getD_set_true hl] at h; cases h

theorem CInv.step {l : List Oper} {m : List Bool} {bs : List Tmp} {a0 F c : Act} {listed : Array Bool} {i : Nat} {oi : Oper} {v : Value} (inv : CInv l bs a0 F listed c) (hF : F.tmps.size = a0.tmps.size)
    (hsp : ∀ i oi, l[i]? = some oi → CalmOp l m bs i oi) (hi : l[i]? = some oi) (hr : i ∈ Region.ready .any l.toArray listed)
    (hv : ∀ d, bs.contains d = false → oi.dst = some d → d < a0.tmps.size → slot F d = v) : CInv l bs a0 F (listed.setIfInBounds i true) (c.put oi.dst v) := by
  obtain ⟨hun, oi', hoi', hall⟩ := mem_ready.1 hr
  have e : oi' = oi := by
    have := hoi'
    rw [List.getElem?_toArray, hi] at this
    exact (Option.some.inj this).symm
  subst e
  obtain ⟨hunf, hlt⟩ := getD_f hun
  refine ⟨by simp [inv.lsz], fun j oj hj hl e he hb => ?_, by rw [defers_put, inv.df], by rw [size_put, inv.sz], fun d hd k ok hk hkd hl => ?_, fun d hd hno => ?_⟩
  · by_cases hij : i = j
    · subst hij
      have : oj = oi' := Option.some.inj (hj.symm.trans hi)
      subst this
      exact getD_set_true (hall e he hb)
    · rw [getD_set_ne false hij] at hl
      exact getD_set_true (inv.closed j oj hj hl e he hb)
  · by_cases hij : i = k
    · subst hij
      have : ok = oi' := Option.some.inj (hk.symm.trans hi)
      subst this
      rcases Nat.lt_or_ge d a0.tmps.size with hb | hb
      · rw [hkd, slot_put_eq (by rw [inv.sz]; exact hb), hv d hd hkd hb]
      · rw [slot_out (by rw [size_put, inv.sz]; exact hb), slot_out (by rw [hF]; exact hb)]
    · rw [getD_set_ne false hij] at hl
      rw [slot_put_ne ((hsp k ok hk).one i oi' d hi hij hkd)]
      exact inv.yes d hd k ok hk hkd hl
  · have hne : oi'.dst ≠ some d := fun k => by
      have := hno i oi' hi k
      rw [getD_at hlt] at this
      cases this
    rw [slot_put_ne hne]
    exact inv.no d hd fun k ok hk hkd => getD_sub (hno k ok hk hkd)

theorem erase_dst (m : List Bool) (l : List Oper) (j : Nat) : (((eraseM m l).toArray)[j]?).bind (·.dst) = ((l.toArray)[j]?).bind (·.dst) := by
  rw [List.getElem?_toArray, List.getElem?_toArray, eraseM_get]
  cases l[j]? with
  | none => rfl
  | some o => simp only [Option.map_some, Option.bind_some]; split <;> rfl

/-- THE REGION -/
theorem wpAny_calm {l : List Oper} {m : List Bool} {bs : List Tmp} {O : List Nat} {w0 : World} {a0 F : Act} {Q : Exit → Act → World → Prop} {J : Array Bool → Act → World → Prop}
    (hB : calmB l m bs = true)
    (D : World → Prop) (D0 : D w0) (HD : ∀ (listed : Array Bool) (i : Nat) (w : World), m.getD i false = false → listed.getD i false = false → i < l.length →
      (∀ j oj, l[j]? = some oj → listed.getD j false = true → ∀ e ∈ oj.after, Region.binds .any e = true → listed.getD e.on false = true) → Calm O w0 w → ((∀ k, m.getD k false = true → listed.getD k false = false) → Ext w0 w) → (∃ c, J listed c w) → D w)
    (H : ∀ x, D x → wpQuiet P (eraseM m l).toArray (fun w' => ∃ y : Wx x, w' = y.val) (fun a' => a' = F) (eraseM m l) a0)
    (JA : ∀ listed c w w' i o v, l[i]? = some o → m.getD i false = false → i ∈ Region.ready .any l.toArray listed → Ext w w' → J listed c w → J (listed.setIfInBounds i true) (c.put o.dst v) w')
    (JB : ∀ listed c w i o, l[i]? = some o → m.getD i false = true → i ∈ Region.ready .any l.toArray listed → Calm O w0 w → J listed c w → c.tmps.size = a0.tmps.size → (∀ d ∈ o.looksAt l.toArray, bs.contains d = false → slot c d = slot F d) →
      o.wp P c w (fun c' w' => ∃ v, c' = c.put o.dst v ∧ Calm O w0 w' ∧ J (listed.setIfInBounds i true) c' w') Q)
    (hfin : ∀ c w, Calm O w0 w → c.defers = F.defers → c.tmps.size = F.tmps.size → (∀ d, bs.contains d = false → slot c d = slot F d) → J (Array.replicate l.length true) c w → Q .normal c w) :
    ∀ (n : Nat) (listed : Array Bool) (c : Act) (w : World), cnt listed.toList = n → CInv l bs a0 F listed c → Calm O w0 w → ((∀ k, m.getD k false = true → listed.getD k false = false) → Ext w0 w) → J listed c w → wpAny P .any l.toArray Q n listed c w := by
  obtain ⟨hsel, hsp⟩ := calmB_spec hB
  obtain ⟨⟨F1, F2, F3⟩, _⟩ := quiet_lex _ _ (H w0 D0)
  have F3' : ∀ d, (∀ (k : Nat) (ok : Oper), l[k]? = some ok → ok.dst ≠ some d) → slot F d = slot a0 d := fun d hd => F3 d fun j o' hj => by
    rw [eraseM_get] at hj
    obtain ⟨o, ho, rfl⟩ := Option.map_eq_some_iff.1 hj
    have := hd j o ho
    split <;> exact this
  -- nothing is ready: all have come up
  have allDone : ∀ (listed : Array Bool) (c : Act) (w : World), CInv l bs a0 F listed c → Calm O w0 w → J listed c w → Region.ready .any l.toArray listed = [] → Q .normal c w := by
    intro listed c w inv hw hJ h0
    have hall : ∀ i, i < l.length → listed.getD i false = true := by
      intro i
      induction i using Nat.strongRecOn with
      | _ i ih =>
        intro hi
        cases hl : listed.getD i false with
        | true => rfl
        | false =>
          have hoi : l[i]? = some l[i] := List.getElem?_eq_getElem hi
          have : i ∈ Region.ready .any l.toArray listed := by
            refine mem_ready.2 ⟨?_, l[i], by rw [List.getElem?_toArray]; exact hoi, fun e he hb => ?_⟩
            · have hs : i < listed.size := by rw [inv.lsz]; exact hi
              simp [hs] at hl ⊢; exact hl
            · have hlt := (hsp i _ hoi).back e he hb
              exact ih e.on hlt (by omega)
          rw [h0] at this
          cases this
    have hrep : listed = Array.replicate l.length true := by
      apply Array.ext
      · simp [inv.lsz]
      · intro i h1 h2
        have := hall i (by rw [← inv.lsz]; exact h1)
        simp [h1] at this
        simp [this]
    refine hfin c w hw (inv.df.trans F1.symm) (inv.sz.trans F2.symm) (fun d hd => ?_) (hrep ▸ hJ)
    by_cases hex : ∃ (k : Nat) (ok : Oper), l[k]? = some ok ∧ ok.dst = some d
    · obtain ⟨k, ok, hk, hkd⟩ := hex
      exact inv.yes d hd k ok hk hkd (hall k (List.getElem?_eq_some_iff.1 hk).1)
    · have hno : ∀ (k : Nat) (ok : Oper), l[k]? = some ok → ok.dst ≠ some d := fun k ok hk hkd => hex ⟨k, ok, hk, hkd⟩
      rw [F3' d hno]
      exact inv.no d hd fun k ok hk hkd => absurd hkd (hno k ok hk)
  intro n
  induction n with
  | zero =>
    intro listed c w hn inv hw hE hJ
    have h0 : Region.ready .any l.toArray listed = [] := by
      rw [List.eq_nil_iff_forall_not_mem]
      intro i hi
      obtain ⟨hun, _⟩ := mem_ready.1 hi
      obtain ⟨hf, hlt⟩ := getD_f hun
      refine cnt_zero listed.toList i hn ?_
      simp [hlt] at hf
      simp [hlt, hf]
    exact ⟨h0, allDone listed c w inv hw hJ h0⟩
  | succ n ih =>
    intro listed c w hn inv hw hE hJ
    refine ⟨allDone listed c w inv hw hJ, fun i hi => ?_⟩
    obtain ⟨hun, oi, hoi, hall⟩ := mem_ready.1 hi
    rw [List.getElem?_toArray] at hoi
    obtain ⟨hf, hlt⟩ := getD_f hun
    have hcnt : cnt (listed.setIfInBounds i true).toList = n := by
      have := cnt_set listed.toList i (by simp [hlt] at hf; simp [hlt, hf])
      simp only [Array.toList_setIfInBounds]
      omega
    have sp := hsp i oi hoi
    unfold wpOp
    rw [List.getElem?_toArray, hoi]
    simp only
    by_cases hm : m.getD i false = true
    · -- a marked operation
      have hg : Region.wanted oi (yielded l.toArray c.tmps) = true := by unfold Region.wanted; rw [sp.free hm]
      rw [if_pos hg]
      have hlook : ∀ d ∈ oi.looksAt l.toArray, bs.contains d = false → slot c d = slot F d := by
        intro d hd hb
        by_cases hex : ∃ (k : Nat) (ok : Oper), l[k]? = some ok ∧ ok.dst = some d
        · obtain ⟨k, ok, hk, hkd⟩ := hex
          rcases (sp.look d hd).2 hb k ok hk hkd with ⟨hki, hwt⟩ | ⟨hm', _⟩
          · obtain ⟨e, he, heb, heo⟩ := waitsB_spec hoi hwt
            exact inv.yes d hb k ok hk hkd (heo ▸ hall e he heb)
          · rw [hm] at hm'; cases hm'
        · have hno : ∀ (k : Nat) (ok : Oper), l[k]? = some ok → ok.dst ≠ some d := fun k ok hk hkd => hex ⟨k, ok, hk, hkd⟩
          rw [F3' d hno]
          exact inv.no d hb fun k ok hk hkd => absurd hkd (hno k ok hk)
      refine .inl (Oper.wp_mono (fun c' w' hh => ?_) (JB listed c w i oi hoi hm hi hw hJ inv.sz hlook))
      obtain ⟨v, rfl, hw', hJ'⟩ := hh
      refine ih _ _ _ hcnt (inv.step F2 hsp hoi hi fun d hd hdd _ => ?_) hw' (fun hk => by have := hk i hm; rw [getD_at hlt] at this; cases this) hJ'
      have := sp.own d hdd
      rw [hm, hd] at this
      cases this
    · -- one of the text's order
      have hm' : m.getD i false = false := by simpa using hm
      obtain ⟨_, g⟩ := quiet_lex _ _ (H w (HD listed i w hm' hf (List.getElem?_eq_some_iff.1 hoi).1 inv.closed hw hE ⟨_, hJ⟩))
      have hei : (eraseM m l)[i]? = some oi := by rw [eraseM_get, hoi, Option.map_some, hm']; rfl
      obtain ⟨b, v, b1, b2, b3, b4, b5, b6⟩ := g i oi hei
      have writer : ∀ (j : Nat) (o' : Oper) (d : Tmp), (eraseM m l)[j]? = some o' → o'.dst = some d → ∃ ok, l[j]? = some ok ∧ ok.dst = some d := by
        intro j o' d hj hd
        rw [eraseM_get] at hj
        obtain ⟨o, ho, rfl⟩ := Option.map_eq_some_iff.1 hj
        refine ⟨o, ho, ?_⟩
        split at hd <;> exact hd
      have same : ∀ d ∈ oi.looksAt l.toArray, slot c d = slot b d := by
        intro d hd
        have hb : bs.contains d = false := by
          cases hc : bs.contains d with
          | false => rfl
          | true => rw [(sp.look d hd).1 hc] at hm'; cases hm'
        by_cases hex : ∃ (k : Nat) (ok : Oper), l[k]? = some ok ∧ ok.dst = some d
        · obtain ⟨k, ok, hk, hkd⟩ := hex
          rcases (sp.look d hd).2 hb k ok hk hkd with ⟨hki, hwt⟩ | ⟨_, hik, hwt⟩
          · obtain ⟨e, he, heb, heo⟩ := waitsB_spec hoi hwt
            rw [inv.yes d hb k ok hk hkd (heo ▸ hall e he heb)]
            refine b3 d fun j o' hj ho' hdd => ?_
            obtain ⟨oj, hoj, hojd⟩ := writer j o' d ho' hdd
            exact (hsp k ok hk).one j oj d hoj (by omega) hkd hojd
          · have hknl : listed.getD k false = false := by
              cases hl : listed.getD k false with
              | false => rfl
              | true =>
                obtain ⟨e, he, heb, heo⟩ := waitsB_spec hk hwt
                have := inv.closed k ok hk hl e he heb
                rw [heo, hf] at this
                cases this
            rw [inv.no d hb fun j oj hj hjd => by
              by_cases hjk : j = k
              · subst hjk; exact hknl
              · exact absurd hjd ((hsp k ok hk).one j oj d hj hjk hkd)]
            refine (b2 d fun j o' hj ho' hdd => ?_).symm
            obtain ⟨oj, hoj, hojd⟩ := writer j o' d ho' hdd
            exact (hsp k ok hk).one j oj d hoj (by omega) hkd hojd
        · have hno : ∀ (k : Nat) (ok : Oper), l[k]? = some ok → ok.dst ≠ some d := fun k ok hk hkd => hex ⟨k, ok, hk, hkd⟩
          rw [inv.no d hb fun k ok hk hkd => absurd hkd (hno k ok hk)]
          refine (b2 d fun j o' hj ho' hdd => ?_).symm
          obtain ⟨oj, hoj, hojd⟩ := writer j o' d ho' hdd
          exact hno j oj hoj hojd
      have hex : execOp c.eval oi = execOp b.eval oi := execOp_congr oi (fun cs bb => Region.noSelect_spec hsel i oi cs bb (by rw [List.getElem?_toArray]; exact hoi)) fun x hx => by
        cases x with
        | tmp t => exact same t (List.mem_append_left _ (List.mem_filterMap.2 ⟨.tmp t, by simpa using hx, rfl⟩))
        | _ => rfl
      have hwant : Region.wanted oi (yielded l.toArray c.tmps) = Region.wanted oi (yielded (eraseM m l).toArray b.tmps) := by
        unfold Region.wanted
        cases hg : oi.guard with
        | none => rfl
        | some gw =>
          obtain ⟨g, want⟩ := gw
          simp only [yielded, erase_dst]
          cases hgd : (l.toArray[g]?).bind (·.dst) with
          | none => rfl
          | some d =>
            have hd : d ∈ oi.looksAt l.toArray := List.mem_append_right _ (by simp only [hg, hgd]; simp)
            simp only [Option.bind_some]
            rw [getElem?_of_slot (inv.sz.trans b1.symm) (same d hd)]
      have hval : ∀ d, bs.contains d = false → oi.dst = some d → d < a0.tmps.size → slot F d = v := fun d _ hdd hlt' => b6 d hdd (fun j o' hj ho' hjd => by
        obtain ⟨oj, hoj, hojd⟩ := writer j o' d ho' hjd
        exact sp.one j oj d hoj (by omega) hdd hojd) hlt'
      have next : ∀ w', Ext w w' → wpAny P .any l.toArray Q n (listed.setIfInBounds i true) (c.put oi.dst v) w' := fun w' he =>
        ih _ _ _ hcnt (inv.step F2 hsp hoi hi hval) (hw.trans (he.calm O)) (fun hk => (hE fun k hmk => getD_sub (hk k hmk)).trans he) (JA listed c w w' i oi v hoi hm' hi he hJ)
      by_cases hwt : Region.wanted oi (yielded l.toArray c.tmps) = true
      · rw [if_pos hwt]
        have hq := b4 (hwant ▸ hwt) w ⟨⟨w, Ext.refl w⟩, rfl⟩
        refine .inl ?_
        unfold Oper.wp
        unfold Oper.quietAt at hq
        rw [hex]
        generalize (execOp b.eval oi).run P w = r at *
        cases r with
        | ok nx w' =>
          cases nx <;> simp only [Oper.quietUpon] at hq <;> simp only [Oper.upon]
          case value u =>
            obtain ⟨e1, e2⟩ := hq
            rw [e1, e2]
            exact next w (Ext.refl w)
          case skip =>
            obtain ⟨e1, e2⟩ := hq
            rw [e1, ← e2]
            exact next w (Ext.refl w)
          case enter f args =>
            obtain ⟨e1, hc⟩ := hq
            rw [e1]
            refine hc.mono fun e w'' hh => ?_
            obtain ⟨he, ⟨y, hy⟩, hwy⟩ := hh
            subst he
            have hwy' : w'' = y := hwy
            subst hwy'
            exact next _ hy
        | halt x w' => simp only [Oper.quietUpon] at hq
      · rw [if_neg hwt, ← b5 (by rw [← hwant]; simpa using hwt)]
        exact next w (Ext.refl w)

theorem rep_false (n j : Nat) : (Array.replicate n false).getD j false = false := by
  rcases Nat.lt_or_ge j n with h | h
  · simp [h]
  · simp [h]

theorem wp_region_calm_gen {id : Nat} {l : List Oper} (m : List Bool) (bs : List Tmp) (O : List Nat) {w : World} {a : Act} (F : Act) {Q : Exit → Act → World → Prop} (J : Array Bool → Act → World → Prop) (hm : P.follows .mixedOrders = true)
    (hB : calmB l m bs = true) (D : World → Prop) (D0 : D w) (HD : ∀ (listed : Array Bool) (i : Nat) (u : World), m.getD i false = false → listed.getD i false = false → i < l.length →
      (∀ j oj, l[j]? = some oj → listed.getD j false = true → ∀ e ∈ oj.after, Region.binds .any e = true → listed.getD e.on false = true) → Calm O w u → ((∀ k, m.getD k false = true → listed.getD k false = false) → Ext w u) → (∃ c, J listed c u) → D u)
    (H : ∀ x, D x → wpQuiet P (eraseM m l).toArray (fun w' => ∃ y : Wx x, w' = y.val) (fun a' => a' = F) (eraseM m l) a)
    (J0 : J (Array.replicate l.length false) a w.drew)
    (JA : ∀ listed c w w' i o v, l[i]? = some o → m.getD i false = false → i ∈ Region.ready .any l.toArray listed → Ext w w' → J listed c w → J (listed.setIfInBounds i true) (c.put o.dst v) w')
    (JB : ∀ listed c u i o, l[i]? = some o → m.getD i false = true → i ∈ Region.ready .any l.toArray listed → Calm O w u → J listed c u → c.tmps.size = a.tmps.size → (∀ d ∈ o.looksAt l.toArray, bs.contains d = false → slot c d = slot F d) →
      o.wp P c u (fun c' w' => ∃ v, c' = c.put o.dst v ∧ Calm O w w' ∧ J (listed.setIfInBounds i true) c' w') Q)
    (hfin : ∀ c w', Calm O w w' → c.defers = F.defers → c.tmps.size = F.tmps.size → (∀ d, bs.contains d = false → slot c d = slot F d) → J (Array.replicate l.length true) c w' → Q .normal c w') :
    (Code.region id l.toArray true).wp P Q a w := by
  refine wp_region_any hm ?_
  have h := wpAny_calm hB D D0 HD H JA JB hfin l.length (Array.replicate l.length false) a w.drew (by simp [cnt_replicate]) ⟨by simp, fun j oj _ hl => (by rw [rep_false] at hl; cases hl), rfl, rfl, fun d _ k ok _ _ hl => (by rw [rep_false] at hl; cases hl), fun d _ _ => rfl⟩ ((Ext.refl w).drew.calm O) (fun _ => (Ext.refl w).drew) J0
  simpa using h

theorem wp_region_calm {id : Nat} {l : List Oper} (m : List Bool) (bs : List Tmp) (O : List Nat) {w : World} {a : Act} (F : Act) {Q : Exit → Act → World → Prop} (J : Array Bool → Act → World → Prop) (hm : P.follows .mixedOrders = true)
    (hB : calmB l m bs = true)
    (H : ∀ x, Calm O w x → wpQuiet P (eraseM m l).toArray (fun w' => ∃ y : Wx x, w' = y.val) (fun a' => a' = F) (eraseM m l) a)
    (J0 : J (Array.replicate l.length false) a w.drew)
    (JA : ∀ listed c w w' i o v, l[i]? = some o → m.getD i false = false → i ∈ Region.ready .any l.toArray listed → Ext w w' → J listed c w → J (listed.setIfInBounds i true) (c.put o.dst v) w')
    (JB : ∀ listed c u i o, l[i]? = some o → m.getD i false = true → i ∈ Region.ready .any l.toArray listed → Calm O w u → J listed c u → c.tmps.size = a.tmps.size → (∀ d ∈ o.looksAt l.toArray, bs.contains d = false → slot c d = slot F d) →
      o.wp P c u (fun c' w' => ∃ v, c' = c.put o.dst v ∧ Calm O w w' ∧ J (listed.setIfInBounds i true) c' w') Q)
    (hfin : ∀ c w', Calm O w w' → c.defers = F.defers → c.tmps.size = F.tmps.size → (∀ d, bs.contains d = false → slot c d = slot F d) → J (Array.replicate l.length true) c w' → Q .normal c w') :
    (Code.region id l.toArray true).wp P Q a w :=
  wp_region_calm_gen m bs O F J hm hB (fun x => Calm O w x) (Calm.refl _ _) (fun _ _ _ _ _ _ _ h _ _ => h) H J0 JA JB hfin

/-- operation j waits for operation i, by way of others -/
def befB (l : List Oper) : Nat → Nat → Nat → Bool
  | 0, _, _ => false
  | n + 1, i, j => waitsB l j i || (List.range j).any fun k => waitsB l j k && befB l n i k
theorem befB_spec {l : List Oper} {listed : Array Bool} (hc : ∀ j oj, l[j]? = some oj → listed.getD j false = true → ∀ e ∈ oj.after, Region.binds .any e = true → listed.getD e.on false = true) :
    ∀ (n i j : Nat), j < l.length → befB l n i j = true → listed.getD j false = true → listed.getD i false = true
  | 0, _, _, _, h, _ => by cases h
  | n + 1, i, j, hj, h, hl => by
    have hoj : l[j]? = some l[j] := List.getElem?_eq_getElem hj
    simp only [befB, Bool.or_eq_true] at h
    rcases h with h | h
    · obtain ⟨e, he, hb, ho⟩ := waitsB_spec hoj h
      exact ho ▸ hc j _ hoj hl e he hb
    · obtain ⟨k, hk, hh⟩ := List.any_eq_true.1 h
      simp only [Bool.and_eq_true] at hh
      obtain ⟨e, he, hb, ho⟩ := waitsB_spec hoj hh.1
      exact befB_spec hc n i k (Nat.lt_trans (List.mem_range.1 hk) hj) hh.2 (ho ▸ hc j _ hoj hl e he hb)
/-- all marked operations wait for all others -/
def earlyB (l : List Oper) (m : List Bool) (n : Nat) : Bool :=
  (List.range l.length).all fun i => m.getD i false || (List.range l.length).all fun j => !m.getD j false || befB l n i j
theorem early_spec {l : List Oper} {m : List Bool} {n : Nat} (h : earlyB l m n = true) {O : List Nat} {w : World} (hml : m.length ≤ l.length) (listed : Array Bool) (i : Nat) (u : World) (hm : m.getD i false = false) (hl : listed.getD i false = false) (hi : i < l.length)
    (hc : ∀ j oj, l[j]? = some oj → listed.getD j false = true → ∀ e ∈ oj.after, Region.binds .any e = true → listed.getD e.on false = true) (hE : (∀ k, m.getD k false = true → listed.getD k false = false) → Ext w u) : Ext w u := by
  refine hE fun k hk => ?_
  cases hlk : listed.getD k false with
  | false => rfl
  | true =>
    have hkl : k < l.length := by
      rcases Nat.lt_or_ge k m.length with h' | h'
      · omega
      · simp [List.getElem?_eq_none h'] at hk
    have h1 := List.all_eq_true.1 h i (List.mem_range.2 hi)
    rw [hm, Bool.false_or] at h1
    have h2 := List.all_eq_true.1 h1 k (List.mem_range.2 hkl)
    rw [hk] at h2
    have := befB_spec hc n i k hkl (by simpa using h2) hlk
    rw [hl] at this
    cases this

/-- a region without marked operations: it reads, and calls what only makes memory -/
theorem wp_region_reads {id : Nat} {l : List Oper} {w : World} {a : Act} {Q : Exit → Act → World → Prop} (hm : P.follows .mixedOrders = true) (hB : Region.lexB .any l.toArray = true)
    (h : wpQuiet P l.toArray (fun w' => ∃ y : Wx w, w' = y.val) (fun a' => ∀ w', Ext w w' → Q .normal a' w') l a) : (Code.region id l.toArray true).wp P Q a w := by
  have hx : Ext w { w with drawn := w.drawn + 1 } := (Ext.refl w).drew
  refine wp_region_quiet (C := fun w' => ∃ y : Wx w, w' = y.val) hm hB ⟨⟨_, hx⟩, rfl⟩ ?_
  have e : (fun a' => ∀ w', (∃ y : Wx w, w' = y.val) → Q .normal a' w') = (fun a' => ∀ w', Ext w w' → Q .normal a' w') := by
    funext a'
    apply propext
    constructor
    · intro k w' he; exact k w' ⟨⟨w', he⟩, rfl⟩
    · rintro k w' ⟨y, rfl⟩; exact k _ y.ext
  rw [e]
  simpa using h
end

end Go.Proofs.Ytglehnmkdapnpaa

namespace Go.Proofs.Ytglehnmkdapnpaa
open Go.RowKit
set_option linter.unusedVariables false

/-- a variable that the region makes (ai: the operation that makes it, s: its slot), or a block b of the call's own (ai = none); si: the operation that stores into it; its cells before (z) and behind (z') the store -/
structure Tgt where
  ai : Option Nat
  s : Tmp
  b : Nat
  si : Option Nat
  T : TypeId
  z : Array Value
  z' : Array Value

def tgtB (l : List Oper) (m : List Bool) (bs : List Tmp) (ts : List Tgt) : Bool :=
  ((List.range l.length).all fun i => !m.getD i false || ts.any fun t => t.ai == some i || t.si == some i) &&
  (ts.all fun t =>
    (match t.ai with | some i => m.getD i false && bs.contains t.s && ((l[i]?).map (·.dst) == some (some t.s)) && t.si != some i | none => true) &&
    (match t.si with | some j => m.getD j false && ((l[j]?).map (·.dst) == some none) && (match t.ai with | some i => waitsB l j i | none => true) | none => true)) &&
  ((List.range ts.length).all fun k => (List.range ts.length).all fun k' => k == k' || match ts[k]?, ts[k']? with
    | some t, some t' => (t.ai.isNone || (t.ai != t'.ai && t.ai != t'.si && t.s != t'.s)) && (t.si.isNone || t.si != t'.si)
    | _, _ => true)

structure TStat (l : List Oper) (m : List Bool) (bs : List Tmp) (ts : List Tgt) : Prop where
  s1 : ∀ i, i < l.length → m.getD i false = true → ∃ (k : Nat) (t : Tgt), ts[k]? = some t ∧ (t.ai = some i ∨ t.si = some i)
  s2 : ∀ (k : Nat) (t : Tgt) (i : Nat), ts[k]? = some t → t.ai = some i → m.getD i false = true ∧ bs.contains t.s = true ∧ (∃ o, l[i]? = some o ∧ o.dst = some t.s) ∧ t.si ≠ some i
  s3 : ∀ (k : Nat) (t : Tgt) (j : Nat), ts[k]? = some t → t.si = some j → m.getD j false = true ∧ (∃ o, l[j]? = some o ∧ o.dst = none) ∧ ∀ i, t.ai = some i → waitsB l j i = true
  s4 : ∀ (k k' : Nat) (t t' : Tgt) (i : Nat), ts[k]? = some t → ts[k']? = some t' → k ≠ k' → t.ai = some i → t'.ai ≠ some i ∧ t'.si ≠ some i ∧ t.s ≠ t'.s
  s5 : ∀ (k k' : Nat) (t t' : Tgt) (j : Nat), ts[k]? = some t → ts[k']? = some t' → k ≠ k' → t.si = some j → t'.si ≠ some j

theorem tgtB_spec {l : List Oper} {m : List Bool} {bs : List Tmp} {ts : List Tgt} (h : tgtB l m bs ts = true) : TStat l m bs ts := by
  simp only [tgtB, Bool.and_eq_true] at h
  obtain ⟨⟨h1, h2⟩, h3⟩ := h
  have pair : ∀ (k k' : Nat) (t t' : Tgt), ts[k]? = some t → ts[k']? = some t' → k ≠ k' → (t.ai.isNone || (t.ai != t'.ai && t.ai != t'.si && t.s != t'.s)) = true ∧ (t.si.isNone || t.si != t'.si) = true := by
    intro k k' t t' hk hk' hne
    have a := List.all_eq_true.1 h3 k (List.mem_range.2 (List.getElem?_eq_some_iff.1 hk).1)
    have b := List.all_eq_true.1 a k' (List.mem_range.2 (List.getElem?_eq_some_iff.1 hk').1)
    simp only [hk, hk', Bool.or_eq_true, beq_iff_eq, Bool.and_eq_true] at b
    rcases b with b | b
    · exact absurd b hne
    · simpa only [Bool.or_eq_true, Bool.and_eq_true] using b
  refine ⟨fun i hi hm => ?_, fun k t i hk hai => ?_, fun k t j hk hsi => ?_, fun k k' t t' i hk hk' hne hai => ?_, fun k k' t t' j hk hk' hne hsi => ?_⟩
  · have := List.all_eq_true.1 h1 i (List.mem_range.2 hi)
    rw [hm] at this
    simp only [Bool.not_true, Bool.false_or] at this
    obtain ⟨t, ht, hh⟩ := List.any_eq_true.1 this
    obtain ⟨k, hk⟩ := List.mem_iff_getElem?.1 ht
    exact ⟨k, t, hk, by simpa only [Bool.or_eq_true, beq_iff_eq] using hh⟩
  · have := List.all_eq_true.1 h2 t (List.mem_of_getElem? hk)
    simp only [hai, Bool.and_eq_true, beq_iff_eq, bne_iff_ne] at this
    obtain ⟨⟨⟨⟨a, b⟩, c⟩, d⟩, _⟩ := this
    obtain ⟨o, ho, hd⟩ := Option.map_eq_some_iff.1 c
    exact ⟨a, b, ⟨o, ho, hd⟩, d⟩
  · have := List.all_eq_true.1 h2 t (List.mem_of_getElem? hk)
    simp only [hsi, Bool.and_eq_true, beq_iff_eq] at this
    obtain ⟨_, ⟨a, c⟩, d⟩ := this
    obtain ⟨o, ho, hd⟩ := Option.map_eq_some_iff.1 c
    exact ⟨a, ⟨o, ho, hd⟩, fun i hi => by simpa only [hi] using d⟩
  · have := (pair k k' t t' hk hk' hne).1
    simp only [hai, Option.isNone_some, Bool.false_or, Bool.and_eq_true, bne_iff_ne] at this
    exact ⟨fun e => this.1.1 e.symm, fun e => this.1.2 e.symm, this.2⟩
  · have := (pair k k' t t' hk hk' hne).2
    simp only [hsi, Option.isNone_some, Bool.false_or, bne_iff_ne] at this
    exact fun e => this e.symm

def live (listed : Array Bool) (t : Tgt) : Prop := ∀ i, t.ai = some i → listed.getD i false = true
def doneB (listed : Array Bool) (t : Tgt) : Bool := match t.si with | some j => listed.getD j false | none => false

structure JT (w0 : World) (listed : Array Bool) (c : Act) (w : World) (f : Nat → Nat) (k : Nat) (t : Tgt) : Prop where
  fix : t.ai = none → f k = t.b
  ord : doneB listed t = true → live listed t
  held : live listed t → (∀ i, t.ai = some i → slot c t.s = .pointer (some ⟨f k, 0, none⟩) ∧ w0.heap.size ≤ f k) ∧ f k < w.heap.size ∧ w.heap[f k]? = some (.cells (if doneB listed t then t.z' else t.z) t.T (0, 0))

def JV (ts : List Tgt) (w0 : World) (listed : Array Bool) (c : Act) (w : World) : Prop :=
  ∃ f : Nat → Nat, (∀ (k : Nat) (t : Tgt), ts[k]? = some t → JT w0 listed c w f k t) ∧
    ∀ (k k' : Nat) (t t' : Tgt), ts[k]? = some t → ts[k']? = some t' → k ≠ k' → live listed t → live listed t' → f k ≠ f k'

theorem live_set {listed : Array Bool} {t : Tgt} {i : Nat} (h : t.ai ≠ some i) : live (listed.setIfInBounds i true) t ↔ live listed t := by
  constructor
  · intro hl j hj
    have hne : i ≠ j := fun e => h (by rw [e]; exact hj)
    have := hl j hj
    rwa [getD_set_ne false hne] at this
  · intro hl j hj
    exact getD_set_true (hl j hj)
theorem doneB_set {listed : Array Bool} {t : Tgt} {i : Nat} (h : t.si ≠ some i) : doneB (listed.setIfInBounds i true) t = doneB listed t := by
  unfold doneB
  cases hs : t.si with
  | none => rfl
  | some j => exact getD_set_ne false fun e => h (by rw [e]; exact hs)

theorem heap_setRow_ne (u : World) (g k : Nat) (cs : Array Value) (h : k ≠ g) : (u.setRow g cs).heap[k]? = u.heap[k]? := by
  simp only [World.setRow, Array.getElem?_modify]
  rw [if_neg (fun e => h e.symm)]
theorem heap_setRow_eq {u : World} {g : Nat} {z : Array Value} {t : TypeId} {fr : Nat × Nat} (cs : Array Value) (h : u.heap[g]? = some (.cells z t fr)) : (u.setRow g cs).heap[g]? = some (.cells cs t fr) := by
  simp only [World.setRow, Array.getElem?_modify, if_true, h, Option.map_some]
theorem frozen_setRow (u : World) (g : Nat) (cs : Array Value) (a : Addr) : (u.setRow g cs).frozen? a = u.frozen? a := by
  by_cases h : a.block = g
  · subst h
    simp only [World.frozen?, World.setRow, Array.getElem?_modify, if_true]
    cases hh : u.heap[a.block]? with
    | none => rfl
    | some o => cases o <;> rfl
  · exact World.frozen?_of_block (w := u) (heap_setRow_ne u g a.block cs h)
theorem size_setRow (u : World) (g : Nat) (cs : Array Value) : (u.setRow g cs).heap.size = u.heap.size := by simp [World.setRow]

/-- slots written, one after another -/
def putAll (a : Act) : List (Tmp × Value) → Act
  | [] => a
  | p :: r => putAll (a.put (some p.1) p.2) r
theorem putAll_size : ∀ (ps : List (Tmp × Value)) (a : Act), (putAll a ps).tmps.size = a.tmps.size
  | [], a => rfl
  | p :: r, a => by rw [putAll, putAll_size r, size_put]
theorem putAll_defers : ∀ (ps : List (Tmp × Value)) (a : Act), (putAll a ps).defers = a.defers
  | [], a => rfl
  | p :: r, a => by rw [putAll, putAll_defers r, defers_put]
theorem putAll_slot (c : Act) (d : Tmp) (hd : d < c.tmps.size) : ∀ (ps : List (Tmp × Value)) (a : Act), a.tmps.size = c.tmps.size → (∀ p ∈ ps, p.2 = slot c p.1) → (slot a d = slot c d ∨ ∃ p ∈ ps, p.1 = d) → slot (putAll a ps) d = slot c d
  | [], a, _, _, h => by
    rcases h with h | ⟨p, hp, _⟩
    · exact h
    · cases hp
  | p :: r, a, hs, hp, h => by
    rw [putAll]
    refine putAll_slot c d hd r _ (by rw [size_put]; exact hs) (fun q hq => hp q (List.mem_cons_of_mem _ hq)) ?_
    by_cases hpd : p.1 = d
    · left
      rw [hpd, slot_put_eq (by rw [hs]; exact hd), hp p (List.mem_cons_self ..), hpd]
    · rcases h with h | ⟨q, hq, hqd⟩
      · left
        rw [slot_put_ne (fun e => hpd (Option.some.inj e)), h]
      · rcases List.mem_cons.1 hq with e | e
        · subst e; exact absurd hqd hpd
        · exact .inr ⟨q, e, hqd⟩
theorem act_ext {a c : Act} (h1 : a.defers = c.defers) (h2 : a.tmps.size = c.tmps.size) (h3 : ∀ d, d < c.tmps.size → slot a d = slot c d) : a = c := by
  obtain ⟨t1, d1⟩ := a
  obtain ⟨t2, d2⟩ := c
  simp only at h1 h2
  subst h1
  congr 1
  apply Array.ext h2
  intro i k1 k2
  have := h3 i k2
  simp only [slot, Array.getD_eq_getD_getElem?, Array.getElem?_eq_getElem k1, Array.getElem?_eq_getElem k2, Option.getD_some] at this
  exact this

/-- the slots of the new variables, and what they hold -/
def slotsOf : List Tgt → List Tmp
  | [] => []
  | t :: r => if t.ai.isSome then t.s :: slotsOf r else slotsOf r
def pairs (f : Nat → Nat) : Nat → List Tgt → List (Tmp × Value)
  | _, [] => []
  | k, t :: r => if t.ai.isSome then (t.s, .pointer (some ⟨f k, 0, none⟩)) :: pairs f (k + 1) r else pairs f (k + 1) r
theorem mem_pairs (f : Nat → Nat) : ∀ (ts : List Tgt) (k : Nat) (p : Tmp × Value), p ∈ pairs f k ts → ∃ (j : Nat) (t : Tgt), ts[j]? = some t ∧ t.ai.isSome = true ∧ p = (t.s, .pointer (some ⟨f (k + j), 0, none⟩))
  | [], _, _, h => by cases h
  | t :: r, k, p, h => by
    unfold pairs at h
    by_cases ha : t.ai.isSome = true
    · rw [if_pos ha] at h
      rcases List.mem_cons.1 h with e | e
      · exact ⟨0, t, rfl, ha, e⟩
      · obtain ⟨j, t', h1, h2, h3⟩ := mem_pairs f r (k + 1) p e
        exact ⟨j + 1, t', by simpa using h1, h2, by rw [h3]; congr 5; omega⟩
    · rw [if_neg ha] at h
      obtain ⟨j, t', h1, h2, h3⟩ := mem_pairs f r (k + 1) p h
      exact ⟨j + 1, t', by simpa using h1, h2, by rw [h3]; congr 5; omega⟩
theorem pairs_slots (f : Nat → Nat) (d : Tmp) : ∀ (ts : List Tgt) (k : Nat), d ∈ slotsOf ts → ∃ p ∈ pairs f k ts, p.1 = d
  | [], _, h => by cases h
  | t :: r, k, h => by
    unfold slotsOf at h
    unfold pairs
    by_cases ha : t.ai.isSome = true
    · rw [if_pos ha] at h ⊢
      rcases List.mem_cons.1 h with e | e
      · exact ⟨_, List.mem_cons_self .., e.symm⟩
      · obtain ⟨p, hp, hpd⟩ := pairs_slots f d r (k + 1) e
        exact ⟨p, List.mem_cons_of_mem _ hp, hpd⟩
    · rw [if_neg ha] at h ⊢
      exact pairs_slots f d r (k + 1) h

/-- what is known of the targets behind the region -/
def Known (w0 w : World) (f : Nat → Nat) : Nat → List Tgt → Prop
  | _, [] => True
  | k, t :: r => (if t.ai.isSome then w0.heap.size ≤ f k else f k = t.b) ∧ f k < w.heap.size ∧ w.heap[f k]? = some (.cells (if t.si.isSome then t.z' else t.z) t.T (0, 0)) ∧ (∀ j, j < k → f j ≠ f k) ∧ Known w0 w f (k + 1) r
theorem known_of {w0 w : World} {f : Nat → Nat} {ts : List Tgt}
    (h : ∀ (k : Nat) (t : Tgt), ts[k]? = some t → (if t.ai.isSome then w0.heap.size ≤ f k else f k = t.b) ∧ f k < w.heap.size ∧ w.heap[f k]? = some (.cells (if t.si.isSome then t.z' else t.z) t.T (0, 0)) ∧ (∀ j, j < k → f j ≠ f k)) :
    ∀ (r : List Tgt) (k : Nat), (∀ j, r[j]? = ts[k + j]?) → Known w0 w f k r
  | [], _, _ => trivial
  | t :: r, k, hr => by
    have h0 : ts[k]? = some t := by simpa using (hr 0).symm
    obtain ⟨a, b, c, d⟩ := h k t h0
    refine ⟨a, b, c, d, known_of h r (k + 1) fun j => ?_⟩
    have := hr (j + 1)
    simpa [Nat.add_assoc, Nat.add_comm 1 j] using this

section
variable {P : Program}

/-- how the operation that makes the variable t, and the one that stores into it, run -/
structure TgtOk (P : Program) (l : List Oper) (bs : List Tmp) (O : List Nat) (w : World) (a F : Act) (t : Tgt) : Prop where
  makes : ∀ i, t.ai = some i → t.s < a.tmps.size ∧ ∃ o, l[i]? = some o ∧ ∀ (c : Act) (u : World), (execOp c.eval o).run P u = .ok (.value (.pointer (some ⟨u.heap.size, 0, none⟩))) (u.alloc (.cells t.z t.T))
  mine : t.ai = none → t.b ∈ O ∧ t.b < w.heap.size ∧ w.heap[t.b]? = some (.cells t.z t.T (0, 0))
  stores : ∀ j, t.si = some j → ∃ o, l[j]? = some o ∧ ∀ (c : Act) (u : World) (bk : Nat), (t.ai.isSome = true → slot c t.s = .pointer (some ⟨bk, 0, none⟩)) → (t.ai = none → bk = t.b) →
    (∀ d ∈ o.looksAt l.toArray, bs.contains d = false → slot c d = slot F d) → u.heap[bk]? = some (.cells t.z t.T (0, 0)) → (execOp c.eval o).run P u = .ok .skip (u.setRow bk t.z')

theorem wp_region_vars_gen {id : Nat} {l : List Oper} (m : List Bool) (O : List Nat) (ts : List Tgt) {w : World} {a : Act} (F : Act) {Q : Exit → Act → World → Prop} (hm : P.follows .mixedOrders = true)
    (hB : calmB l m (slotsOf ts) = true) (hT : tgtB l m (slotsOf ts) ts = true)
    (D : World → Prop) (D0 : D w) (HD : ∀ (listed : Array Bool) (i : Nat) (u : World), m.getD i false = false → listed.getD i false = false → i < l.length →
      (∀ j oj, l[j]? = some oj → listed.getD j false = true → ∀ e ∈ oj.after, Region.binds .any e = true → listed.getD e.on false = true) → Calm O w u → ((∀ k, m.getD k false = true → listed.getD k false = false) → Ext w u) → D u)
    (H : ∀ x, D x → wpQuiet P (eraseM m l).toArray (fun w' => ∃ y : Wx x, w' = y.val) (fun a' => a' = F) (eraseM m l) a)
    (hok : ∀ t ∈ ts, TgtOk P l (slotsOf ts) O w a F t) (hdis : ∀ (k k' : Nat) (t t' : Tgt), ts[k]? = some t → ts[k']? = some t' → k ≠ k' → t.ai = none → t'.ai = none → t.b ≠ t'.b)
    (hfin : ∀ (w' : World) (f : Nat → Nat), Calm O w w' → Known w w' f 0 ts → Q .normal (putAll F (pairs f 0 ts)) w') :
    (Code.region id l.toArray true).wp P Q a w := by
  have st := tgtB_spec hT
  obtain ⟨_, hsp⟩ := calmB_spec hB
  refine wp_region_calm_gen m (slotsOf ts) O F (JV ts w) hm hB D D0 (fun listed i u a b c d e f _ => HD listed i u a b c d e f) H ?_ ?_ ?_ ?_
  · -- at first
    refine ⟨fun k => match ts[k]? with | some t => t.b | none => 0, fun k t hk => ⟨fun _ => by simp only [hk], fun hd => ?_, fun hl => ?_⟩, fun k k' t t' hk hk' hne hl hl' => ?_⟩
    · unfold doneB at hd
      cases hs : t.si with
      | none => rw [hs] at hd; cases hd
      | some j => rw [hs] at hd; simp only [rep_false] at hd; cases hd
    · cases ha : t.ai with
      | some i => have := hl i ha; rw [rep_false] at this; cases this
      | none =>
        obtain ⟨_, h2, h3⟩ := (hok t (List.mem_of_getElem? hk)).mine ha
        have hnd : doneB (Array.replicate l.length false) t = false := by
          unfold doneB
          cases t.si with
          | none => rfl
          | some j => exact rep_false _ _
        simp only [hk]
        refine ⟨fun i hi => (by cases hi), h2, ?_⟩
        rw [hnd]
        exact h3
    · have ha : t.ai = none := by
        cases ha : t.ai with
        | some i => have := hl i ha; rw [rep_false] at this; cases this
        | none => rfl
      have ha' : t'.ai = none := by
        cases ha' : t'.ai with
        | some i => have := hl' i ha'; rw [rep_false] at this; cases this
        | none => rfl
      simp only [hk, hk']
      exact hdis k k' t t' hk hk' hne ha ha'
  · -- one of the text's order
    rintro listed c u u' i o v hi hmi hr he ⟨f, h1, h2⟩
    have notai : ∀ (k : Nat) (t : Tgt), ts[k]? = some t → t.ai ≠ some i := fun k t hk ha => by
      rw [(st.s2 k t i hk ha).1] at hmi; cases hmi
    have notsi : ∀ (k : Nat) (t : Tgt), ts[k]? = some t → t.si ≠ some i := fun k t hk ha => by
      rw [(st.s3 k t i hk ha).1] at hmi; cases hmi
    refine ⟨f, fun k t hk => ⟨(h1 k t hk).fix, fun hd => ?_, fun hl => ?_⟩, fun k k' t t' hk hk' hne hl hl' => h2 k k' t t' hk hk' hne ((live_set (notai k t hk)).1 hl) ((live_set (notai k' t' hk')).1 hl')⟩
    · rw [doneB_set (notsi k t hk)] at hd
      exact (live_set (notai k t hk)).2 ((h1 k t hk).ord hd)
    · obtain ⟨p1, p2, p3⟩ := (h1 k t hk).held ((live_set (notai k t hk)).1 hl)
      refine ⟨fun j hj => ⟨?_, (p1 j hj).2⟩, Nat.lt_of_lt_of_le p2 he.size, ?_⟩
      · rw [slot_put_ne fun hd => ?_]
        · exact (p1 j hj).1
        · have := (hsp i o hi).own t.s hd
          rw [hmi, (st.s2 k t j hk hj).2.1] at this
          cases this
      · rw [he.block p2, p3, doneB_set (notsi k t hk)]
  · -- a marked one
    rintro listed c u i o hi hmi hr hw ⟨f, h1, h2⟩ hsz hlook
    obtain ⟨hun, o', ho', hall⟩ := mem_ready.1 hr
    rw [List.getElem?_toArray] at ho'
    have eo : o' = o := Option.some.inj (ho'.symm.trans hi)
    subst eo
    obtain ⟨hunf, hlt⟩ := getD_f hun
    obtain ⟨k0, t0, hk0, hwhich⟩ := st.s1 i (List.getElem?_eq_some_iff.1 hi).1 hmi
    rcases hwhich with ha | hs
    · -- it makes t0
      obtain ⟨hslt, oa, hoa, hrun⟩ := (hok t0 (List.mem_of_getElem? hk0)).makes i ha
      have eo : oa = o' := Option.some.inj (hoa.symm.trans hi)
      subst eo
      obtain ⟨_, hbs, ⟨od, hod, hdst⟩, hsne⟩ := st.s2 k0 t0 i hk0 ha
      have eo : od = oa := Option.some.inj (hod.symm.trans hi)
      subst eo
      unfold Oper.wp
      rw [hrun c u, Oper.upon_value]
      refine ⟨_, rfl, hw.trans ((Ext.refl u).alloc _ _ |>.calm O), fun k => if k = k0 then u.heap.size else f k, fun k t hk => ?_, fun k k' t t' hk hk' hne hl hl' => ?_⟩
      · by_cases hkk : k = k0
        · subst hkk
          have : t = t0 := Option.some.inj (hk.symm.trans hk0)
          subst this
          have hnd : doneB listed t = false := by
            cases hd : doneB listed t with
            | false => rfl
            | true =>
              have := (h1 k t hk).ord hd i ha
              rw [hunf] at this; cases this
          refine ⟨fun e => (by rw [e] at ha; cases ha), fun hd => ?_, fun _ => ?_⟩
          · rw [doneB_set hsne, hnd] at hd; cases hd
          · simp only [if_true]
            refine ⟨fun j hj => ⟨?_, hw.size⟩, by simp, ?_⟩
            · rw [hdst, slot_put_eq (by rw [hsz]; exact hslt)]
            · rw [doneB_set hsne, hnd]
              show (u.heap.push _)[u.heap.size]? = _
              simp
        · have hne := st.s4 k0 k t0 t i hk0 hk (fun e => hkk e.symm) ha
          refine ⟨fun e => by simp only [hkk, if_false]; exact (h1 k t hk).fix e, fun hd => ?_, fun hl => ?_⟩
          · rw [doneB_set hne.2.1] at hd
            exact (live_set hne.1).2 ((h1 k t hk).ord hd)
          · obtain ⟨p1, p2, p3⟩ := (h1 k t hk).held ((live_set hne.1).1 hl)
            simp only [hkk, if_false]
            refine ⟨fun j hj => ⟨?_, (p1 j hj).2⟩, by simp; omega, ?_⟩
            · rw [hdst, slot_put_ne (fun e => hne.2.2 (Option.some.inj e))]
              exact (p1 j hj).1
            · rw [doneB_set hne.2.1, Below.heap_alloc _ _ _ p2, p3]
      · by_cases hkk : k = k0
        · subst hkk
          have hne' : k' ≠ k := fun e => hne e.symm
          have ht' := st.s4 k k' t0 t' i hk0 hk' hne ha
          have := ((h1 k' t' hk').held ((live_set ht'.1).1 hl')).2.1
          simp only [hne', if_true, if_false]
          omega
        · by_cases hkk' : k' = k0
          · subst hkk'
            have ht := st.s4 k' k t0 t i hk0 hk (fun e => hne e.symm) ha
            have := ((h1 k t hk).held ((live_set ht.1).1 hl)).2.1
            simp only [hkk, if_true, if_false]
            omega
          · simp only [hkk, hkk', if_false]
            have ht := st.s4 k0 k t0 t i hk0 hk (fun e => hkk e.symm) ha
            have ht' := st.s4 k0 k' t0 t' i hk0 hk' (fun e => hkk' e.symm) ha
            exact h2 k k' t t' hk hk' hne ((live_set ht.1).1 hl) ((live_set ht'.1).1 hl')
    · -- it stores into t0
      obtain ⟨_, ⟨od, hod, hdst⟩, hwait⟩ := st.s3 k0 t0 i hk0 hs
      have eo : od = o' := Option.some.inj (hod.symm.trans hi)
      subst eo
      have hlive : live listed t0 := fun j hj => by
        obtain ⟨e, he, heb, heo⟩ := waitsB_spec hi (hwait j hj)
        exact heo ▸ hall e he heb
      have hnd : doneB listed t0 = false := by unfold doneB; rw [hs]; exact hunf
      obtain ⟨p1, p2, p3⟩ := (h1 k0 t0 hk0).held hlive
      rw [hnd] at p3
      obtain ⟨os, hos, hrun⟩ := (hok t0 (List.mem_of_getElem? hk0)).stores i hs
      have eo : os = od := Option.some.inj (hos.symm.trans hi)
      subst eo
      have notai : ∀ (k : Nat) (t : Tgt), ts[k]? = some t → t.ai ≠ some i := fun k t hk ha => by
        by_cases hkk : k = k0
        · subst hkk
          have : t = t0 := Option.some.inj (hk.symm.trans hk0)
          subst this
          exact (st.s2 k t i hk ha).2.2.2 hs
        · exact (st.s4 k k0 t t0 i hk hk0 hkk ha).2.1 hs
      unfold Oper.wp
      rw [hrun c u (f k0) (fun hh => by
        obtain ⟨j, hj⟩ := Option.isSome_iff_exists.1 hh
        exact (p1 j hj).1) (h1 k0 t0 hk0).fix hlook p3, Oper.upon_skip]
      refine ⟨_, rfl, ?_, f, fun k t hk => ?_, fun k k' t t' hk hk' hne hl hl' => h2 k k' t t' hk hk' hne ((live_set (notai k t hk)).1 hl) ((live_set (notai k' t' hk')).1 hl')⟩
      · refine ⟨hw.os, hw.tape, hw.output, by rw [size_setRow]; exact hw.size, fun k hk hO => (heap_setRow_ne _ _ _ _ fun e => ?_).trans (hw.block k hk hO)⟩
        cases ha : t0.ai with
        | none =>
          have := ((hok t0 (List.mem_of_getElem? hk0)).mine ha).1
          rw [← (h1 k0 t0 hk0).fix ha, ← e] at this
          exact hO this
        | some j => have := (p1 j ha).2; omega
      · rw [hdst]
        show JT w _ c _ f k t
        by_cases hkk : k = k0
        · subst hkk
          have : t = t0 := Option.some.inj (hk.symm.trans hk0)
          subst this
          have hd' : doneB (listed.setIfInBounds i true) t = true := by unfold doneB; rw [hs]; exact getD_at hlt
          refine ⟨(h1 k t hk).fix, fun _ => (live_set (notai k t hk)).2 hlive, fun _ => ⟨p1, by rw [size_setRow]; exact p2, ?_⟩⟩
          rw [hd', heap_setRow_eq _ p3]
          rfl
        · have hsi : t.si ≠ some i := st.s5 k0 k t0 t i hk0 hk (fun e => hkk e.symm) hs
          refine ⟨(h1 k t hk).fix, fun hd => ?_, fun hl => ?_⟩
          · rw [doneB_set hsi] at hd
            exact (live_set (notai k t hk)).2 ((h1 k t hk).ord hd)
          · have hl' := (live_set (notai k t hk)).1 hl
            obtain ⟨q1, q2, q3⟩ := (h1 k t hk).held hl'
            refine ⟨q1, by rw [size_setRow]; exact q2, ?_⟩
            rw [doneB_set hsi, heap_setRow_ne _ _ _ _ (h2 k k0 t t0 hk hk0 hkk hl' hlive), q3]
  · -- behind it
    rintro c w' hw hdf hsz hsl ⟨f, h1, h2⟩
    have alive : ∀ (k : Nat) (t : Tgt), ts[k]? = some t → live (Array.replicate l.length true) t := fun k t hk i hi => by
      obtain ⟨_, _, ⟨o, ho, _⟩, _⟩ := st.s2 k t i hk hi
      have := (List.getElem?_eq_some_iff.1 ho).1
      simp [this]
    have adone : ∀ (k : Nat) (t : Tgt), ts[k]? = some t → doneB (Array.replicate l.length true) t = t.si.isSome := fun k t hk => by
      unfold doneB
      cases hs : t.si with
      | none => rfl
      | some j =>
        obtain ⟨_, ⟨o, ho, _⟩, _⟩ := st.s3 k t j hk hs
        have := (List.getElem?_eq_some_iff.1 ho).1
        simp [this]
    have hc : putAll F (pairs f 0 ts) = c := by
      refine act_ext ((putAll_defers _ _).trans hdf.symm) ((putAll_size _ _).trans hsz.symm) fun d hd => putAll_slot c d hd _ _ hsz.symm (fun p hp => ?_) ?_
      · obtain ⟨j, t, hj, hja, rfl⟩ := mem_pairs f ts 0 p hp
        obtain ⟨i, hi⟩ := Option.isSome_iff_exists.1 hja
        have := ((h1 j t hj).held (alive j t hj)).1 i hi
        rw [Nat.zero_add]
        exact this.1.symm
      · cases hb : (slotsOf ts).contains d with
        | false => exact .inl (hsl d hb).symm
        | true => exact .inr (pairs_slots f d ts 0 (by simpa using hb))
    rw [← hc]
    refine hfin w' f hw (known_of (ts := ts) (fun k t hk => ?_) ts 0 fun j => by rw [Nat.zero_add])
    obtain ⟨p1, p2, p3⟩ := (h1 k t hk).held (alive k t hk)
    rw [adone k t hk] at p3
    refine ⟨?_, p2, p3, fun j hj => ?_⟩
    · cases ha : t.ai with
      | none => simpa using (h1 k t hk).fix ha
      | some i => simpa using (p1 i ha).2
    · have hjl : j < ts.length := Nat.lt_trans hj (List.getElem?_eq_some_iff.1 hk).1
      exact h2 j k _ t (List.getElem?_eq_getElem hjl) hk (by omega) (alive _ _ (List.getElem?_eq_getElem hjl)) (alive k t hk)

theorem wp_region_vars {id : Nat} {l : List Oper} (m : List Bool) (O : List Nat) (ts : List Tgt) {w : World} {a : Act} (F : Act) {Q : Exit → Act → World → Prop} (hm : P.follows .mixedOrders = true)
    (hB : calmB l m (slotsOf ts) = true) (hT : tgtB l m (slotsOf ts) ts = true)
    (H : ∀ x, Calm O w x → wpQuiet P (eraseM m l).toArray (fun w' => ∃ y : Wx x, w' = y.val) (fun a' => a' = F) (eraseM m l) a)
    (hok : ∀ t ∈ ts, TgtOk P l (slotsOf ts) O w a F t) (hdis : ∀ (k k' : Nat) (t t' : Tgt), ts[k]? = some t → ts[k']? = some t' → k ≠ k' → t.ai = none → t'.ai = none → t.b ≠ t'.b)
    (hfin : ∀ (w' : World) (f : Nat → Nat), Calm O w w' → Known w w' f 0 ts → Q .normal (putAll F (pairs f 0 ts)) w') :
    (Code.region id l.toArray true).wp P Q a w :=
  wp_region_vars_gen m O ts F hm hB hT (fun x => Calm O w x) (Calm.refl _ _) (fun _ _ _ _ _ _ _ h _ => h) H hok hdis hfin

/-- the same, where all that makes or stores waits for all else: what is stored into may be read -/
theorem wp_region_vars_early {id : Nat} {l : List Oper} (n : Nat) (m : List Bool) (O : List Nat) (ts : List Tgt) {w : World} {a : Act} (F : Act) {Q : Exit → Act → World → Prop} (hm : P.follows .mixedOrders = true)
    (hB : calmB l m (slotsOf ts) = true) (hT : tgtB l m (slotsOf ts) ts = true)
    (hE : earlyB l m n = true) (hml : decide (m.length ≤ l.length) = true)
    (H : ∀ x, Ext w x → wpQuiet P (eraseM m l).toArray (fun w' => ∃ y : Wx x, w' = y.val) (fun a' => a' = F) (eraseM m l) a)
    (hok : ∀ t ∈ ts, TgtOk P l (slotsOf ts) O w a F t) (hdis : ∀ (k k' : Nat) (t t' : Tgt), ts[k]? = some t → ts[k']? = some t' → k ≠ k' → t.ai = none → t'.ai = none → t.b ≠ t'.b)
    (hfin : ∀ (w' : World) (f : Nat → Nat), Calm O w w' → Known w w' f 0 ts → Q .normal (putAll F (pairs f 0 ts)) w') :
    (Code.region id l.toArray true).wp P Q a w :=
  wp_region_vars_gen m O ts F hm hB hT (fun x => Ext w x) (Ext.refl _) (fun listed i u h1 h2 h3 h4 _ h6 => early_spec hE (O := O) (of_decide_eq_true hml) listed i u h1 h2 h3 h4 h6) H hok hdis hfin

/-- a value is stored whole at an offset of a block that is known -/
theorem run_store_row {o : Oper} {ρ : Operand → Value} {u : World} {T0 T : TypeId} {p x : Operand} {bk off : Nat} {v : Value} {z : Array Value} (ho : o.op = .store T0 p x) (hp : ρ p = .pointer (some ⟨bk, off, none⟩)) (hx : ρ x = v)
    (hi : (P.info? T0).map (·.size) = some v.cells.size) (h1 : v.cells.all (·.oneCell') = true) (hz : off + v.cells.size ≤ z.size) (hg : u.heap[bk]? = some (.cells z T (0, 0))) :
    (execOp ρ o).run P u = .ok .skip (u.setRow bk (z.toList.take off ++ v.cells.toList ++ z.toList.drop (off + v.cells.size)).toArray) := by
  have hc := run_storeCells_at P bk off T v.cells.toList 0 z u hg (by simpa using hz) (fun y hy => Array.all_eq_true_iff_forall_mem.1 h1 y (by simpa using hy))
  have hv : (storeVar T0 ⟨bk, off, none⟩ v).run P u = .ok () (u.setRow bk (z.toList.take off ++ v.cells.toList ++ z.toList.drop (off + v.cells.size)).toArray) := by
    cases hq : P.info? T0 with
    | none => rw [hq] at hi; cases hi
    | some ti =>
      rw [hq] at hi
      have hsz : ti.size = v.cells.size := by simpa using hi
      simp only [storeVar, sizeOf, typeInfo]
      simp [go_sem, hq, hsz]
      simpa [go_sem] using hc
  unfold execOp
  simp only [ho, hp, hx, Instr.storeAt, Instr.sureAddr, Sem.run_bind, Sem.run_pure, Result.andThen_ok, hv]
end

end Go.Proofs.Ytglehnmkdapnpaa

namespace Go.Proofs.Ytglehnmkdapnpaa
open Go.RowKit
set_option linter.unusedVariables false

theorem Blk.range {w : World} {b : Nat} {z : Array Value} {T : TypeId} (h : Blk w b z T) : w.rangeAt b 0 z.toList := fun j v hv => by
  rw [Nat.zero_add, h.cell j]
  simpa using hv
theorem Blk.setRow {w : World} {b : Nat} {z : Array Value} {T : TypeId} (h : Blk w b z T) (cs : Array Value) : Blk (w.setRow b cs) b cs T := heap_setRow_eq cs h
theorem Blk.farRow {w : World} {b : Nat} {z : Array Value} {T : TypeId} (h : Blk w b z T) {g : Nat} (hg : b ≠ g) (cs : Array Value) : Blk (w.setRow g cs) b z T := (heap_setRow_ne w g b cs hg).trans h
theorem Ext.setRow {a w : World} (h : Ext a w) {g : Nat} (hg : a.heap.size ≤ g) (cs : Array Value) : Ext a (w.setRow g cs) :=
  ⟨⟨h.bel.os, h.bel.tape, h.bel.output, by rw [size_setRow]; exact h.size, fun k hk => (heap_setRow_ne _ _ _ _ (by omega)).trans (h.bel.block k hk)⟩⟩

theorem Blk.calm {O : List Nat} {w w' : World} {b : Nat} {z : Array Value} {T : TypeId} (h : Blk w b z T) (hw : Calm O w w') (hO : b ∉ O) : Blk w' b z T := (hw.block b h.lt hO).trans h
/-- a callee that makes memory, in a calm region -/
theorem calm_of {P : Program} {f : FuncId} {args : Array Value} {x : World} {y : Wx x} {v : Value} (h : Calls P f args y.val fun e w' => e = .returned v ∧ Ext y.val w') : Calls P f args y.val fun e w'' => e = .returned v ∧ ∃ z : Wx x, w'' = z.val :=
  h.mono fun _ w' ⟨he, hw⟩ => ⟨he, ⟨w', y.ext.trans hw⟩, rfl⟩
/-- .. that leaves the world alone -/
theorem calm_eq {P : Program} {f : FuncId} {args : Array Value} {x : World} {y : Wx x} {v : Value} (h : Calls P f args y.val fun e w' => e = .returned v ∧ y.val = w') : Calls P f args y.val fun e w'' => e = .returned v ∧ ∃ z : Wx x, w'' = z.val :=
  h.mono fun _ w' ⟨he, hw⟩ => ⟨he, y, hw.symm⟩
/-- .. that only draws -/
theorem calm_qt {P : Program} {f : FuncId} {args : Array Value} {x : World} {y : Wx x} {v : Value} (h : Calls P f args y.val fun e w' => e = .returned v ∧ Qt y.val w') : Calls P f args y.val fun e w'' => e = .returned v ∧ ∃ z : Wx x, w'' = z.val :=
  h.mono fun _ w' ⟨he, hw⟩ => ⟨he, ⟨w', y.ext.qt hw⟩, rfl⟩

section
variable {P : Program} {ops : Array Oper} {rest : List Oper} {op : Oper} {a : Act} {w : World}

theorem wpList_load_blk {Q : Exit → Act → World → Prop} (hgd : op.guard = none) (ty : TypeId) (x : Operand) (ho : op.op = .load ty x) (b : Nat) (hx : a.eval x = .pointer (some ⟨b, 0, none⟩)) {z : Array Value} {T : TypeId} (hB : Blk w b z T)
    {d : TypeDesc} (hu : P.underlying ty = some d) (hd : d.isRow = true) (hi : (P.info? ty).map (·.size) = some z.size) (h : wpList P ops Q rest (a.put op.dst (.agg z)) w) : wpList P ops Q (op :: rest) a w :=
  wpList_load_mid hgd ty x ho b 0 hx z.toList d hB.range hu hd (by simpa using hi) (by simpa using h)

theorem run_store_blk {ρ : Operand → Value} {T0 T : TypeId} {p x : Operand} {b : Nat} {cs z : Array Value} (ho : op.op = .store T0 p x) (hp : ρ p = .pointer (some ⟨b, 0, none⟩)) (hx : ρ x = .agg cs)
    (hi : (P.info? T0).map (·.size) = some cs.size) (h1 : cs.all (·.oneCell') = true) (hz : z.size = cs.size) (hB : Blk w b z T) : (execOp ρ op).run P w = .ok .skip (w.setRow b cs) := by
  have h := run_store_row (P := P) (off := 0) ho hp hx (by simpa [Value.cells] using hi) (by simpa [Value.cells] using h1) (by simp [Value.cells, hz]) hB
  rw [h]
  congr 2
  apply Array.toList_inj.1
  simp [Value.cells, ← hz]

theorem wpList_store_blk {Q : Exit → Act → World → Prop} (hgd : op.guard = none) (ty : TypeId) (x y : Operand) (ho : op.op = .store ty x y) (b : Nat) (hx : a.eval x = .pointer (some ⟨b, 0, none⟩)) {cs : Array Value} (hy : a.eval y = .agg cs) {z : Array Value} {T : TypeId} (hB : Blk w b z T)
    (hi : (P.info? ty).map (·.size) = some cs.size) (h1 : cs.all (·.oneCell') = true) (hz : z.size = cs.size) (h : wpList P ops Q rest (a.put op.dst undef) (w.setRow b cs)) : wpList P ops Q (op :: rest) a w :=
  wpList_plain hgd fun K hK => by
    unfold Oper.wp
    rw [run_store_blk ho hx hy hi h1 hz hB]
    exact hK _ _ h

/-- a result that lies in a block that is known -/
theorem results_blk {fn : Func} {t : Tmp} {ty : TypeId} (h : fn.results = #[.cell t ty]) {tmps : Array Value} {b : Nat} (ht : tmps.getD t undef = .pointer (some ⟨b, 0, none⟩)) {z : Array Value} {T : TypeId} (hB : Blk w b z T)
    {d : TypeDesc} (hu : P.underlying ty = some d) (hd : d.isRow = true) (hi : (P.info? ty).map (·.size) = some z.size) : (results fn tmps).run P w = .ok (.agg z) w := by
  have hl := run_loadVar_mid (P := P) w b 0 ty z.toList d hB.range hu hd (by simpa using hi)
  have ht' : tmps[t]?.getD undef = .pointer (some ⟨b, 0, none⟩) := by simpa using ht
  simp [results, h, ht', asAddr, hl]

/-- a load in a calm region -/
theorem quiet_load_blk {C : World → Prop} {K : Act → Prop} (ty : TypeId) (x : Operand) (ho : op.op = .load ty x) (b : Nat) (hx : a.eval x = .pointer (some ⟨b, 0, none⟩)) {z : Array Value} {T : TypeId} (hB : ∀ u, C u → Blk u b z T)
    {d : TypeDesc} (hu : P.underlying ty = some d) (hd : d.isRow = true) (hi : (P.info? ty).map (·.size) = some z.size) (h : K (a.put op.dst (.agg z))) : op.quiet P a C K := by
  refine ⟨.agg z, fun u hu' => ?_, h⟩
  have hl := run_loadVar_mid (P := P) u b 0 ty z.toList d (hB u hu').range hu hd (by simpa using hi)
  unfold Oper.quietAt execOp
  simp only [ho, hx, Instr.loadAt, Instr.sureAddr, Sem.run_bind, Sem.run_pure, Result.andThen_ok, hl]
  exact ⟨rfl, by simp⟩

/-- a region without marked operations, by the other check -/
theorem wp_region_reads2 {id : Nat} {l : List Oper} {Q : Exit → Act → World → Prop} (F : Act) (hm : P.follows .mixedOrders = true) (hB : calmB l [] [] = true)
    (H : ∀ x, Ext w x → wpQuiet P l.toArray (fun w' => ∃ y : Wx x, w' = y.val) (fun a' => a' = F) l a) (hfin : ∀ w', Ext w w' → Q .normal F w') : (Code.region id l.toArray true).wp P Q a w := by
  refine wp_region_calm [] [] [] F (fun _ _ _ => True) hm hB (fun x hx => H x hx.ext) trivial (fun _ _ _ _ _ _ _ _ _ _ _ _ => trivial) (fun _ _ _ i _ _ h => (by simp at h)) (fun c w' hw hd hs hsl _ => ?_)
  have e : c = F := act_ext hd hs fun d _ => hsl d rfl
  rw [e]
  exact hfin w' hw.ext

/-- a variable that the region makes and stores into, whole -/
theorem tgt_fresh {l : List Oper} {bs : List Tmp} {O : List Nat} {F : Act} {i j : Nat} {s x : Tmp} {T Ts : TypeId} {z z' : Array Value} {oa os : Oper} (hs : s < a.tmps.size) (ha : l[i]? = some oa) (hoa : oa.op = .alloc T)
    (hmk : ∀ u, (Instr.alloc T true (.tuple #[])).run P u = .ok (.pointer (some ⟨u.heap.size, 0, none⟩)) (u.alloc (.cells z T))) (hj : l[j]? = some os) (hos : os.op = .store Ts (.tmp s) (.tmp x)) (hxb : bs.contains x = false) (hx : slot F x = .agg z')
    (hi : (P.info? Ts).map (·.size) = some z'.size) (h1 : z'.all (·.oneCell') = true) (hz : z.size = z'.size) : TgtOk P l bs O w a F ⟨some i, s, 0, some j, T, z, z'⟩ := by
  refine ⟨fun k hk => ?_, fun h => (by cases h), fun k hk => ?_⟩
  · cases hk
    refine ⟨hs, oa, ha, fun c u => ?_⟩
    unfold execOp
    simp only [hoa, Sem.run_bind, hmk u, Result.andThen_ok, Sem.run_pure]
  · cases hk
    refine ⟨os, hj, fun c u bk hs' _ hl hg => ?_⟩
    refine run_store_blk hos (hs' rfl) ?_ hi h1 hz hg
    have hm : x ∈ os.looksAt l.toArray := List.mem_append_left _ (List.mem_filterMap.2 ⟨.tmp x, by simp [hos, Op.operands], rfl⟩)
    exact (hl x hm hxb).trans hx
end

end Go.Proofs.Ytglehnmkdapnpaa

namespace Go.Proofs.Ytglehnmkdapnpaa
open Go.RowKit
set_option linter.unusedVariables false

theorem Ext.calm_trans {O : List Nat} {a b c : World} (h : Ext a b) (k : Calm O b c) (hO : ∀ g ∈ O, a.heap.size ≤ g) : Ext a c :=
  ⟨⟨k.os.trans h.bel.os, k.tape.trans h.bel.tape, k.output.trans h.bel.output, Nat.le_trans h.size k.size,
    fun i hi => (k.block i (Nat.lt_of_lt_of_le hi h.size) (fun hm => by have := hO i hm; omega)).trans (h.bel.block i hi)⟩⟩

/-- a block of the call's own, stored into at an offset -/
theorem tgt_mine {P : Program} {l : List Oper} {bs : List Tmp} {O : List Nat} {w : World} {a F : Act} {j : Nat} {x y : Tmp} {b off : Nat} {T Ts : TypeId} {v : Value} {z z' : Array Value} {os : Oper} (hO : b ∈ O) (hB : Blk w b z T) (hj : l[j]? = some os)
    (hos : os.op = .store Ts (.tmp x) (.tmp y)) (hxb : bs.contains x = false) (hyb : bs.contains y = false) (hx : slot F x = .pointer (some ⟨b, off, none⟩)) (hy : slot F y = v) (hi : (P.info? Ts).map (·.size) = some v.cells.size) (h1 : v.cells.all (·.oneCell') = true)
    (hz : off + v.cells.size ≤ z.size) (hz' : (z.toList.take off ++ v.cells.toList ++ z.toList.drop (off + v.cells.size)).toArray = z') : TgtOk P l bs O w a F ⟨none, 0, b, some j, T, z, z'⟩ := by
  refine ⟨fun k hk => (by cases hk), fun _ => ⟨hO, hB.lt, hB⟩, fun k hk => ?_⟩
  cases hk
  refine ⟨os, hj, fun c u bk _ hb hl hg => ?_⟩
  have eb : bk = b := hb rfl
  subst eb
  have m1 : x ∈ os.looksAt l.toArray := List.mem_append_left _ (List.mem_filterMap.2 ⟨.tmp x, by simp [hos, Op.operands], rfl⟩)
  have m2 : y ∈ os.looksAt l.toArray := List.mem_append_left _ (List.mem_filterMap.2 ⟨.tmp y, by simp [hos, Op.operands], rfl⟩)
  have h := run_store_row (P := P) (ρ := c.eval) (u := u) hos ((hl x m1 hxb).trans hx) ((hl y m2 hyb).trans hy) hi h1 hz hg
  rw [h, hz']

end Go.Proofs.Ytglehnmkdapnpaa

namespace Go.Proofs.Ytglehnmkdapnpaa
open Go.RowKit
set_option linter.unusedVariables false
/-- what has come up, one more -/
def upd (L : Nat → Bool) (k : Nat) : Nat → Bool := fun j => decide (k = j) || L j
theorem upd_eq {listed : Array Bool} {k : Nat} (hk : k < listed.size) : (fun j => (listed.setIfInBounds k true).getD j false) = upd (fun j => listed.getD j false) k := by
  funext j
  unfold upd
  by_cases h : k = j
  · subst h
    simp [hk]
  · simp [h, Array.getD_eq_getD_getElem?, Array.getElem?_setIfInBounds_ne h]
theorem wp_enter {P : Program} {o : Oper} {c : Act} {u : World} {K : Act → World → Prop} {Q : Exit → Act → World → Prop} {f : FuncId} {args : Array Value} {R : Ending → World → Prop}
    (ho : (execOp c.eval o).run P u = .ok (.enter f args) u) (h : Calls P f args u R) (hR : ∀ e w', R e w' → ∃ v, e = .returned v ∧ K (c.put o.dst v) w') : o.wp P c u K Q := by
  unfold Oper.wp
  rw [ho, Oper.upon_enter]
  refine h.mono fun e w' he => ?_
  obtain ⟨v, rfl, hk⟩ := hR e w' he
  exact hk
theorem wp_value {P : Program} {o : Oper} {c : Act} {u u' : World} {K : Act → World → Prop} {Q : Exit → Act → World → Prop} {v : Value}
    (ho : (execOp c.eval o).run P u = .ok (.value v) u') (h : K (c.put o.dst v) u') : o.wp P c u K Q := by
  unfold Oper.wp
  rw [ho, Oper.upon_value]
  exact h
theorem wp_skip {P : Program} {o : Oper} {c : Act} {u u' : World} {K : Act → World → Prop} {Q : Exit → Act → World → Prop}
    (ho : (execOp c.eval o).run P u = .ok .skip u') (h : K (c.put o.dst undef) u') : o.wp P c u K Q := by
  unfold Oper.wp
  rw [ho, Oper.upon_skip]
  exact h
theorem eval_slot (c : Act) (k : Tmp) : c.eval (.tmp k) = slot c k := by simp [Act.eval, slot]
theorem slot_puts (c : Act) : ∀ (bs : List Tmp) (F : Act) (d : Tmp), slot (bs.foldl (fun a d => a.put (some d) (slot c d)) F) d = if d ∈ bs ∧ d < F.tmps.size then slot c d else slot F d
  | [], F, d => by simp
  | b :: bs, F, d => by
    rw [List.foldl_cons, slot_puts c bs (F.put (some b) (slot c b)) d, size_put]
    by_cases h1 : d ∈ bs ∧ d < F.tmps.size
    · rw [if_pos h1, if_pos ⟨List.mem_cons_of_mem _ h1.1, h1.2⟩]
    · rw [if_neg h1]
      by_cases h2 : d = b
      · subst h2
        by_cases h3 : d < F.tmps.size
        · rw [if_pos ⟨List.mem_cons_self, h3⟩, slot_put_eq h3]
        · rw [if_neg (fun h => h3 h.2), slot_out (by rw [size_put]; exact Nat.le_of_not_lt h3), slot_out (Nat.le_of_not_lt h3)]
      · rw [slot_put_ne (fun e => h2 (Option.some.inj e).symm), if_neg (fun h => ?_)]
        rcases List.mem_cons.1 h.1 with e | e
        · exact h2 e
        · exact h1 ⟨e, h.2⟩
theorem size_puts (c : Act) : ∀ (bs : List Tmp) (F : Act), (bs.foldl (fun a d => a.put (some d) (slot c d)) F).tmps.size = F.tmps.size ∧ (bs.foldl (fun a d => a.put (some d) (slot c d)) F).defers = F.defers
  | [], F => ⟨rfl, rfl⟩
  | b :: bs, F => by
    obtain ⟨h1, h2⟩ := size_puts c bs (F.put (some b) (slot c b))
    rw [List.foldl_cons, h1, h2, size_put, defers_put]
    exact ⟨rfl, rfl⟩
/-- a frame that is F but for some slots -/
theorem act_puts (bs : List Tmp) {c F : Act} (hd : c.defers = F.defers) (hs : c.tmps.size = F.tmps.size) (h : ∀ d, bs.contains d = false → slot c d = slot F d) : c = bs.foldl (fun a d => a.put (some d) (slot c d)) F := by
  obtain ⟨h1, h2⟩ := size_puts c bs F
  refine act_ext (hd.trans h2.symm) (hs.trans h1.symm) (fun d hdd => ?_)
  rw [slot_puts]
  by_cases hb : d ∈ bs
  · rw [if_pos ⟨hb, by rw [h1] at hdd; exact hdd⟩]
  · rw [if_neg (fun e => hb e.1)]
    exact h d (by simpa using hb)
end Go.Proofs.Ytglehnmkdapnpaa

namespace Go.Proofs.Ytglehnmkdapnpaa
open Go.RowKit
set_option linter.unusedVariables false
section
variable {P : Program}
/-- what an operation comes to, in whatever frame gives its operands so -/
def Gives (P : Program) (o : Oper) (A : Act) (u : World) (R : Value → World → Prop) : Prop :=
  ∀ (c : Act) (Q : Exit → Act → World → Prop), execOp c.eval o = execOp A.eval o → o.wp P c u (fun c' w' => ∃ v, c' = c.put o.dst v ∧ R v w') Q
theorem gives_enter {o : Oper} {A : Act} {u : World} {R : Value → World → Prop} {f : FuncId} {args : Array Value} {S : Ending → World → Prop}
    (ho : (execOp A.eval o).run P u = .ok (.enter f args) u) (h : Calls P f args u S) (hR : ∀ e w', S e w' → ∃ v, e = .returned v ∧ R v w') : Gives P o A u R := fun c Q he =>
  wp_enter (by rw [he]; exact ho) h fun e w' s => by
    obtain ⟨v, h1, h2⟩ := hR e w' s
    exact ⟨v, h1, v, rfl, h2⟩
theorem gives_value {o : Oper} {A : Act} {u u' : World} {R : Value → World → Prop} {v : Value} (ho : (execOp A.eval o).run P u = .ok (.value v) u') (h : R v u') : Gives P o A u R := fun c Q he =>
  wp_value (by rw [he]; exact ho) ⟨v, rfl, h⟩
theorem gives_skip {o : Oper} {A : Act} {u u' : World} {R : Value → World → Prop} (ho : (execOp A.eval o).run P u = .ok .skip u') (h : R undef u') : Gives P o A u R := fun c Q he =>
  wp_skip (by rw [he]; exact ho) ⟨undef, rfl, h⟩

/-- the marked operations, one behind the other, in worlds that may have grown in between -/
def tailW (P : Program) (O : List Nat) (w0 : World) (K : Act → World → Prop) : List Oper → Act → World → Prop
  | [], A, u => ∀ u', Ext u u' → Calm O w0 u' → K A u'
  | o :: r, A, u => ∀ u', Ext u u' → Calm O w0 u' → Gives P o A u' (fun v w' => Calm O w0 w' ∧ tailW P O w0 K r (A.put o.dst v) w')
theorem tailW_ext {O : List Nat} {w0 : World} {K : Act → World → Prop} {l : List Oper} {A : Act} {u u' : World} (h : tailW P O w0 K l A u) (x : Ext u u') : tailW P O w0 K l A u' := by
  cases l with
  | nil => exact fun u2 x2 => h u2 (x.trans x2)
  | cons o r => exact fun u2 x2 => h u2 (x.trans x2)

def marks (l : List Oper) (m : List Bool) : List Nat := (List.range l.length).filter fun i => m.getD i false
def tailB (l : List Oper) (m : List Bool) (bs : List Tmp) (n : Nat) : Bool :=
  ((marks l m).all fun i => (marks l m).all fun j => !decide (i < j) || befB l n i j) &&
  (bs.all fun d => (marks l m).any fun i => (l[i]?).bind (·.dst) == some d) &&
  (marks l m).all fun j => match l[j]? with
    | some o => (o.looksAt l.toArray).all fun d => !bs.contains d || (marks l m).any fun i => decide (i < j) && (l[i]?).bind (·.dst) == some d
    | none => true
theorem mem_marks {l : List Oper} {m : List Bool} {i : Nat} : i ∈ marks l m ↔ i < l.length ∧ m.getD i false = true := by
  simp [marks]
theorem marks_sorted (l : List Oper) (m : List Bool) : (marks l m).Pairwise (· < ·) := List.Pairwise.filter _ List.pairwise_lt_range
theorem dst_of {l : List Oper} {i : Nat} {d : Tmp} (h : ((l[i]?).bind (·.dst) == some d) = true) : ∃ o, l[i]? = some o ∧ o.dst = some d := by
  cases hi : l[i]? with
  | none => rw [hi] at h; simp at h
  | some o => rw [hi] at h; exact ⟨o, rfl, by simpa using h⟩

structure JTail (P : Program) (l : List Oper) (m : List Bool) (bs : List Tmp) (O : List Nat) (w0 : World) (F : Act) (K : Act → World → Prop) (listed : Array Bool) (c : Act) (u : World) : Prop where
  closed : ∀ j oj, l[j]? = some oj → listed.getD j false = true → ∀ e ∈ oj.after, Region.binds .any e = true → listed.getD e.on false = true
  rest : ∃ (dn rem : List Nat) (A : Act), dn ++ rem = marks l m ∧ (∀ i ∈ dn, listed.getD i false = true) ∧ (∀ i ∈ rem, listed.getD i false = false) ∧
    tailW P O w0 K (rem.filterMap (l[·]?)) A u ∧ A.defers = F.defers ∧ A.tmps.size = F.tmps.size ∧ (∀ d, bs.contains d = false → slot A d = slot F d) ∧
    (∀ i ∈ dn, ∀ o d, l[i]? = some o → o.dst = some d → slot A d = slot c d)

theorem wp_region_tail_gen {id : Nat} {l : List Oper} (n : Nat) (m : List Bool) (bs : List Tmp) (O : List Nat) {w : World} {a : Act} (F : Act) {Q : Exit → Act → World → Prop} (hm : P.follows .mixedOrders = true)
    (hB : calmB l m bs = true) (hT : tailB l m bs n = true) (hF : F.tmps.size = a.tmps.size) (D : World → Prop) (D0 : D w) (HD : ∀ (listed : Array Bool) (i : Nat) (u : World), m.getD i false = false → listed.getD i false = false → i < l.length →
      (∀ j oj, l[j]? = some oj → listed.getD j false = true → ∀ e ∈ oj.after, Region.binds .any e = true → listed.getD e.on false = true) → Calm O w u → ((∀ k, m.getD k false = true → listed.getD k false = false) → Ext w u) → D u)
    (H : ∀ x, D x → wpQuiet P (eraseM m l).toArray (fun w' => ∃ y : Wx x, w' = y.val) (fun a' => a' = F) (eraseM m l) a)
    (T : tailW P O w (fun A u => Q .normal A u) ((marks l m).filterMap (l[·]?)) F w) :
    (Code.region id l.toArray true).wp P Q a w := by
  simp only [tailB, Bool.and_eq_true, List.all_eq_true] at hT
  obtain ⟨⟨t1, t2⟩, t3⟩ := hT
  obtain ⟨hsel, hsp⟩ := calmB_spec hB
  have step : ∀ (listed : Array Bool) (i : Nat), i ∈ Region.ready .any l.toArray listed → (∀ j oj, l[j]? = some oj → listed.getD j false = true → ∀ e ∈ oj.after, Region.binds .any e = true → listed.getD e.on false = true) →
      ∀ j oj, l[j]? = some oj → (listed.setIfInBounds i true).getD j false = true → ∀ e ∈ oj.after, Region.binds .any e = true → (listed.setIfInBounds i true).getD e.on false = true := by
    intro listed i hr hc j oj hj hl e he hb
    obtain ⟨hun, oi, hoi, hall⟩ := mem_ready.1 hr
    rw [List.getElem?_toArray] at hoi
    by_cases hij : i = j
    · subst hij
      have : oj = oi := Option.some.inj (hj.symm.trans hoi)
      subst this
      exact getD_set_true (hall e he hb)
    · rw [getD_set_ne false hij] at hl
      exact getD_set_true (hc j oj hj hl e he hb)
  refine wp_region_calm_gen m bs O F (fun listed c u => JTail P l m bs O w F (fun A u => Q .normal A u) listed c u) hm hB D D0 (fun listed i u a b c d e f _ => HD listed i u a b c d e f) H ?_ ?_ ?_ ?_
  · exact ⟨fun j oj _ hl => (by rw [rep_false] at hl; cases hl), [], marks l m, F, rfl, (fun i hi => by cases hi), (fun i _ => rep_false _ _), tailW_ext T (Ext.refl w).drew, rfl, rfl, fun _ _ => rfl, fun i hi => by cases hi⟩
  · intro listed c u u' i o v hi hmi hr x hJ
    obtain ⟨hc, dn, rem, A, h1, h2, h3, h4, h5, h6, h7, h8⟩ := hJ
    refine ⟨step listed i hr hc, dn, rem, A, h1, fun j hj => getD_set_true (h2 j hj), fun j hj => ?_, tailW_ext h4 x, h5, h6, h7, fun j hj oj d hoj hd => ?_⟩
    · have hne : i ≠ j := fun e => by
        subst e
        have := (mem_marks.1 (h1 ▸ List.mem_append_right dn hj)).2
        rw [hmi] at this
        cases this
      rw [getD_set_ne false hne]
      exact h3 j hj
    · have hne : i ≠ j := fun e => by
        subst e
        have := (mem_marks.1 (h1 ▸ List.mem_append_left rem hj)).2
        rw [hmi] at this
        cases this
      rw [slot_put_ne ((hsp j oj hoj).one i o d hi hne hd)]
      exact h8 j hj oj d hoj hd
  · intro listed c u i o hi hmi hr hw hJ hsz hlook
    obtain ⟨hc, dn, rem, A, h1, h2, h3, h4, h5, h6, h7, h8⟩ := hJ
    obtain ⟨hun, oi, hoi, hall⟩ := mem_ready.1 hr
    obtain ⟨hunf, hlt⟩ := getD_f hun
    have hil : i < l.length := (List.getElem?_eq_some_iff.1 hi).1
    have hiM : i ∈ dn ++ rem := by rw [h1]; exact mem_marks.2 ⟨hil, hmi⟩
    have hirem : i ∈ rem := by
      rcases List.mem_append.1 hiM with h | h
      · have := h2 i h
        rw [hunf] at this
        cases this
      · exact h
    have hsort : (dn ++ rem).Pairwise (· < ·) := h1 ▸ marks_sorted l m
    obtain ⟨i0, r, rfl⟩ : ∃ i0 r, rem = i0 :: r := by
      cases rem with
      | nil => cases hirem
      | cons x y => exact ⟨x, y, rfl⟩
    have hs2 := List.pairwise_append.1 hsort
    have hi0M : i0 ∈ marks l m := by rw [← h1]; simp
    have e0 : i0 = i := by
      rcases List.mem_cons.1 hirem with h | h
      · exact h.symm
      · exfalso
        have hlt0 : i0 < i := (List.pairwise_cons.1 hs2.2.1).1 i h
        have hb := t1 i0 hi0M i (mem_marks.2 ⟨hil, hmi⟩)
        simp only [hlt0, decide_true, Bool.not_true, Bool.false_or] at hb
        have hl2 := befB_spec (step listed i hr hc) n i0 i hil hb (getD_at hlt)
        rw [getD_set_ne false (by omega)] at hl2
        have := h3 i0 (by simp)
        rw [hl2] at this
        cases this
    subst e0
    have hops : (i0 :: r).filterMap (l[·]?) = o :: r.filterMap (l[·]?) := by simp [hi]
    rw [hops] at h4
    have hsame : ∀ d ∈ o.looksAt l.toArray, slot c d = slot A d := by
      intro d hd
      cases hb : bs.contains d with
      | false => rw [hlook d hd hb, h7 d hb]
      | true =>
        have := t3 i0 hi0M
        rw [hi] at this
        have := List.all_eq_true.1 this d hd
        simp only [hb, Bool.not_true, Bool.false_or] at this
        obtain ⟨j, hjM, hj⟩ := List.any_eq_true.1 this
        simp only [Bool.and_eq_true, decide_eq_true_eq] at hj
        obtain ⟨oj, hoj, hjd⟩ := dst_of hj.2
        have hjdn : j ∈ dn := by
          rw [← h1] at hjM
          rcases List.mem_append.1 hjM with h | h
          · exact h
          · exfalso
            rcases List.mem_cons.1 h with h | h
            · omega
            · have := (List.pairwise_cons.1 hs2.2.1).1 j h
              omega
        exact (h8 j hjdn oj d hoj hjd).symm
    have hex : execOp c.eval o = execOp A.eval o := execOp_congr o (fun cs bb => Region.noSelect_spec hsel i0 o cs bb (by rw [List.getElem?_toArray]; exact hi)) fun x hx => by
      cases x with
      | tmp t => exact hsame t (List.mem_append_left _ (List.mem_filterMap.2 ⟨.tmp t, by simpa using hx, rfl⟩))
      | _ => rfl
    refine Oper.wp_mono (fun c' w' hh => ?_) (h4 u (Ext.refl u) hw c Q hex)
    obtain ⟨v, rfl, hcw, ht⟩ := hh
    refine ⟨v, rfl, hcw, step listed i0 hr hc, dn ++ [i0], r, A.put o.dst v, by rw [List.append_assoc]; exact h1, fun j hj => ?_, fun j hj => ?_, ht, by rw [defers_put, h5], by rw [size_put, h6], fun d hd => ?_, fun j hj oj d hoj hd => ?_⟩
    · rcases List.mem_append.1 hj with h | h
      · exact getD_set_true (h2 j h)
      · rw [List.mem_singleton.1 h]; exact getD_at hlt
    · have hne : i0 ≠ j := by
        have := (List.pairwise_cons.1 hs2.2.1).1 j hj
        omega
      rw [getD_set_ne false hne]
      exact h3 j (List.mem_cons_of_mem _ hj)
    · have hne : o.dst ≠ some d := fun hod => by
        have := (hsp i0 o hi).own d hod
        rw [hmi, hd] at this
        cases this
      rw [slot_put_ne hne]
      exact h7 d hd
    · rcases List.mem_append.1 hj with h | h
      · have hne : i0 ≠ j := fun e => by
          subst e
          have := hs2.2.2 i0 h i0 (by simp)
          omega
        have h9 := (hsp j oj hoj).one i0 o d hi hne hd
        rw [slot_put_ne h9, slot_put_ne h9]
        exact h8 j h oj d hoj hd
      · have ej := List.mem_singleton.1 h
        subst ej
        have : oj = o := Option.some.inj (hoj.symm.trans hi)
        subst this
        rw [hd]
        rcases Nat.lt_or_ge d c.tmps.size with k | k
        · rw [slot_put_eq k, slot_put_eq (by rw [h6, hF, ← hsz]; exact k)]
        · rw [slot_out (a := A.put (some d) v) (by rw [size_put, h6, hF, ← hsz]; exact k), slot_out (by rw [size_put]; exact k)]
  · intro c u hw hdf hsz hsl hJ
    obtain ⟨hc, dn, rem, A, h1, h2, h3, h4, h5, h6, h7, h8⟩ := hJ
    have hrem : rem = [] := by
      cases rem with
      | nil => rfl
      | cons i r =>
        exfalso
        have hiM : i ∈ marks l m := by rw [← h1]; simp
        have := h3 i (by simp)
        simp [(mem_marks.1 hiM).1] at this
    subst hrem
    have hA : A = c := act_ext (h5.trans hdf.symm) (h6.trans hsz.symm) fun d hd => by
      cases hb : bs.contains d with
      | false => rw [h7 d hb, hsl d hb]
      | true =>
        obtain ⟨j, hjM, hj⟩ := List.any_eq_true.1 (t2 d (by simpa using hb))
        obtain ⟨oj, hoj, hjd⟩ := dst_of hj
        rw [List.append_nil] at h1
        exact h8 j (by rw [h1]; exact hjM) oj d hoj hjd
    subst hA
    exact h4 u (Ext.refl u) hw

theorem wp_region_tail {id : Nat} {l : List Oper} (n : Nat) (m : List Bool) (bs : List Tmp) (O : List Nat) {w : World} {a : Act} (F : Act) {Q : Exit → Act → World → Prop} (hm : P.follows .mixedOrders = true)
    (hB : calmB l m bs = true) (hT : tailB l m bs n = true) (hF : F.tmps.size = a.tmps.size)
    (H : ∀ x, Calm O w x → wpQuiet P (eraseM m l).toArray (fun w' => ∃ y : Wx x, w' = y.val) (fun a' => a' = F) (eraseM m l) a)
    (T : tailW P O w (fun A u => Q .normal A u) ((marks l m).filterMap (l[·]?)) F w) :
    (Code.region id l.toArray true).wp P Q a w :=
  wp_region_tail_gen n m bs O F hm hB hT hF (fun x => Calm O w x) (Calm.refl _ _) (fun _ _ _ _ _ _ _ h _ => h) H T
/-- the marked ones all wait for all others: these see worlds that have only grown -/
theorem wp_region_tail_early {id : Nat} {l : List Oper} (n : Nat) (m : List Bool) (bs : List Tmp) (O : List Nat) {w : World} {a : Act} (F : Act) {Q : Exit → Act → World → Prop} (hm : P.follows .mixedOrders = true)
    (hB : calmB l m bs = true) (hT : tailB l m bs n = true) (hE : earlyB l m n = true) (hml : m.length ≤ l.length) (hF : F.tmps.size = a.tmps.size)
    (H : ∀ x, Ext w x → wpQuiet P (eraseM m l).toArray (fun w' => ∃ y : Wx x, w' = y.val) (fun a' => a' = F) (eraseM m l) a)
    (T : tailW P O w (fun A u => Q .normal A u) ((marks l m).filterMap (l[·]?)) F w) :
    (Code.region id l.toArray true).wp P Q a w :=
  wp_region_tail_gen n m bs O F hm hB hT hF (fun x => Ext w x) (Ext.refl _) (fun listed i u hmi hl hi hc _ hx => early_spec (O := O) hE hml listed i u hmi hl hi hc hx) H T
end
end Go.Proofs.Ytglehnmkdapnpaa

namespace Go.Proofs.Ytglehnmkdapnpaa
open Go.ChangeShapes Go.WideShapes Go.ChangeAt Go.RowKit
set_option linter.unusedVariables false

theorem okWide_array {P : Program} {w : World} {r : Reach} {base : Nat} {t : TypeId} {v : Value} {n : Nat} {e : TypeId} (ht : P.underlying t = some (.array n e)) (h : Value.okWide P w r base t v) : ∃ cs, v = .agg cs ∧ cs.size = P.cellsOf t := by
  simp only [Value.okWide, ht] at h
  obtain ⟨cs, h1, h2, _⟩ := h
  exact ⟨cs, h1, h2⟩

theorem okWide_struct {P : Program} {w : World} {r : Reach} {base : Nat} {t : TypeId} {v : Value} {fs : Array Field} (ht : P.underlying t = some (.struct fs)) (h : Value.okWide P w r base t v) : ∃ cs, v = .agg cs ∧ cs.size = P.cellsOf t := by
  simp only [Value.okWide, ht] at h
  obtain ⟨cs, h1, h2, _⟩ := h
  exact ⟨cs, h1, h2⟩

/-- a type that is made of integers of one kind -/
def intsAt (P : Program) (k : IntKind) : Nat → TypeId → Bool
  | 0, _ => false
  | d + 1, t => match P.underlying t with
    | some (.int k') => k' == k
    | some (.array n e) => decide (P.cellsOf t = n * P.cellsOf e) && intsAt P k d e
    | some (.struct fs) => (fs.toList.all fun f => intsAt P k d f.type) && (List.range (P.cellsOf t)).all fun j => fs.toList.any fun f => decide (f.offset ≤ j) && decide (j < f.offset + P.cellsOf f.type)
    | _ => false

theorem intsAt_cells {H : Type} {enc : TypeId × Value → H} {P : Program} {w : World} {base : Nat} {spare : Nat → Bool} {held : Bool} {k : IntKind} : ∀ (d : Nat) (t : TypeId) (fuel : Nat) (cs : List Value) (x : DataW H × List MemPlace), intsAt P k d t = true →
    DataW.trod enc P w base spare held fuel t cs = some x → ∀ v ∈ cs, ∃ n : Int, v = .int k n ∧ (Lit.int k n).wf = true
  | 0, _, _, _, _, h, _ => by cases h
  | d + 1, t, fuel, cs, x, h, ht => by
    unfold intsAt at h
    split at h
    · rename_i k' hu
      have hk : k' = k := by simpa using h
      subst hk
      obtain ⟨n, rfl, _, hw⟩ := DataW.trod_int hu ht
      intro v hv
      have : v = .int k' n := by simpa using hv
      exact ⟨n, this, hw⟩
    · rename_i n e hu
      simp only [Bool.and_eq_true, decide_eq_true_eq] at h
      obtain ⟨xs, m, _, _, hl, _, hg⟩ := DataW.trod_array hu ht
      intro v hv
      obtain ⟨j, hj, rfl⟩ := List.mem_iff_getElem.1 hv
      rw [hl, h.1] at hj
      have hc : 0 < P.cellsOf e := by
        rcases Nat.eq_zero_or_pos (P.cellsOf e) with h0 | h0
        · rw [h0] at hj; omega
        · exact h0
      have hi : j / P.cellsOf e < n := Nat.div_lt_of_lt_mul (by rw [Nat.mul_comm]; exact hj)
      have hx := hg (j / P.cellsOf e) hi
      have hxi : j / P.cellsOf e < xs.length := by omega
      rw [List.getElem?_eq_getElem hxi] at hx
      refine intsAt_cells d e m _ _ h.2 hx _ ?_
      have hd := Nat.div_add_mod j (P.cellsOf e)
      have hm := Nat.mod_lt j hc
      rw [Nat.mul_comm] at hd
      refine List.mem_iff_getElem?.2 ⟨j % P.cellsOf e, ?_⟩
      rw [List.getElem?_take, if_pos hm, List.getElem?_drop, hd]
      exact List.getElem?_eq_getElem _
    · rename_i fs hu
      simp only [Bool.and_eq_true] at h
      obtain ⟨xs, m, _, _, hl, hlen, hf⟩ := DataW.trod_struct hu ht
      intro v hv
      obtain ⟨j, hj, rfl⟩ := List.mem_iff_getElem.1 hv
      have hj' : j < P.cellsOf t := hl ▸ hj
      obtain ⟨f, hfm, hin⟩ := List.any_eq_true.1 (List.all_eq_true.1 h.2 j (List.mem_range.2 hj'))
      simp only [Bool.and_eq_true, decide_eq_true_eq] at hin
      obtain ⟨i, hi⟩ := List.mem_iff_getElem?.1 hfm
      have hi' : fs[i]? = some f := by simpa using hi
      have hx := hf i f hi'
      have hil : i < fs.size := (Array.getElem?_eq_some_iff.1 hi').1
      have hxi : i < xs.length := by omega
      rw [List.getElem?_eq_getElem hxi] at hx
      refine intsAt_cells d f.type m _ _ (List.all_eq_true.1 h.1 f hfm) hx _ ?_
      refine List.mem_iff_getElem?.2 ⟨j - f.offset, ?_⟩
      rw [List.getElem?_take, if_pos (by omega), List.getElem?_drop, show f.offset + (j - f.offset) = j by omega]
      exact List.getElem?_eq_getElem _
    · cases h

theorem open_ints_agg {H : Type} {enc : TypeId × Value → H} {P : Program} {w : World} {base : Nat} {spare : Nat → Bool} {held : Bool} {k : IntKind} {d : Nat} {t : TypeId} {v : Value} {dt : DataW H} {p : List MemPlace}
    (ht : ∃ cs, v = .agg cs ∧ cs.size = P.cellsOf t) (hk : intsAt P k d t = true) (h : DataW.Trod enc P w base spare held t v dt p) :
    ∃ cs : List Value, v = .agg cs.toArray ∧ cs.length = P.cellsOf t ∧ ∀ u ∈ cs, ∃ n : Int, u = .int k n ∧ (Lit.int k n).wf = true := by
  obtain ⟨cs, rfl, hs⟩ := ht
  obtain ⟨fuel, hf⟩ := h
  exact ⟨cs.toList, by simp, by simpa using hs, intsAt_cells d t fuel _ _ hk hf⟩

set_option maxRecDepth 100000 in
theorem openV {H : Type} {enc : TypeId × Value → H} {w : World} {base : Nat} {spare : Nat → Bool} {held : Bool} {r : Reach} {b0 : Nat} {v : Value} {dt : DataW H} {p : List MemPlace} (hv : Value.okWide Try.prog w r b0 30 v) (h : DataW.Trod enc Try.prog w base spare held 30 v dt p) :
    ∃ x0 x1 x2 x3 : Int, v = .agg #[.int .i64 x0, .int .i64 x1, .int .i64 x2, .int .i64 x3] ∧ (-9223372036854775808 ≤ x0 ∧ x0 ≤ 9223372036854775807) ∧ (-9223372036854775808 ≤ x1 ∧ x1 ≤ 9223372036854775807) ∧ (-9223372036854775808 ≤ x2 ∧ x2 ≤ 9223372036854775807) ∧ (-9223372036854775808 ≤ x3 ∧ x3 ≤ 9223372036854775807) := by
  obtain ⟨cs, rfl, hl, hc⟩ := open_ints_agg (k := .i64) (d := 3) (okWide_array Try.underlying30 hv) (by kernel_rfl) h
  have hl' : cs.length = 4 := hl.trans (by kernel_rfl)
  match cs, hl' with
  | [c0, c1, c2, c3], _ =>
    obtain ⟨x0, rfl, wx0⟩ := hc c0 (by simp)
    obtain ⟨x1, rfl, wx1⟩ := hc c1 (by simp)
    obtain ⟨x2, rfl, wx2⟩ := hc c2 (by simp)
    obtain ⟨x3, rfl, wx3⟩ := hc c3 (by simp)
    exact ⟨x0, x1, x2, x3, rfl, bounds_i64 wx0, bounds_i64 wx1, bounds_i64 wx2, bounds_i64 wx3⟩

set_option maxRecDepth 100000 in
theorem openSm {H : Type} {enc : TypeId × Value → H} {w : World} {base : Nat} {spare : Nat → Bool} {held : Bool} {r : Reach} {b0 : Nat} {v : Value} {dt : DataW H} {p : List MemPlace} (hv : Value.okWide Try.prog w r b0 69 v) (h : DataW.Trod enc Try.prog w base spare held 69 v dt p) :
    ∃ x0 x1 x2 x3 x4 x5 : Int, v = .agg #[.int .i8 x0, .int .i8 x1, .int .i8 x2, .int .i8 x3, .int .i8 x4, .int .i8 x5] ∧ (-128 ≤ x0 ∧ x0 ≤ 127) ∧ (-128 ≤ x1 ∧ x1 ≤ 127) ∧ (-128 ≤ x2 ∧ x2 ≤ 127) ∧ (-128 ≤ x3 ∧ x3 ≤ 127) ∧ (-128 ≤ x4 ∧ x4 ≤ 127) ∧ (-128 ≤ x5 ∧ x5 ≤ 127) := by
  obtain ⟨cs, rfl, hl, hc⟩ := open_ints_agg (k := .i8) (d := 3) (okWide_array Try.underlying69 hv) (by kernel_rfl) h
  have hl' : cs.length = 6 := hl.trans (by kernel_rfl)
  match cs, hl' with
  | [c0, c1, c2, c3, c4, c5], _ =>
    obtain ⟨x0, rfl, wx0⟩ := hc c0 (by simp)
    obtain ⟨x1, rfl, wx1⟩ := hc c1 (by simp)
    obtain ⟨x2, rfl, wx2⟩ := hc c2 (by simp)
    obtain ⟨x3, rfl, wx3⟩ := hc c3 (by simp)
    obtain ⟨x4, rfl, wx4⟩ := hc c4 (by simp)
    obtain ⟨x5, rfl, wx5⟩ := hc c5 (by simp)
    exact ⟨x0, x1, x2, x3, x4, x5, rfl, bounds_i8 wx0, bounds_i8 wx1, bounds_i8 wx2, bounds_i8 wx3, bounds_i8 wx4, bounds_i8 wx5⟩

set_option maxRecDepth 100000 in
theorem openP8 {H : Type} {enc : TypeId × Value → H} {w : World} {base : Nat} {spare : Nat → Bool} {held : Bool} {r : Reach} {b0 : Nat} {v : Value} {dt : DataW H} {p : List MemPlace} (hv : Value.okWide Try.prog w r b0 67 v) (h : DataW.Trod enc Try.prog w base spare held 67 v dt p) :
    ∃ x0 x1 : Int, v = .agg #[.int .i8 x0, .int .i8 x1] ∧ (-128 ≤ x0 ∧ x0 ≤ 127) ∧ (-128 ≤ x1 ∧ x1 ≤ 127) := by
  obtain ⟨cs, rfl, hl, hc⟩ := open_ints_agg (k := .i8) (d := 3) (okWide_array Try.underlying67 hv) (by kernel_rfl) h
  have hl' : cs.length = 2 := hl.trans (by kernel_rfl)
  match cs, hl' with
  | [c0, c1], _ =>
    obtain ⟨x0, rfl, wx0⟩ := hc c0 (by simp)
    obtain ⟨x1, rfl, wx1⟩ := hc c1 (by simp)
    exact ⟨x0, x1, rfl, bounds_i8 wx0, bounds_i8 wx1⟩

set_option maxRecDepth 100000 in
theorem openTr {H : Type} {enc : TypeId × Value → H} {w : World} {base : Nat} {spare : Nat → Bool} {held : Bool} {r : Reach} {b0 : Nat} {v : Value} {dt : DataW H} {p : List MemPlace} (hv : Value.okWide Try.prog w r b0 52 v) (h : DataW.Trod enc Try.prog w base spare held 52 v dt p) :
    ∃ x0 x1 x2 x3 x4 x5 : Int, v = .agg #[.int .i64 x0, .int .i64 x1, .int .i64 x2, .int .i64 x3, .int .i64 x4, .int .i64 x5] ∧ (-9223372036854775808 ≤ x0 ∧ x0 ≤ 9223372036854775807) ∧ (-9223372036854775808 ≤ x1 ∧ x1 ≤ 9223372036854775807) ∧ (-9223372036854775808 ≤ x2 ∧ x2 ≤ 9223372036854775807) ∧ (-9223372036854775808 ≤ x3 ∧ x3 ≤ 9223372036854775807) ∧ (-9223372036854775808 ≤ x4 ∧ x4 ≤ 9223372036854775807) ∧ (-9223372036854775808 ≤ x5 ∧ x5 ≤ 9223372036854775807) := by
  obtain ⟨cs, rfl, hl, hc⟩ := open_ints_agg (k := .i64) (d := 3) (okWide_array Try.underlying52 hv) (by kernel_rfl) h
  have hl' : cs.length = 6 := hl.trans (by kernel_rfl)
  match cs, hl' with
  | [c0, c1, c2, c3, c4, c5], _ =>
    obtain ⟨x0, rfl, wx0⟩ := hc c0 (by simp)
    obtain ⟨x1, rfl, wx1⟩ := hc c1 (by simp)
    obtain ⟨x2, rfl, wx2⟩ := hc c2 (by simp)
    obtain ⟨x3, rfl, wx3⟩ := hc c3 (by simp)
    obtain ⟨x4, rfl, wx4⟩ := hc c4 (by simp)
    obtain ⟨x5, rfl, wx5⟩ := hc c5 (by simp)
    exact ⟨x0, x1, x2, x3, x4, x5, rfl, bounds_i64 wx0, bounds_i64 wx1, bounds_i64 wx2, bounds_i64 wx3, bounds_i64 wx4, bounds_i64 wx5⟩

set_option maxRecDepth 100000 in
theorem openPt {H : Type} {enc : TypeId × Value → H} {w : World} {base : Nat} {spare : Nat → Bool} {held : Bool} {r : Reach} {b0 : Nat} {v : Value} {dt : DataW H} {p : List MemPlace} (hv : Value.okWide Try.prog w r b0 50 v) (h : DataW.Trod enc Try.prog w base spare held 50 v dt p) :
    ∃ x0 x1 : Int, v = .agg #[.int .i64 x0, .int .i64 x1] ∧ (-9223372036854775808 ≤ x0 ∧ x0 ≤ 9223372036854775807) ∧ (-9223372036854775808 ≤ x1 ∧ x1 ≤ 9223372036854775807) := by
  obtain ⟨cs, rfl, hl, hc⟩ := open_ints_agg (k := .i64) (d := 3) (okWide_struct Try.underlying50 hv) (by kernel_rfl) h
  have hl' : cs.length = 2 := hl.trans (by kernel_rfl)
  match cs, hl' with
  | [c0, c1], _ =>
    obtain ⟨x0, rfl, wx0⟩ := hc c0 (by simp)
    obtain ⟨x1, rfl, wx1⟩ := hc c1 (by simp)
    exact ⟨x0, x1, rfl, bounds_i64 wx0, bounds_i64 wx1⟩

set_option maxRecDepth 100000 in
theorem openA4 {H : Type} {enc : TypeId × Value → H} {w : World} {base : Nat} {spare : Nat → Bool} {held : Bool} {r : Reach} {b0 : Nat} {v : Value} {dt : DataW H} {p : List MemPlace} (hv : Value.okWide Try.prog w r b0 29 v) (h : DataW.Trod enc Try.prog w base spare held 29 v dt p) :
    ∃ x0 x1 x2 x3 : Int, v = .agg #[.int .i64 x0, .int .i64 x1, .int .i64 x2, .int .i64 x3] ∧ (-9223372036854775808 ≤ x0 ∧ x0 ≤ 9223372036854775807) ∧ (-9223372036854775808 ≤ x1 ∧ x1 ≤ 9223372036854775807) ∧ (-9223372036854775808 ≤ x2 ∧ x2 ≤ 9223372036854775807) ∧ (-9223372036854775808 ≤ x3 ∧ x3 ≤ 9223372036854775807) := by
  obtain ⟨cs, rfl, hl, hc⟩ := open_ints_agg (k := .i64) (d := 3) (okWide_array Try.underlying29 hv) (by kernel_rfl) h
  have hl' : cs.length = 4 := hl.trans (by kernel_rfl)
  match cs, hl' with
  | [c0, c1, c2, c3], _ =>
    obtain ⟨x0, rfl, wx0⟩ := hc c0 (by simp)
    obtain ⟨x1, rfl, wx1⟩ := hc c1 (by simp)
    obtain ⟨x2, rfl, wx2⟩ := hc c2 (by simp)
    obtain ⟨x3, rfl, wx3⟩ := hc c3 (by simp)
    exact ⟨x0, x1, x2, x3, rfl, bounds_i64 wx0, bounds_i64 wx1, bounds_i64 wx2, bounds_i64 wx3⟩

/-- what a call that leaves all memory that was there alone has done, where marks are known of that memory alone -/
theorem post_of_old {H : Type} {enc : TypeId × Value → H} {P : Program} {f : Func} {s : ChangeSpec} {apart fresh handsOn again : Bool} {W W' : World} {args : Array Value} {v : Value} {ds gs : List (DataW H)} {before pa pv : List MemPlace}
    (hW : DataW.Whole enc P f.params.toList s.vars apart W args.toList ds gs before)
    (hres : ∀ (b : Nat) (sp : Nat → Bool) (hd : Bool), DataW.TrodAll enc P W' b sp hd f.resultTypes.toList (v.resultList f.resultTypes.size) (s.fn H (ds ++ gs)).results [])
    (hargs : ∀ sp : Nat → Bool, (∀ p ∈ before, sp p.block = true) → DataW.TrodAll enc P W' 0 sp true f.params.toList args.toList (s.fn H (ds ++ gs)).args pa)
    (hvars : ∀ sp : Nat → Bool, (∀ p ∈ before, sp p.block = true) → DataW.TrodVars enc P W' sp s.vars (s.fn H (ds ++ gs)).vars pv)
    (hps : before = pa ++ pv) (hk : W.keptBut W' (· ∈ before)) (hfz : ∀ a : Addr, a.block < W.heap.size → W'.frozen? a = W.frozen? a)
    (hok : ∀ (j : Nat) (t : TypeId) (r : Value), f.resultTypes[j]? = some t → (v.resultList f.resultTypes.size)[j]? = some r → Value.okWide P W' .any 0 t r) :
    s.post enc P f apart fresh handsOn again W args v W' := by
  have lt := hW.lt
  have hin : ∀ p, p ∈ before → p ∈ pa ∨ p ∈ pv := fun p hp => by rwa [hps, List.mem_append] at hp
  refine ⟨ds, gs, before, [], pa, pv, hW, hres _ _ _, hargs _ fun p hp => by simpa using lt p hp, hvars _ fun p hp => by simpa using lt p hp, World.keptBut_mono (fun p hp => ⟨hp, .inr (hin p hp)⟩) hk, fun _ => ⟨hok, ?_⟩⟩
  obtain ⟨_, _, _, _, _, hz, hn⟩ := hW
  refine ⟨_, _, pa ++ pv, ⟨[] ++ pa, pv, trodAll_append (hargs _ fun _ _ => rfl) (hres _ _ _), hvars _ fun _ _ => rfl, by simp, fun b off hp => ?_, fun ha => hps ▸ hn ha⟩, fun p hp _ => hps ▸ hp⟩
  have hb : MemPlace.cell b off ∈ before := hps ▸ hp
  rw [hfz _ (lt _ hb)]
  exact hz b off hb

/-- the arguments read behind the call as before it -/
theorem trodAll_stays {H : Type} {enc : TypeId × Value → H} {P : Program} (hl : laidOutB P = true) {W W' : World} (hx : Ext W W') : ∀ (ts : List TypeId) (vs : List Value) (ds : List (DataW H)) (ps : List MemPlace),
    (∀ t ∈ ts, P.readableRec t = true ∧ t < P.types.size) → DataW.TrodAll enc P W 0 (fun _ => true) true ts vs ds ps → (∀ x ∈ ps, x.block < W.heap.size) → ∀ sp : Nat → Bool, (∀ x ∈ ps, sp x.block = true) → DataW.TrodAll enc P W' 0 sp true ts vs ds ps
  | [], vs, ds, ps, _, h, _, sp, _ => by
    obtain ⟨rfl, rfl, rfl⟩ := trodAll_nil h
    exact trodAll_mk0
  | t :: ts, vs, ds, ps, hr, h, hlt, sp, hsp => by
    obtain ⟨v, vs', d, ds', p, q, rfl, rfl, rfl, h0, h1⟩ := trodAll_cons h
    have hp : ∀ x ∈ p, x.block < W.heap.size := fun x hx => hlt x (List.mem_append_left _ hx)
    have h0' := WideElems.Trod_stays (sp' := sp) hl (hr t (List.mem_cons_self ..)).1 (hr t (List.mem_cons_self ..)).2 h0 (fun x hx' => hx.bel.same (hp x hx')) (fun x hx => hsp x (List.mem_append_left _ hx))
    exact trodAll_cons_mk h0' (trodAll_stays hl hx ts vs' ds' q (fun t ht => hr t (List.mem_cons_of_mem _ ht)) h1 (fun x hx => hlt x (List.mem_append_right _ hx)) sp (fun x hx => hsp x (List.mem_append_right _ hx)))

end Go.Proofs.Ytglehnmkdapnpaa

namespace Go.Proofs.Ytglehnmkdapnpaa
open Go.ChangeShapes Go.WideShapes Go.RowKit
set_option linter.unusedVariables false

/-- v is a slice that came in; xs are its numbers -/
structure Arr (w : World) (k : IntKind) (v : Value) (xs : List Int) : Prop where
  slice : ∃ ao cap, v = .slice ao xs.length cap ∧ xs.length ≤ cap ∧ (xs ≠ [] → ∃ b off, ao = some ⟨b, off, none⟩ ∧ ∀ j, j < xs.length → w.cell? ⟨b, off + j, none⟩ = some (.int k (xs.getD j 0))) ∧ (ao = none → cap = 0)
  most : xs.length ≤ maxLen
  wf : ∀ n ∈ xs, (Lit.int k n).wf = true

theorem Arr.ext {w w' : World} {k : IntKind} {v : Value} {xs : List Int} (h : Arr w k v xs) (hx : Ext w w') : Arr w' k v xs := by
  obtain ⟨⟨ao, cap, rfl, hc, h1, h2⟩, h3, h4⟩ := h
  refine ⟨⟨ao, cap, rfl, hc, fun hne => ?_, h2⟩, h3, h4⟩
  obtain ⟨b, off, rfl, hcell⟩ := h1 hne
  exact ⟨b, off, rfl, fun j hj => hx.old (hcell j hj)⟩

theorem open_arr {H : Type} {enc : TypeId × Value → H} {P : Program} {w : World} {base : Nat} {spare : Nat → Bool} {held : Bool} {r : Reach} {b0 : Nat} {k : IntKind} {t e : TypeId} {v : Value} {dt : DataW H} {p : List MemPlace}
    (ht : P.underlying t = some (.slice e)) (he : P.underlying e = some (.int k)) (hc : P.cellsOf e = 1) (hv : Value.okWide P w r b0 t v) (h : DataW.Trod enc P w base spare held t v dt p) : ∃ xs : List Int, Arr w k v xs := by
  obtain ⟨a0, len, cap, rfl⟩ := okWide_slice ht hv
  obtain ⟨fuel, hf⟩ := h
  rcases open_ints ht he hc hf with ⟨hcs, hx⟩ | ⟨a, len', cap', zs, hcs, _, hl, hm, hz, hx, hcell, hwz⟩
  · simp [Value.cells] at hcs
    obtain ⟨rfl, rfl, rfl⟩ := hcs
    exact ⟨[], ⟨⟨none, 0, rfl, Nat.le_refl _, fun h => absurd rfl h, fun _ => rfl⟩, Nat.zero_le _, fun n hn => by cases hn⟩⟩
  · simp [Value.cells] at hcs
    obtain ⟨rfl, rfl, rfl⟩ := hcs
    have hle : len ≤ zs.length := by rw [hz]; split <;> omega
    have hlen : (zs.take len).length = len := by simp [hle]
    refine ⟨zs.take len, ⟨⟨some a, cap, by rw [hlen], by rw [hlen]; exact hl, fun hne => ?_, fun h => by cases h⟩, by rw [hlen]; omega, fun n hn => hwz n (List.mem_of_mem_take hn)⟩⟩
    have hp : 0 < zs.length := by
      rcases Nat.eq_zero_or_pos zs.length with h0 | h0
      · rw [List.eq_nil_of_length_eq_zero h0] at hne; simp at hne
      · exact h0
    obtain ⟨b, off, rfl, hat⟩ := ints_at hcell hp
    refine ⟨b, off, rfl, fun j hj => ?_⟩
    rw [hlen] at hj
    rw [hat j (by omega)]
    simp [List.getD, hj]

end Go.Proofs.Ytglehnmkdapnpaa

namespace Go.Proofs.Ytglehnmkdapnpaa
open Go.RowKit
set_option linter.unusedVariables false

theorem eqInV (d : Nat) (a0 a1 a2 a3 : Int) (w : World) : (Op.equalIn (d + 2) 30 (.agg #[.int .i64 a0, .int .i64 a1, .int .i64 a2, .int .i64 a3]) (.agg #[.int .i64 a0, .int .i64 a1, .int .i64 a2, .int .i64 a3])).run Try.prog w = .ok true w := by
  unfold Op.equalIn
  simp [run_underlying Try.underlying30, go_sem, part, List.range', List.forIn_cons]
theorem eqV (a0 a1 a2 a3 : Int) (w : World) : (Op.equalIn 10000 30 (.agg #[.int .i64 a0, .int .i64 a1, .int .i64 a2, .int .i64 a3]) (.agg #[.int .i64 a0, .int .i64 a1, .int .i64 a2, .int .i64 a3])).run Try.prog w = .ok true w := eqInV 9998 a0 a1 a2 a3 w
end Go.Proofs.Ytglehnmkdapnpaa

