/-
  DERIVED. From a law's walk to its row: arguments that are arrays of integers, opened; what the arguments read as, carried to the world behind the call.
-/
import Derived.Test.YthpobegfiflppaaExt
import Derived.Test.YthpobegfiflppaaRows
import Derived.WalkKit
import Derived.ProofKit
import Derived.OpenShut
import Derived.Carry
namespace Go.Proofs.Ythpobegfiflppaa
open Go.ChangeShapes Go.WideShapes Go.ChangeAt Go.RowKit
set_option linter.unusedVariables false

theorem okWide_array {P : Program} {w : World} {r : Reach} {base : Nat} {t : TypeId} {v : Value} {n : Nat} {e : TypeId} (ht : P.underlying t = some (.array n e)) (h : Value.okWide P w r base t v) : ∃ cs, v = .agg cs ∧ cs.size = P.cellsOf t := by
  simp only [Value.okWide, ht] at h
  obtain ⟨cs, h1, h2, _⟩ := h
  exact ⟨cs, h1, h2⟩

/-- a type that is made of integers of one kind -/
def intsAt (P : Program) (k : IntKind) : Nat → TypeId → Bool
  | 0, _ => false
  | d + 1, t => match P.underlying t with
    | some (.int k') => k' == k
    | some (.array n e) => decide (P.cellsOf t = n * P.cellsOf e) && intsAt P k d e
    | _ => false

theorem intsAt_cells {H : Type} {enc : TypeId × Value → H} {P : Program} {w : World} {base : Nat} {spare : Nat → Bool} {held : Bool} {k : IntKind} : ∀ (d : Nat) (t : TypeId) (fuel : Nat) (cs : List Value) (x : DataW H × List MemPlace), intsAt P k d t = true →
    DataW.trod enc P w base spare held fuel t cs = some x → ∀ v ∈ cs, ∃ n : Int, v = .int k n ∧ (Lit.int k n).wf = true
  | 0, _, _, _, _, h, _ => by cases h
  | d + 1, t, fuel, cs, x, h, ht => by
    unfold intsAt at h
    split at h
    · rename_i k' hu
      have hk : k' = k := by simpa using h
      subst hk
      obtain ⟨n, rfl, _, hw⟩ := DataW.trod_int hu ht
      intro v hv
      have : v = .int k' n := by simpa using hv
      exact ⟨n, this, hw⟩
    · rename_i n e hu
      simp only [Bool.and_eq_true, decide_eq_true_eq] at h
      obtain ⟨xs, m, _, _, hl, _, hg⟩ := DataW.trod_array hu ht
      intro v hv
      obtain ⟨j, hj, rfl⟩ := List.mem_iff_getElem.1 hv
      rw [hl, h.1] at hj
      have hc : 0 < P.cellsOf e := by
        rcases Nat.eq_zero_or_pos (P.cellsOf e) with h0 | h0
        · rw [h0] at hj; omega
        · exact h0
      have hi : j / P.cellsOf e < n := Nat.div_lt_of_lt_mul (by rw [Nat.mul_comm]; exact hj)
      have hx := hg (j / P.cellsOf e) hi
      have hxi : j / P.cellsOf e < xs.length := by omega
      rw [List.getElem?_eq_getElem hxi] at hx
      refine intsAt_cells d e m _ _ h.2 hx _ ?_
      have hd := Nat.div_add_mod j (P.cellsOf e)
      have hm := Nat.mod_lt j hc
      rw [Nat.mul_comm] at hd
      refine List.mem_iff_getElem?.2 ⟨j % P.cellsOf e, ?_⟩
      rw [List.getElem?_take, if_pos hm, List.getElem?_drop, hd]
      exact List.getElem?_eq_getElem _
    · cases h

theorem open_ints_agg {H : Type} {enc : TypeId × Value → H} {P : Program} {w : World} {base : Nat} {spare : Nat → Bool} {held : Bool} {r : Reach} {b0 : Nat} {k : IntKind} {d n : Nat} {t e : TypeId} {v : Value} {dt : DataW H} {p : List MemPlace}
    (ht : P.underlying t = some (.array n e)) (hk : intsAt P k d t = true) (hv : Value.okWide P w r b0 t v) (h : DataW.Trod enc P w base spare held t v dt p) :
    ∃ cs : List Value, v = .agg cs.toArray ∧ cs.length = P.cellsOf t ∧ ∀ u ∈ cs, ∃ n : Int, u = .int k n ∧ (Lit.int k n).wf = true := by
  obtain ⟨cs, rfl, hs⟩ := okWide_array ht hv
  obtain ⟨fuel, hf⟩ := h
  exact ⟨cs.toList, by simp, by simpa using hs, intsAt_cells d t fuel _ _ hk hf⟩

set_option maxRecDepth 100000 in
theorem openV {H : Type} {enc : TypeId × Value → H} {w : World} {base : Nat} {spare : Nat → Bool} {held : Bool} {r : Reach} {b0 : Nat} {v : Value} {dt : DataW H} {p : List MemPlace} (hv : Value.okWide Try.prog w r b0 23 v) (h : DataW.Trod enc Try.prog w base spare held 23 v dt p) :
    ∃ x0 x1 x2 x3 : Int, v = .agg #[.int .i64 x0, .int .i64 x1, .int .i64 x2, .int .i64 x3] ∧ (-9223372036854775808 ≤ x0 ∧ x0 ≤ 9223372036854775807) ∧ (-9223372036854775808 ≤ x1 ∧ x1 ≤ 9223372036854775807) ∧ (-9223372036854775808 ≤ x2 ∧ x2 ≤ 9223372036854775807) ∧ (-9223372036854775808 ≤ x3 ∧ x3 ≤ 9223372036854775807) := by
  obtain ⟨cs, rfl, hl, hc⟩ := open_ints_agg (k := .i64) (d := 3) Try.underlying23 (by kernel_rfl) hv h
  have hl' : cs.length = 4 := hl.trans (by kernel_rfl)
  match cs, hl' with
  | [c0, c1, c2, c3], _ =>
    obtain ⟨x0, rfl, wx0⟩ := hc c0 (by simp)
    obtain ⟨x1, rfl, wx1⟩ := hc c1 (by simp)
    obtain ⟨x2, rfl, wx2⟩ := hc c2 (by simp)
    obtain ⟨x3, rfl, wx3⟩ := hc c3 (by simp)
    exact ⟨x0, x1, x2, x3, rfl, bounds_i64 wx0, bounds_i64 wx1, bounds_i64 wx2, bounds_i64 wx3⟩

set_option maxRecDepth 100000 in
theorem openM {H : Type} {enc : TypeId × Value → H} {w : World} {base : Nat} {spare : Nat → Bool} {held : Bool} {r : Reach} {b0 : Nat} {v : Value} {dt : DataW H} {p : List MemPlace} (hv : Value.okWide Try.prog w r b0 33 v) (h : DataW.Trod enc Try.prog w base spare held 33 v dt p) :
    ∃ x0 x1 x2 x3 x4 x5 x6 x7 x8 x9 x10 x11 x12 x13 x14 x15 : Int, v = .agg #[.int .i64 x0, .int .i64 x1, .int .i64 x2, .int .i64 x3, .int .i64 x4, .int .i64 x5, .int .i64 x6, .int .i64 x7, .int .i64 x8, .int .i64 x9, .int .i64 x10, .int .i64 x11, .int .i64 x12, .int .i64 x13, .int .i64 x14, .int .i64 x15] ∧ (-9223372036854775808 ≤ x0 ∧ x0 ≤ 9223372036854775807) ∧ (-9223372036854775808 ≤ x1 ∧ x1 ≤ 9223372036854775807) ∧ (-9223372036854775808 ≤ x2 ∧ x2 ≤ 9223372036854775807) ∧ (-9223372036854775808 ≤ x3 ∧ x3 ≤ 9223372036854775807) ∧ (-9223372036854775808 ≤ x4 ∧ x4 ≤ 9223372036854775807) ∧ (-9223372036854775808 ≤ x5 ∧ x5 ≤ 9223372036854775807) ∧ (-9223372036854775808 ≤ x6 ∧ x6 ≤ 9223372036854775807) ∧ (-9223372036854775808 ≤ x7 ∧ x7 ≤ 9223372036854775807) ∧ (-9223372036854775808 ≤ x8 ∧ x8 ≤ 9223372036854775807) ∧ (-9223372036854775808 ≤ x9 ∧ x9 ≤ 9223372036854775807) ∧ (-9223372036854775808 ≤ x10 ∧ x10 ≤ 9223372036854775807) ∧ (-9223372036854775808 ≤ x11 ∧ x11 ≤ 9223372036854775807) ∧ (-9223372036854775808 ≤ x12 ∧ x12 ≤ 9223372036854775807) ∧ (-9223372036854775808 ≤ x13 ∧ x13 ≤ 9223372036854775807) ∧ (-9223372036854775808 ≤ x14 ∧ x14 ≤ 9223372036854775807) ∧ (-9223372036854775808 ≤ x15 ∧ x15 ≤ 9223372036854775807) := by
  obtain ⟨cs, rfl, hl, hc⟩ := open_ints_agg (k := .i64) (d := 3) Try.underlying33 (by kernel_rfl) hv h
  have hl' : cs.length = 16 := hl.trans (by kernel_rfl)
  match cs, hl' with
  | [c0, c1, c2, c3, c4, c5, c6, c7, c8, c9, c10, c11, c12, c13, c14, c15], _ =>
    obtain ⟨x0, rfl, wx0⟩ := hc c0 (by simp)
    obtain ⟨x1, rfl, wx1⟩ := hc c1 (by simp)
    obtain ⟨x2, rfl, wx2⟩ := hc c2 (by simp)
    obtain ⟨x3, rfl, wx3⟩ := hc c3 (by simp)
    obtain ⟨x4, rfl, wx4⟩ := hc c4 (by simp)
    obtain ⟨x5, rfl, wx5⟩ := hc c5 (by simp)
    obtain ⟨x6, rfl, wx6⟩ := hc c6 (by simp)
    obtain ⟨x7, rfl, wx7⟩ := hc c7 (by simp)
    obtain ⟨x8, rfl, wx8⟩ := hc c8 (by simp)
    obtain ⟨x9, rfl, wx9⟩ := hc c9 (by simp)
    obtain ⟨x10, rfl, wx10⟩ := hc c10 (by simp)
    obtain ⟨x11, rfl, wx11⟩ := hc c11 (by simp)
    obtain ⟨x12, rfl, wx12⟩ := hc c12 (by simp)
    obtain ⟨x13, rfl, wx13⟩ := hc c13 (by simp)
    obtain ⟨x14, rfl, wx14⟩ := hc c14 (by simp)
    obtain ⟨x15, rfl, wx15⟩ := hc c15 (by simp)
    exact ⟨x0, x1, x2, x3, x4, x5, x6, x7, x8, x9, x10, x11, x12, x13, x14, x15, rfl, bounds_i64 wx0, bounds_i64 wx1, bounds_i64 wx2, bounds_i64 wx3, bounds_i64 wx4, bounds_i64 wx5, bounds_i64 wx6, bounds_i64 wx7, bounds_i64 wx8, bounds_i64 wx9, bounds_i64 wx10, bounds_i64 wx11, bounds_i64 wx12, bounds_i64 wx13, bounds_i64 wx14, bounds_i64 wx15⟩

set_option maxRecDepth 100000 in
theorem openC {H : Type} {enc : TypeId × Value → H} {w : World} {base : Nat} {spare : Nat → Bool} {held : Bool} {r : Reach} {b0 : Nat} {v : Value} {dt : DataW H} {p : List MemPlace} (hv : Value.okWide Try.prog w r b0 36 v) (h : DataW.Trod enc Try.prog w base spare held 36 v dt p) :
    ∃ x0 x1 x2 x3 : Int, v = .agg #[.int .i32 x0, .int .i32 x1, .int .i32 x2, .int .i32 x3] ∧ (-2147483648 ≤ x0 ∧ x0 ≤ 2147483647) ∧ (-2147483648 ≤ x1 ∧ x1 ≤ 2147483647) ∧ (-2147483648 ≤ x2 ∧ x2 ≤ 2147483647) ∧ (-2147483648 ≤ x3 ∧ x3 ≤ 2147483647) := by
  obtain ⟨cs, rfl, hl, hc⟩ := open_ints_agg (k := .i32) (d := 3) Try.underlying36 (by kernel_rfl) hv h
  have hl' : cs.length = 4 := hl.trans (by kernel_rfl)
  match cs, hl' with
  | [c0, c1, c2, c3], _ =>
    obtain ⟨x0, rfl, wx0⟩ := hc c0 (by simp)
    obtain ⟨x1, rfl, wx1⟩ := hc c1 (by simp)
    obtain ⟨x2, rfl, wx2⟩ := hc c2 (by simp)
    obtain ⟨x3, rfl, wx3⟩ := hc c3 (by simp)
    exact ⟨x0, x1, x2, x3, rfl, bounds_i32 wx0, bounds_i32 wx1, bounds_i32 wx2, bounds_i32 wx3⟩

set_option maxRecDepth 100000 in
theorem openL {H : Type} {enc : TypeId × Value → H} {w : World} {base : Nat} {spare : Nat → Bool} {held : Bool} {r : Reach} {b0 : Nat} {v : Value} {dt : DataW H} {p : List MemPlace} (hv : Value.okWide Try.prog w r b0 37 v) (h : DataW.Trod enc Try.prog w base spare held 37 v dt p) :
    ∃ x0 x1 x2 x3 x4 x5 x6 x7 x8 x9 x10 x11 x12 x13 x14 x15 : Int, v = .agg #[.int .i32 x0, .int .i32 x1, .int .i32 x2, .int .i32 x3, .int .i32 x4, .int .i32 x5, .int .i32 x6, .int .i32 x7, .int .i32 x8, .int .i32 x9, .int .i32 x10, .int .i32 x11, .int .i32 x12, .int .i32 x13, .int .i32 x14, .int .i32 x15] ∧ (-2147483648 ≤ x0 ∧ x0 ≤ 2147483647) ∧ (-2147483648 ≤ x1 ∧ x1 ≤ 2147483647) ∧ (-2147483648 ≤ x2 ∧ x2 ≤ 2147483647) ∧ (-2147483648 ≤ x3 ∧ x3 ≤ 2147483647) ∧ (-2147483648 ≤ x4 ∧ x4 ≤ 2147483647) ∧ (-2147483648 ≤ x5 ∧ x5 ≤ 2147483647) ∧ (-2147483648 ≤ x6 ∧ x6 ≤ 2147483647) ∧ (-2147483648 ≤ x7 ∧ x7 ≤ 2147483647) ∧ (-2147483648 ≤ x8 ∧ x8 ≤ 2147483647) ∧ (-2147483648 ≤ x9 ∧ x9 ≤ 2147483647) ∧ (-2147483648 ≤ x10 ∧ x10 ≤ 2147483647) ∧ (-2147483648 ≤ x11 ∧ x11 ≤ 2147483647) ∧ (-2147483648 ≤ x12 ∧ x12 ≤ 2147483647) ∧ (-2147483648 ≤ x13 ∧ x13 ≤ 2147483647) ∧ (-2147483648 ≤ x14 ∧ x14 ≤ 2147483647) ∧ (-2147483648 ≤ x15 ∧ x15 ≤ 2147483647) := by
  obtain ⟨cs, rfl, hl, hc⟩ := open_ints_agg (k := .i32) (d := 3) Try.underlying37 (by kernel_rfl) hv h
  have hl' : cs.length = 16 := hl.trans (by kernel_rfl)
  match cs, hl' with
  | [c0, c1, c2, c3, c4, c5, c6, c7, c8, c9, c10, c11, c12, c13, c14, c15], _ =>
    obtain ⟨x0, rfl, wx0⟩ := hc c0 (by simp)
    obtain ⟨x1, rfl, wx1⟩ := hc c1 (by simp)
    obtain ⟨x2, rfl, wx2⟩ := hc c2 (by simp)
    obtain ⟨x3, rfl, wx3⟩ := hc c3 (by simp)
    obtain ⟨x4, rfl, wx4⟩ := hc c4 (by simp)
    obtain ⟨x5, rfl, wx5⟩ := hc c5 (by simp)
    obtain ⟨x6, rfl, wx6⟩ := hc c6 (by simp)
    obtain ⟨x7, rfl, wx7⟩ := hc c7 (by simp)
    obtain ⟨x8, rfl, wx8⟩ := hc c8 (by simp)
    obtain ⟨x9, rfl, wx9⟩ := hc c9 (by simp)
    obtain ⟨x10, rfl, wx10⟩ := hc c10 (by simp)
    obtain ⟨x11, rfl, wx11⟩ := hc c11 (by simp)
    obtain ⟨x12, rfl, wx12⟩ := hc c12 (by simp)
    obtain ⟨x13, rfl, wx13⟩ := hc c13 (by simp)
    obtain ⟨x14, rfl, wx14⟩ := hc c14 (by simp)
    obtain ⟨x15, rfl, wx15⟩ := hc c15 (by simp)
    exact ⟨x0, x1, x2, x3, x4, x5, x6, x7, x8, x9, x10, x11, x12, x13, x14, x15, rfl, bounds_i32 wx0, bounds_i32 wx1, bounds_i32 wx2, bounds_i32 wx3, bounds_i32 wx4, bounds_i32 wx5, bounds_i32 wx6, bounds_i32 wx7, bounds_i32 wx8, bounds_i32 wx9, bounds_i32 wx10, bounds_i32 wx11, bounds_i32 wx12, bounds_i32 wx13, bounds_i32 wx14, bounds_i32 wx15⟩

/-- the arguments read behind the call as before it -/
theorem trodAll_stays {H : Type} {enc : TypeId × Value → H} {P : Program} (hl : laidOutB P = true) {W W' : World} (hx : Ext W W') : ∀ (ts : List TypeId) (vs : List Value) (ds : List (DataW H)) (ps : List MemPlace),
    (∀ t ∈ ts, P.readableRec t = true ∧ t < P.types.size) → DataW.TrodAll enc P W 0 (fun _ => true) true ts vs ds ps → (∀ x ∈ ps, x.block < W.heap.size) → ∀ sp : Nat → Bool, (∀ x ∈ ps, sp x.block = true) → DataW.TrodAll enc P W' 0 sp true ts vs ds ps
  | [], vs, ds, ps, _, h, _, sp, _ => by
    obtain ⟨rfl, rfl, rfl⟩ := trodAll_nil h
    exact trodAll_mk0
  | t :: ts, vs, ds, ps, hr, h, hlt, sp, hsp => by
    obtain ⟨v, vs', d, ds', p, q, rfl, rfl, rfl, h0, h1⟩ := trodAll_cons h
    have hp : ∀ x ∈ p, x.block < W.heap.size := fun x hx => hlt x (List.mem_append_left _ hx)
    have h0' := WideElems.Trod_stays (sp' := sp) hl (hr t (List.mem_cons_self ..)).1 (hr t (List.mem_cons_self ..)).2 h0 (fun x hx' => hx.bel.same (hp x hx')) (fun x hx => hsp x (List.mem_append_left _ hx))
    exact trodAll_cons_mk h0' (trodAll_stays hl hx ts vs' ds' q (fun t ht => hr t (List.mem_cons_of_mem _ ht)) h1 (fun x hx => hlt x (List.mem_append_right _ hx)) sp (fun x hx => hsp x (List.mem_append_right _ hx)))

end Go.Proofs.Ythpobegfiflppaa
