/-
  DERIVED. From a law's walk to its row: arguments that are arrays of integers, opened; what the arguments read as, carried to the world behind the call.
-/
import Derived.Test.YtjohcngmoemmbaaExt
import Derived.Test.YtjohcngmoemmbaaRows
import Derived.WalkKit
import Derived.ProofKit
import Derived.OpenShut
import Derived.Carry
namespace Go.Proofs.Ytjohcngmoemmbaa
open Go.ChangeShapes Go.WideShapes Go.ChangeAt Go.RowKit
set_option linter.unusedVariables false

theorem okWide_array {P : Program} {w : World} {r : Reach} {base : Nat} {t : TypeId} {v : Value} {n : Nat} {e : TypeId} (ht : P.underlying t = some (.array n e)) (h : Value.okWide P w r base t v) : ∃ cs, v = .agg cs ∧ cs.size = P.cellsOf t := by
  simp only [Value.okWide, ht] at h
  obtain ⟨cs, h1, h2, _⟩ := h
  exact ⟨cs, h1, h2⟩

theorem okWide_struct {P : Program} {w : World} {r : Reach} {base : Nat} {t : TypeId} {v : Value} {fs : Array Field} (ht : P.underlying t = some (.struct fs)) (h : Value.okWide P w r base t v) : ∃ cs, v = .agg cs ∧ cs.size = P.cellsOf t := by
  simp only [Value.okWide, ht] at h
  obtain ⟨cs, h1, h2, _⟩ := h
  exact ⟨cs, h1, h2⟩

/-- a type that is made of integers of one kind -/
def intsAt (P : Program) (k : IntKind) : Nat → TypeId → Bool
  | 0, _ => false
  | d + 1, t => match P.underlying t with
    | some (.int k') => k' == k
    | some (.array n e) => decide (P.cellsOf t = n * P.cellsOf e) && intsAt P k d e
    | some (.struct fs) => (fs.toList.all fun f => intsAt P k d f.type) && (List.range (P.cellsOf t)).all fun j => fs.toList.any fun f => decide (f.offset ≤ j) && decide (j < f.offset + P.cellsOf f.type)
    | _ => false

theorem intsAt_cells {H : Type} {enc : TypeId × Value → H} {P : Program} {w : World} {base : Nat} {spare : Nat → Bool} {held : Bool} {k : IntKind} : ∀ (d : Nat) (t : TypeId) (fuel : Nat) (cs : List Value) (x : DataW H × List MemPlace), intsAt P k d t = true →
    DataW.trod enc P w base spare held fuel t cs = some x → ∀ v ∈ cs, ∃ n : Int, v = .int k n ∧ (Lit.int k n).wf = true
  | 0, _, _, _, _, h, _ => by cases h
  | d + 1, t, fuel, cs, x, h, ht => by
    unfold intsAt at h
    split at h
    · rename_i k' hu
      have hk : k' = k := by simpa using h
      subst hk
      obtain ⟨n, rfl, _, hw⟩ := DataW.trod_int hu ht
      intro v hv
      have : v = .int k' n := by simpa using hv
      exact ⟨n, this, hw⟩
    · rename_i n e hu
      simp only [Bool.and_eq_true, decide_eq_true_eq] at h
      obtain ⟨xs, m, _, _, hl, _, hg⟩ := DataW.trod_array hu ht
      intro v hv
      obtain ⟨j, hj, rfl⟩ := List.mem_iff_getElem.1 hv
      rw [hl, h.1] at hj
      have hc : 0 < P.cellsOf e := by
        rcases Nat.eq_zero_or_pos (P.cellsOf e) with h0 | h0
        · rw [h0] at hj; omega
        · exact h0
      have hi : j / P.cellsOf e < n := Nat.div_lt_of_lt_mul (by rw [Nat.mul_comm]; exact hj)
      have hx := hg (j / P.cellsOf e) hi
      have hxi : j / P.cellsOf e < xs.length := by omega
      rw [List.getElem?_eq_getElem hxi] at hx
      refine intsAt_cells d e m _ _ h.2 hx _ ?_
      have hd := Nat.div_add_mod j (P.cellsOf e)
      have hm := Nat.mod_lt j hc
      rw [Nat.mul_comm] at hd
      refine List.mem_iff_getElem?.2 ⟨j % P.cellsOf e, ?_⟩
      rw [List.getElem?_take, if_pos hm, List.getElem?_drop, hd]
      exact List.getElem?_eq_getElem _
    · rename_i fs hu
      simp only [Bool.and_eq_true] at h
      obtain ⟨xs, m, _, _, hl, hlen, hf⟩ := DataW.trod_struct hu ht
      intro v hv
      obtain ⟨j, hj, rfl⟩ := List.mem_iff_getElem.1 hv
      have hj' : j < P.cellsOf t := hl ▸ hj
      obtain ⟨f, hfm, hin⟩ := List.any_eq_true.1 (List.all_eq_true.1 h.2 j (List.mem_range.2 hj'))
      simp only [Bool.and_eq_true, decide_eq_true_eq] at hin
      obtain ⟨i, hi⟩ := List.mem_iff_getElem?.1 hfm
      have hi' : fs[i]? = some f := by simpa using hi
      have hx := hf i f hi'
      have hil : i < fs.size := (Array.getElem?_eq_some_iff.1 hi').1
      have hxi : i < xs.length := by omega
      rw [List.getElem?_eq_getElem hxi] at hx
      refine intsAt_cells d f.type m _ _ (List.all_eq_true.1 h.1 f hfm) hx _ ?_
      refine List.mem_iff_getElem?.2 ⟨j - f.offset, ?_⟩
      rw [List.getElem?_take, if_pos (by omega), List.getElem?_drop, show f.offset + (j - f.offset) = j by omega]
      exact List.getElem?_eq_getElem _
    · cases h

theorem open_ints_agg {H : Type} {enc : TypeId × Value → H} {P : Program} {w : World} {base : Nat} {spare : Nat → Bool} {held : Bool} {k : IntKind} {d : Nat} {t : TypeId} {v : Value} {dt : DataW H} {p : List MemPlace}
    (ht : ∃ cs, v = .agg cs ∧ cs.size = P.cellsOf t) (hk : intsAt P k d t = true) (h : DataW.Trod enc P w base spare held t v dt p) :
    ∃ cs : List Value, v = .agg cs.toArray ∧ cs.length = P.cellsOf t ∧ ∀ u ∈ cs, ∃ n : Int, u = .int k n ∧ (Lit.int k n).wf = true := by
  obtain ⟨cs, rfl, hs⟩ := ht
  obtain ⟨fuel, hf⟩ := h
  exact ⟨cs.toList, by simp, by simpa using hs, intsAt_cells d t fuel _ _ hk hf⟩

set_option maxRecDepth 100000 in
theorem openV {H : Type} {enc : TypeId × Value → H} {w : World} {base : Nat} {spare : Nat → Bool} {held : Bool} {r : Reach} {b0 : Nat} {v : Value} {dt : DataW H} {p : List MemPlace} (hv : Value.okWide Try.prog w r b0 30 v) (h : DataW.Trod enc Try.prog w base spare held 30 v dt p) :
    ∃ x0 x1 x2 x3 : Int, v = .agg #[.int .i64 x0, .int .i64 x1, .int .i64 x2, .int .i64 x3] ∧ (-9223372036854775808 ≤ x0 ∧ x0 ≤ 9223372036854775807) ∧ (-9223372036854775808 ≤ x1 ∧ x1 ≤ 9223372036854775807) ∧ (-9223372036854775808 ≤ x2 ∧ x2 ≤ 9223372036854775807) ∧ (-9223372036854775808 ≤ x3 ∧ x3 ≤ 9223372036854775807) := by
  obtain ⟨cs, rfl, hl, hc⟩ := open_ints_agg (k := .i64) (d := 3) (okWide_array Try.underlying30 hv) (by kernel_rfl) h
  have hl' : cs.length = 4 := hl.trans (by kernel_rfl)
  match cs, hl' with
  | [c0, c1, c2, c3], _ =>
    obtain ⟨x0, rfl, wx0⟩ := hc c0 (by simp)
    obtain ⟨x1, rfl, wx1⟩ := hc c1 (by simp)
    obtain ⟨x2, rfl, wx2⟩ := hc c2 (by simp)
    obtain ⟨x3, rfl, wx3⟩ := hc c3 (by simp)
    exact ⟨x0, x1, x2, x3, rfl, bounds_i64 wx0, bounds_i64 wx1, bounds_i64 wx2, bounds_i64 wx3⟩

set_option maxRecDepth 100000 in
theorem openA4 {H : Type} {enc : TypeId × Value → H} {w : World} {base : Nat} {spare : Nat → Bool} {held : Bool} {r : Reach} {b0 : Nat} {v : Value} {dt : DataW H} {p : List MemPlace} (hv : Value.okWide Try.prog w r b0 29 v) (h : DataW.Trod enc Try.prog w base spare held 29 v dt p) :
    ∃ x0 x1 x2 x3 : Int, v = .agg #[.int .i64 x0, .int .i64 x1, .int .i64 x2, .int .i64 x3] ∧ (-9223372036854775808 ≤ x0 ∧ x0 ≤ 9223372036854775807) ∧ (-9223372036854775808 ≤ x1 ∧ x1 ≤ 9223372036854775807) ∧ (-9223372036854775808 ≤ x2 ∧ x2 ≤ 9223372036854775807) ∧ (-9223372036854775808 ≤ x3 ∧ x3 ≤ 9223372036854775807) := by
  obtain ⟨cs, rfl, hl, hc⟩ := open_ints_agg (k := .i64) (d := 3) (okWide_array Try.underlying29 hv) (by kernel_rfl) h
  have hl' : cs.length = 4 := hl.trans (by kernel_rfl)
  match cs, hl' with
  | [c0, c1, c2, c3], _ =>
    obtain ⟨x0, rfl, wx0⟩ := hc c0 (by simp)
    obtain ⟨x1, rfl, wx1⟩ := hc c1 (by simp)
    obtain ⟨x2, rfl, wx2⟩ := hc c2 (by simp)
    obtain ⟨x3, rfl, wx3⟩ := hc c3 (by simp)
    exact ⟨x0, x1, x2, x3, rfl, bounds_i64 wx0, bounds_i64 wx1, bounds_i64 wx2, bounds_i64 wx3⟩

/-- what a call that leaves all memory that was there alone has done, where marks are known of that memory alone -/
theorem post_of_old {H : Type} {enc : TypeId × Value → H} {P : Program} {f : Func} {s : ChangeSpec} {apart fresh handsOn again : Bool} {W W' : World} {args : Array Value} {v : Value} {ds gs : List (DataW H)} {before pa pv : List MemPlace}
    (hW : DataW.Whole enc P f.params.toList s.vars apart W args.toList ds gs before)
    (hres : ∀ (b : Nat) (sp : Nat → Bool) (hd : Bool), DataW.TrodAll enc P W' b sp hd f.resultTypes.toList (v.resultList f.resultTypes.size) (s.fn H (ds ++ gs)).results [])
    (hargs : ∀ sp : Nat → Bool, (∀ p ∈ before, sp p.block = true) → DataW.TrodAll enc P W' 0 sp true f.params.toList args.toList (s.fn H (ds ++ gs)).args pa)
    (hvars : ∀ sp : Nat → Bool, (∀ p ∈ before, sp p.block = true) → DataW.TrodVars enc P W' sp s.vars (s.fn H (ds ++ gs)).vars pv)
    (hps : before = pa ++ pv) (hk : W.keptBut W' (· ∈ before)) (hfz : ∀ a : Addr, a.block < W.heap.size → W'.frozen? a = W.frozen? a)
    (hok : ∀ (j : Nat) (t : TypeId) (r : Value), f.resultTypes[j]? = some t → (v.resultList f.resultTypes.size)[j]? = some r → Value.okWide P W' .any 0 t r) :
    s.post enc P f apart fresh handsOn again W args v W' := by
  have lt := hW.lt
  have hin : ∀ p, p ∈ before → p ∈ pa ∨ p ∈ pv := fun p hp => by rwa [hps, List.mem_append] at hp
  refine ⟨ds, gs, before, [], pa, pv, hW, hres _ _ _, hargs _ fun p hp => by simpa using lt p hp, hvars _ fun p hp => by simpa using lt p hp, World.keptBut_mono (fun p hp => ⟨hp, .inr (hin p hp)⟩) hk, fun _ => ⟨hok, ?_⟩⟩
  obtain ⟨_, _, _, _, _, hz, hn⟩ := hW
  refine ⟨_, _, pa ++ pv, ⟨[] ++ pa, pv, trodAll_append (hargs _ fun _ _ => rfl) (hres _ _ _), hvars _ fun _ _ => rfl, by simp, fun b off hp => ?_, fun ha => hps ▸ hn ha⟩, fun p hp _ => hps ▸ hp⟩
  have hb : MemPlace.cell b off ∈ before := hps ▸ hp
  rw [hfz _ (lt _ hb)]
  exact hz b off hb

/-- the arguments read behind the call as before it -/
theorem trodAll_stays {H : Type} {enc : TypeId × Value → H} {P : Program} (hl : laidOutB P = true) {W W' : World} (hx : Ext W W') : ∀ (ts : List TypeId) (vs : List Value) (ds : List (DataW H)) (ps : List MemPlace),
    (∀ t ∈ ts, P.readableRec t = true ∧ t < P.types.size) → DataW.TrodAll enc P W 0 (fun _ => true) true ts vs ds ps → (∀ x ∈ ps, x.block < W.heap.size) → ∀ sp : Nat → Bool, (∀ x ∈ ps, sp x.block = true) → DataW.TrodAll enc P W' 0 sp true ts vs ds ps
  | [], vs, ds, ps, _, h, _, sp, _ => by
    obtain ⟨rfl, rfl, rfl⟩ := trodAll_nil h
    exact trodAll_mk0
  | t :: ts, vs, ds, ps, hr, h, hlt, sp, hsp => by
    obtain ⟨v, vs', d, ds', p, q, rfl, rfl, rfl, h0, h1⟩ := trodAll_cons h
    have hp : ∀ x ∈ p, x.block < W.heap.size := fun x hx => hlt x (List.mem_append_left _ hx)
    have h0' := WideElems.Trod_stays (sp' := sp) hl (hr t (List.mem_cons_self ..)).1 (hr t (List.mem_cons_self ..)).2 h0 (fun x hx' => hx.bel.same (hp x hx')) (fun x hx => hsp x (List.mem_append_left _ hx))
    exact trodAll_cons_mk h0' (trodAll_stays hl hx ts vs' ds' q (fun t ht => hr t (List.mem_cons_of_mem _ ht)) h1 (fun x hx => hlt x (List.mem_append_right _ hx)) sp (fun x hx => hsp x (List.mem_append_right _ hx)))

end Go.Proofs.Ytjohcngmoemmbaa
