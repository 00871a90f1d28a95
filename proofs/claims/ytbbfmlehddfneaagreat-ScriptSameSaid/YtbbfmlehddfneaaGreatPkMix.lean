/-
  DERIVED. Marked operations whose values are known ahead: what the quiet walk sees of them. · Regions that draw their order whose marked operations make no chain: they are walked as a tree of the orders that may come (the quiet ones once, whatever their order). · Regions that draw their order, with guards: some operations (marked) yield values that are known ahead, others values that are not (slots bs), which marked ones alone look at; all else is walked once in the text's order, the marked ones as a tree of the orders that may come.
-/
import Derived.Test.YtbbfmlehddfneaaGreatPkFix
import Derived.Test.YtbbfmlehddfneaaGreatPkGs
namespace Go.Proofs.YtbbfmlehddfneaaGreat
open Go.RowKit
set_option linter.unusedVariables false
section
variable {P : Program}
/-- the marked operations yield what is known of them -/
def replM : List (Option Value) → List Oper → List Oper
  | some v :: ms, o :: r => { o with op := .move (.const v) } :: replM ms r
  | none :: ms, o :: r => o :: replM ms r
  | [], r => r
  | _ :: _, [] => []
theorem replM_get : ∀ (m : List (Option Value)) (l : List Oper) (i : Nat), (replM m l)[i]? = (l[i]?).map fun o => match m.getD i none with | some v => { o with op := .move (.const v) } | none => o
  | [], l, i => by simp [replM]
  | some v :: ms, [], i => by simp [replM]
  | none :: ms, [], i => by simp [replM]
  | some v :: ms, o :: r, 0 => by simp [replM]
  | none :: ms, o :: r, 0 => by simp [replM]
  | some v :: ms, o :: r, i + 1 => by simpa [replM] using replM_get ms r i
  | none :: ms, o :: r, i + 1 => by simpa [replM] using replM_get ms r i
theorem repl_dst (m : List (Option Value)) (l : List Oper) (j : Nat) : (((replM m l).toArray)[j]?).bind (·.dst) = ((l.toArray)[j]?).bind (·.dst) := by
  rw [List.getElem?_toArray, List.getElem?_toArray, replM_get]
  cases l[j]? with
  | none => rfl
  | some o => simp only [Option.map_some, Option.bind_some]; split <;> rfl
/-- which are marked -/
def marksK (l : List Oper) (m : List (Option Value)) : List Nat := (List.range l.length).filter fun i => (m.getD i none).isSome
theorem mem_marksK {l : List Oper} {m : List (Option Value)} {i : Nat} : i ∈ marksK l m ↔ i < l.length ∧ (m.getD i none).isSome = true := by
  simp [marksK]
theorem marksK_sorted (l : List Oper) (m : List (Option Value)) : (marksK l m).Pairwise (· < ·) := List.Pairwise.filter _ List.pairwise_lt_range

/-- the marked operations are wanted -/
def wantedB (l : List Oper) (m : List (Option Value)) (t : Array Value) : Bool := (marksK l m).all fun i => match l[i]? with
  | some o => Region.wanted o (yielded l.toArray t)
  | none => true
end
end Go.Proofs.YtbbfmlehddfneaaGreat

namespace Go.Proofs.YtbbfmlehddfneaaGreat
open Go.RowKit
set_option linter.unusedVariables false
variable {P : Program}
/-- the marked operations that may come next -/
def rdy (l : List Oper) (n : Nat) (rem : List Nat) : List Nat := rem.filter fun i => rem.all fun j => j == i || !befB l n j i
/-- the marked operations in whatever order may come -/
def tailD (P : Program) (l : List Oper) (n : Nat) (O1 O : List Nat) (w0 : World) (K : Act → World → Prop) : Nat → List Nat → Act → World → Prop
  | 0, _, A, u => ∀ u', Ext u u' → Calm O w0 u' → K A u'
  | k + 1, rem, A, u => ∀ i ∈ rdy l n rem, ∀ o, l[i]? = some o → ∀ u', Ext u u' → Calm O1 w0 u' → Gives P o A u' (fun v w' => Calm O w0 w' ∧ (k ≠ 0 → Calm O1 w0 w') ∧ tailD P l n O1 O w0 K k (rem.erase i) (A.put o.dst v) w')
theorem tailD_ext {l : List Oper} {n : Nat} {O1 O : List Nat} {w0 : World} {K : Act → World → Prop} {k : Nat} {rem : List Nat} {A : Act} {u u' : World} (h : tailD P l n O1 O w0 K k rem A u) (x : Ext u u') : tailD P l n O1 O w0 K k rem A u' := by
  cases k with
  | zero => exact fun u2 x2 => h u2 (x.trans x2)
  | succ k => exact fun i hi o ho u2 x2 => h i hi o ho u2 (x.trans x2)
theorem tailD_one {l : List Oper} {n : Nat} {O1 O : List Nat} {w0 : World} {K : Act → World → Prop} {k : Nat} {rem rem' : List Nat} {A : Act} {u : World} (i : Nat) (o : Oper) (hR : rdy l n rem = [i]) (ho : l[i]? = some o) (he : rem.erase i = rem')
    (h : ∀ u', Ext u u' → Calm O1 w0 u' → Gives P o A u' (fun v w' => Calm O w0 w' ∧ (k ≠ 0 → Calm O1 w0 w') ∧ tailD P l n O1 O w0 K k rem' (A.put o.dst v) w')) : tailD P l n O1 O w0 K (k + 1) rem A u := by
  intro j hj oj hoj
  rw [hR, List.mem_singleton] at hj
  subst hj
  have : oj = o := Option.some.inj (hoj.symm.trans ho)
  subst this
  rw [he]
  exact h
theorem tailD_two {l : List Oper} {n : Nat} {O1 O : List Nat} {w0 : World} {K : Act → World → Prop} {k : Nat} {rem r1 r2 : List Nat} {A : Act} {u : World} (i j : Nat) (o p : Oper) (hR : rdy l n rem = [i, j]) (ho : l[i]? = some o) (hp : l[j]? = some p) (he1 : rem.erase i = r1) (he2 : rem.erase j = r2)
    (h1 : ∀ u', Ext u u' → Calm O1 w0 u' → Gives P o A u' (fun v w' => Calm O w0 w' ∧ (k ≠ 0 → Calm O1 w0 w') ∧ tailD P l n O1 O w0 K k r1 (A.put o.dst v) w'))
    (h2 : ∀ u', Ext u u' → Calm O1 w0 u' → Gives P p A u' (fun v w' => Calm O w0 w' ∧ (k ≠ 0 → Calm O1 w0 w') ∧ tailD P l n O1 O w0 K k r2 (A.put p.dst v) w')) : tailD P l n O1 O w0 K (k + 1) rem A u := by
  intro x hx ox hox
  rw [hR] at hx
  rcases List.mem_cons.1 hx with h | h
  · subst h
    have : ox = o := Option.some.inj (hox.symm.trans ho)
    subst this
    rw [he1]
    exact h1
  · rw [List.mem_singleton] at h
    subst h
    have : ox = p := Option.some.inj (hox.symm.trans hp)
    subst this
    rw [he2]
    exact h2
/-- what a marked operation looks at is written by a marked one that it waits for -/
def dagB (l : List Oper) (m : List Bool) (bs : List Tmp) (n : Nat) : Bool :=
  (bs.all fun d => (marks l m).any fun i => (l[i]?).bind (·.dst) == some d) &&
  (marks l m).all fun j => match l[j]? with
    | some o => (o.looksAt l.toArray).all fun d => !bs.contains d || (marks l m).any fun i => decide (i ≠ j) && befB l n i j && (l[i]?).bind (·.dst) == some d
    | none => true

structure JDag (P : Program) (l : List Oper) (m : List Bool) (n : Nat) (bs : List Tmp) (O1 O : List Nat) (w0 : World) (F : Act) (K : Act → World → Prop) (listed : Array Bool) (c : Act) (u : World) : Prop where
  closed : ∀ j oj, l[j]? = some oj → listed.getD j false = true → ∀ e ∈ oj.after, Region.binds .any e = true → listed.getD e.on false = true
  rest : ∃ (rem : List Nat) (A : Act), rem.Nodup ∧ (∀ i ∈ marks l m, i ∉ rem → listed.getD i false = true) ∧ (∀ i ∈ rem, listed.getD i false = false ∧ i ∈ marks l m) ∧ (rem ≠ [] → Calm O1 w0 u) ∧
    tailD P l n O1 O w0 K rem.length rem A u ∧ A.defers = F.defers ∧ A.tmps.size = F.tmps.size ∧ (∀ d, bs.contains d = false → slot A d = slot F d) ∧
    (∀ i ∈ marks l m, i ∉ rem → ∀ o d, l[i]? = some o → o.dst = some d → slot A d = slot c d)

theorem wp_region_dag {id : Nat} {l : List Oper} (n : Nat) (m : List Bool) (bs : List Tmp) (O1 O : List Nat) {w : World} {a : Act} (F : Act) {Q : Exit → Act → World → Prop} (M : List Nat) (k : Nat) (hm : P.follows .mixedOrders = true)
    (hB : calmB l m bs = true) (hT : dagB l m bs n = true) (hL : lateB l m n = true) (hM : marks l m = M) (hk : M.length = k) (hF : F.tmps.size = a.tmps.size)
    (H : ∀ x, Calm O1 w x → wpQuiet P (eraseM m l).toArray (fun w' => ∃ y : Wx x, w' = y.val) (fun a' => a' = F) (eraseM m l) a)
    (T : tailD P l n O1 O w (fun A u => Q .normal A u) k M F w) :
    (Code.region id l.toArray true).wp P Q a w := by
  subst hk
  subst hM
  simp only [dagB, Bool.and_eq_true, List.all_eq_true] at hT
  obtain ⟨t2, t3⟩ := hT
  obtain ⟨hsel, hsp⟩ := calmB_spec hB
  have step : ∀ (listed : Array Bool) (i : Nat), i ∈ Region.ready .any l.toArray listed → (∀ j oj, l[j]? = some oj → listed.getD j false = true → ∀ e ∈ oj.after, Region.binds .any e = true → listed.getD e.on false = true) →
      ∀ j oj, l[j]? = some oj → (listed.setIfInBounds i true).getD j false = true → ∀ e ∈ oj.after, Region.binds .any e = true → (listed.setIfInBounds i true).getD e.on false = true := by
    intro listed i hr hc j oj hj hl e he hb
    obtain ⟨hun, oi, hoi, hall⟩ := mem_ready.1 hr
    rw [List.getElem?_toArray] at hoi
    by_cases hij : i = j
    · subst hij
      have : oj = oi := Option.some.inj (hj.symm.trans hoi)
      subst this
      exact getD_set_true (hall e he hb)
    · rw [getD_set_ne false hij] at hl
      exact getD_set_true (hc j oj hj hl e he hb)
  refine wp_region_calm_gen m bs O F (fun listed c u => JDag P l m n bs O1 O w F (fun A u => Q .normal A u) listed c u) hm hB (fun x => Calm O1 w x) (Calm.refl _ _) (fun listed i u hmi hli hil hcl _ _ hJ => ?_) H ?_ ?_ ?_ ?_
  · obtain ⟨c, -, rem, A, h1, h2, h3, h3', -⟩ := hJ
    refine h3' fun hr => ?_
    subst hr
    have k1 := List.all_eq_true.1 hL i (List.mem_range.2 hil)
    rw [hmi, Bool.false_or] at k1
    obtain ⟨j, hj, k2⟩ := List.any_eq_true.1 k1
    have hjl := (mem_marks.1 hj).1
    have := befB_spec hcl n i j hjl k2 (h2 j hj (by simp))
    rw [hli] at this
    cases this
  · exact ⟨fun j oj _ hl => (by rw [rep_false] at hl; cases hl), marks l m, F, (marks_sorted l m).imp (fun h => by omega), (fun i hi hn => absurd hi hn), (fun i hi => ⟨rep_false _ _, hi⟩), (fun _ => (Ext.refl w).drew.calm O1), tailD_ext T (Ext.refl w).drew, rfl, rfl, fun _ _ => rfl, fun i hi hn => absurd hi hn⟩
  · intro listed c u u' i o v hi hmi hr x hJ
    obtain ⟨hc, rem, A, h1, h2, h3, h3', h4, h5, h6, h7, h8⟩ := hJ
    have hnm : ∀ j ∈ marks l m, i ≠ j := fun j hj e => by
      subst e
      have := (mem_marks.1 hj).2
      rw [hmi] at this
      cases this
    refine ⟨step listed i hr hc, rem, A, h1, fun j hj hn => getD_set_true (h2 j hj hn), fun j hj => ?_, fun hr => (h3' hr).trans (x.calm O1), tailD_ext h4 x, h5, h6, h7, fun j hj hn oj d hoj hd => ?_⟩
    · have := h3 j hj
      rw [getD_set_ne false (hnm j this.2)]
      exact this
    · rw [slot_put_ne ((hsp j oj hoj).one i o d hi (hnm j hj) hd)]
      exact h8 j hj hn oj d hoj hd
  · intro listed c u i o hi hmi hr hw hJ hsz hlook
    obtain ⟨hc, rem, A, h1, h2, h3, h3', h4, h5, h6, h7, h8⟩ := hJ
    obtain ⟨hun, oi, hoi, hall⟩ := mem_ready.1 hr
    obtain ⟨hunf, hlt⟩ := getD_f hun
    have hil : i < l.length := (List.getElem?_eq_some_iff.1 hi).1
    have hiM : i ∈ marks l m := mem_marks.2 ⟨hil, hmi⟩
    have hirem : i ∈ rem := by
      by_cases h : i ∈ rem
      · exact h
      · have := h2 i hiM h
        rw [hunf] at this
        cases this
    have hbef : ∀ j, j ≠ i → befB l n j i = true → listed.getD j false = true := fun j hj hb => by
      have hl2 := befB_spec (step listed i hr hc) n j i hil hb (getD_at hlt)
      rw [getD_set_ne false (fun e => hj e.symm)] at hl2
      exact hl2
    have hrdy : i ∈ rdy l n rem := by
      refine List.mem_filter.2 ⟨hirem, List.all_eq_true.2 fun j hj => ?_⟩
      by_cases hji : j = i
      · subst hji; simp
      · cases hb : befB l n j i with
        | false => simp
        | true =>
          have := hbef j hji hb
          rw [(h3 j hj).1] at this
          cases this
    obtain ⟨k, hk⟩ : ∃ k, rem.length = k + 1 := ⟨rem.length - 1, by have := List.length_pos_of_mem hirem; omega⟩
    have hke : (rem.erase i).length = k := by rw [List.length_erase_of_mem hirem, hk]; rfl
    rw [hk] at h4
    have hsame : ∀ d ∈ o.looksAt l.toArray, slot c d = slot A d := by
      intro d hd
      cases hb : bs.contains d with
      | false => rw [hlook d hd hb, h7 d hb]
      | true =>
        have := t3 i hiM
        rw [hi] at this
        have := List.all_eq_true.1 this d hd
        simp only [hb, Bool.not_true, Bool.false_or] at this
        obtain ⟨j, hjM, hj⟩ := List.any_eq_true.1 this
        simp only [Bool.and_eq_true, decide_eq_true_eq] at hj
        obtain ⟨oj, hoj, hjd⟩ := dst_of hj.2
        have hjl := hbef j hj.1.1 hj.1.2
        refine (h8 j hjM (fun hin => ?_) oj d hoj hjd).symm
        rw [(h3 j hin).1] at hjl
        cases hjl
    have hex : execOp c.eval o = execOp A.eval o := execOp_congr o (fun cs bb => Region.noSelect_spec hsel i o cs bb (by rw [List.getElem?_toArray]; exact hi)) fun x hx => by
      cases x with
      | tmp t => exact hsame t (List.mem_append_left _ (List.mem_filterMap.2 ⟨.tmp t, by simpa using hx, rfl⟩))
      | _ => rfl
    refine Oper.wp_mono (fun c' w' hh => ?_) (h4 i hrdy o hi u (Ext.refl u) (h3' (fun h => by rw [h] at hirem; cases hirem)) c Q hex)
    obtain ⟨v, rfl, hcw, hcm, ht⟩ := hh
    refine ⟨v, rfl, hcw, step listed i hr hc, rem.erase i, A.put o.dst v, h1.erase i, fun j hj hn => ?_, fun j hj => ?_, fun hr => hcm (fun h0 => hr (List.eq_nil_of_length_eq_zero (hke.trans h0))), hke ▸ ht, by rw [defers_put, h5], by rw [size_put, h6], fun d hd => ?_, fun j hj hn oj d hoj hd => ?_⟩
    · by_cases hji : j = i
      · subst hji; exact getD_at hlt
      · exact getD_set_true (h2 j hj (fun h => hn ((List.mem_erase_of_ne hji).2 h)))
    · have hne : i ≠ j := fun e => by subst e; exact (List.Nodup.not_mem_erase h1) hj
      rw [getD_set_ne false hne]
      exact h3 j (List.mem_of_mem_erase hj)
    · have hne : o.dst ≠ some d := fun hod => by
        have := (hsp i o hi).own d hod
        rw [hmi, hd] at this
        cases this
      rw [slot_put_ne hne]
      exact h7 d hd
    · by_cases hji : j = i
      · subst hji
        have : oj = o := Option.some.inj (hoj.symm.trans hi)
        subst this
        rw [hd]
        rcases Nat.lt_or_ge d c.tmps.size with k | k
        · rw [slot_put_eq k, slot_put_eq (by rw [h6, hF, ← hsz]; exact k)]
        · rw [slot_out (a := A.put (some d) v) (by rw [size_put, h6, hF, ← hsz]; exact k), slot_out (by rw [size_put]; exact k)]
      · have h9 := (hsp j oj hoj).one i o d hi (fun e => hji e.symm) hd
        rw [slot_put_ne h9, slot_put_ne h9]
        exact h8 j hj (fun h => hn ((List.mem_erase_of_ne hji).2 h)) oj d hoj hd
  · intro c u hw hdf hsz hsl hJ
    obtain ⟨hc, rem, A, h1, h2, h3, h3', h4, h5, h6, h7, h8⟩ := hJ
    have hrem : rem = [] := by
      cases rem with
      | nil => rfl
      | cons i r =>
        exfalso
        have := h3 i (by simp)
        simp [(mem_marks.1 this.2).1] at this
    subst hrem
    have hA : A = c := act_ext (h5.trans hdf.symm) (h6.trans hsz.symm) fun d hd => by
      cases hb : bs.contains d with
      | false => rw [h7 d hb, hsl d hb]
      | true =>
        obtain ⟨j, hjM, hj⟩ := List.any_eq_true.1 (t2 d (by simpa using hb))
        obtain ⟨oj, hoj, hjd⟩ := dst_of hj
        exact h8 j hjM (by simp) oj d hoj hjd
    subst hA
    exact h4 u (Ext.refl u) hw
end Go.Proofs.YtbbfmlehddfneaaGreat

namespace Go.Proofs.YtbbfmlehddfneaaGreat
open Go.RowKit
set_option linter.unusedVariables false
section
variable {P : Program}
def mixOp (l : List Oper) (m : List (Option Value)) (bs : List Tmp) (n : Nat) (i : Nat) (oi : Oper) : Bool :=
  oi.after.all (fun e => !Region.binds .any e || decide (e.on < i)) &&
  (match oi.dst with | some d => !bs.contains d || (m.getD i none).isSome | none => true) &&
  ((List.range l.length).all fun k => k == i || match l[k]? with | some ok => oi.dst.isNone || oi.dst != ok.dst | none => true) &&
  ((oi.looksAt l.toArray).all fun d => if bs.contains d then (m.getD i none).isSome && (match oi.guard with | some (g, _) => (l[g]?).bind (·.dst) != some d | none => true) && ((marksK l m).any fun j => decide (j ≠ i) && befB l n j i && (l[j]?).bind (·.dst) == some d)
    else (List.range l.length).all fun k => match l[k]? with
    | some ok => ok.dst != some d || (decide (k < i) && waitsB l i k) || ((m.getD i none).isNone && decide (i < k) && waitsB l k i)
    | none => true)
def mixB (l : List Oper) (m : List (Option Value)) (bs : List Tmp) (n : Nat) : Bool :=
  Region.noSelect l.toArray && ((List.range l.length).all fun i => match l[i]? with | some oi => mixOp l m bs n i oi | none => true) &&
  bs.all fun d => (marksK l m).any fun i => (l[i]?).bind (·.dst) == some d
structure MixOp (l : List Oper) (m : List (Option Value)) (bs : List Tmp) (n : Nat) (i : Nat) (oi : Oper) : Prop where
  back : ∀ e ∈ oi.after, Region.binds .any e = true → e.on < i
  own : ∀ d, oi.dst = some d → bs.contains d = true → (m.getD i none).isSome = true
  one : ∀ k ok d, l[k]? = some ok → k ≠ i → oi.dst = some d → ok.dst ≠ some d
  lookb : ∀ d ∈ oi.looksAt l.toArray, bs.contains d = true → (m.getD i none).isSome = true ∧ (∀ g wt, oi.guard = some (g, wt) → (l[g]?).bind (·.dst) ≠ some d) ∧ ∃ j ∈ marksK l m, j ≠ i ∧ befB l n j i = true ∧ (l[j]?).bind (·.dst) = some d
  look : ∀ d ∈ oi.looksAt l.toArray, bs.contains d = false → ∀ (k : Nat) (ok : Oper), l[k]? = some ok → ok.dst = some d → (k < i ∧ waitsB l i k = true) ∨ ((m.getD i none).isNone = true ∧ i < k ∧ waitsB l k i = true)
theorem mixB_spec {l : List Oper} {m : List (Option Value)} {bs : List Tmp} {n : Nat} (h : mixB l m bs n = true) : Region.noSelect l.toArray = true ∧ (∀ i oi, l[i]? = some oi → MixOp l m bs n i oi) ∧ ∀ d, bs.contains d = true → ∃ i ∈ marksK l m, (l[i]?).bind (·.dst) = some d := by
  simp only [mixB, Bool.and_eq_true] at h
  refine ⟨h.1.1, fun i oi hi => ?_, fun d hd => ?_⟩
  · have hlt : i < l.length := (List.getElem?_eq_some_iff.1 hi).1
    have h1 := List.all_eq_true.1 h.1.2 i (List.mem_range.2 hlt)
    simp only [hi, mixOp, Bool.and_eq_true] at h1
    obtain ⟨⟨⟨a1, a2⟩, a3⟩, a4⟩ := h1
    refine ⟨fun e he hb => by simpa [hb] using Array.all_eq_true_iff_forall_mem.1 a1 e he, fun d hd hb => (by rw [hd] at a2; simp only [hb, Bool.not_true, Bool.false_or] at a2; exact a2), fun k ok d hk hne hd => ?_, fun d hd hb => ?_, fun d hd hb k ok hk hkd => ?_⟩
    · have hkl : k < l.length := (List.getElem?_eq_some_iff.1 hk).1
      have := List.all_eq_true.1 a3 k (List.mem_range.2 hkl)
      simp only [hk, hd, Bool.or_eq_true, beq_iff_eq, Option.isNone_some, Bool.false_eq_true, false_or, bne_iff_ne, ne_eq] at this
      rcases this with h | h
      · exact absurd h hne
      · exact fun k => h k.symm
    · have h2 := List.all_eq_true.1 a4 d hd
      simp only [hb, if_true, Bool.and_eq_true] at h2
      obtain ⟨⟨b1, b2⟩, b3⟩ := h2
      refine ⟨b1, fun g wt hg => ?_, ?_⟩
      · rw [hg] at b2
        simpa using b2
      · obtain ⟨j, hj, hjj⟩ := List.any_eq_true.1 b3
        simp only [Bool.and_eq_true, decide_eq_true_eq, beq_iff_eq] at hjj
        exact ⟨j, hj, hjj.1.1, hjj.1.2, hjj.2⟩
    · have h2 := List.all_eq_true.1 a4 d hd
      simp only [hb, Bool.false_eq_true, if_false] at h2
      have hkl : k < l.length := (List.getElem?_eq_some_iff.1 hk).1
      have := List.all_eq_true.1 h2 k (List.mem_range.2 hkl)
      simp only [hk, hkd, bne_self_eq_false, Bool.false_or, Bool.or_eq_true, Bool.and_eq_true, decide_eq_true_eq] at this
      rcases this with h | h
      · exact .inl h
      · exact .inr ⟨h.1.1, h.1.2, h.2⟩
  · obtain ⟨i, hi, hid⟩ := List.any_eq_true.1 (List.all_eq_true.1 h.2 d (by simpa using hd))
    exact ⟨i, hi, by simpa using hid⟩

/-- the marked operations in whatever order may come -/
def tailX (P : Program) (l : List Oper) (n : Nat) (m : List (Option Value)) (bs : List Tmp) (O : List Nat) (w0 : World) (K : Act → World → Prop) : Nat → List Nat → Act → World → Prop
  | 0, _, A, u => ∀ u', Ext u u' → Calm O w0 u' → K A u'
  | k + 1, rem, A, u => ∀ i ∈ rdy l n rem, ∀ o, l[i]? = some o → ∀ u', Ext u u' → Calm O w0 u' → Gives P o A u' (fun v w' => Calm O w0 w' ∧ ((∃ d, o.dst = some d ∧ bs.contains d = true) ∨ m.getD i none = some v) ∧ tailX P l n m bs O w0 K k (rem.erase i) (A.put o.dst v) w')
theorem tailX_ext {l : List Oper} {n : Nat} {m : List (Option Value)} {bs : List Tmp} {O : List Nat} {w0 : World} {K : Act → World → Prop} {k : Nat} {rem : List Nat} {A : Act} {u u' : World} (h : tailX P l n m bs O w0 K k rem A u) (x : Ext u u') : tailX P l n m bs O w0 K k rem A u' := by
  cases k with
  | zero => exact fun u2 x2 => h u2 (x.trans x2)
  | succ k => exact fun i hi o ho u2 x2 => h i hi o ho u2 (x.trans x2)
/-- an operation whose value is not known ahead -/
theorem tailX_new {l : List Oper} {n : Nat} {m : List (Option Value)} {bs : List Tmp} {O : List Nat} {w0 : World} {K : Act → World → Prop} {k : Nat} {rem rem' : List Nat} {A : Act} {u : World} (i : Nat) (o : Oper) (d : Tmp) (hR : rdy l n rem = [i]) (ho : l[i]? = some o) (hd : o.dst = some d) (hb : bs.contains d = true) (he : rem.erase i = rem')
    (h : ∀ u', Ext u u' → Calm O w0 u' → Gives P o A u' (fun v w' => Calm O w0 w' ∧ tailX P l n m bs O w0 K k rem' (A.put (some d) v) w')) : tailX P l n m bs O w0 K (k + 1) rem A u := by
  intro j hj oj hoj
  rw [hR, List.mem_singleton] at hj
  subst hj
  have : oj = o := Option.some.inj (hoj.symm.trans ho)
  subst this
  rw [he]
  intro u' x c c0 Q hq
  refine Oper.wp_mono (fun c' w' hh => ?_) (h u' x c c0 Q hq)
  obtain ⟨v, h1, h2, h3⟩ := hh
  exact ⟨v, h1, h2, .inl ⟨d, hd, hb⟩, by rw [hd]; exact h3⟩
/-- one whose value is -/
theorem tailX_known {l : List Oper} {n : Nat} {m : List (Option Value)} {bs : List Tmp} {O : List Nat} {w0 : World} {K : Act → World → Prop} {k : Nat} {rem rem' : List Nat} {A : Act} {u : World} (i : Nat) (o : Oper) (v : Value) (hR : rdy l n rem = [i]) (ho : l[i]? = some o) (hv : m.getD i none = some v) (he : rem.erase i = rem')
    (h : ∀ u', Ext u u' → Calm O w0 u' → Gives P o A u' (fun v' w' => v' = v ∧ Calm O w0 w' ∧ tailX P l n m bs O w0 K k rem' (A.put o.dst v) w')) : tailX P l n m bs O w0 K (k + 1) rem A u := by
  intro j hj oj hoj
  rw [hR, List.mem_singleton] at hj
  subst hj
  have : oj = o := Option.some.inj (hoj.symm.trans ho)
  subst this
  rw [he]
  intro u' x c c0 Q hq
  refine Oper.wp_mono (fun c' w' hh => ?_) (h u' x c c0 Q hq)
  obtain ⟨v', h1, rfl, h2, h3⟩ := hh
  exact ⟨_, h1, h2, .inr hv, h3⟩
theorem tailX_pair {l : List Oper} {n : Nat} {m : List (Option Value)} {bs : List Tmp} {O : List Nat} {w0 : World} {K : Act → World → Prop} {k : Nat} {rem : List Nat} {A : Act} {u : World} (i j : Nat) (hR : rdy l n rem = [i, j])
    (h1 : ∀ o, l[i]? = some o → ∀ u', Ext u u' → Calm O w0 u' → Gives P o A u' (fun v w' => Calm O w0 w' ∧ ((∃ d, o.dst = some d ∧ bs.contains d = true) ∨ m.getD i none = some v) ∧ tailX P l n m bs O w0 K k (rem.erase i) (A.put o.dst v) w'))
    (h2 : ∀ o, l[j]? = some o → ∀ u', Ext u u' → Calm O w0 u' → Gives P o A u' (fun v w' => Calm O w0 w' ∧ ((∃ d, o.dst = some d ∧ bs.contains d = true) ∨ m.getD j none = some v) ∧ tailX P l n m bs O w0 K k (rem.erase j) (A.put o.dst v) w')) : tailX P l n m bs O w0 K (k + 1) rem A u := by
  intro x hx
  rw [hR] at hx
  rcases List.mem_cons.1 hx with h | h
  · subst h; exact h1
  · rw [List.mem_singleton] at h
    subst h; exact h2

theorem CInv.step' {l : List Oper} {bs : List Tmp} {a0 F c : Act} {listed : Array Bool} {i : Nat} {oi : Oper} {v : Value} (inv : CInv l bs a0 F listed c) (hF : F.tmps.size = a0.tmps.size)
    (hone : ∀ (i : Nat) (oi : Oper), l[i]? = some oi → ∀ (k : Nat) (ok : Oper) (d : Tmp), l[k]? = some ok → k ≠ i → oi.dst = some d → ok.dst ≠ some d) (hi : l[i]? = some oi) (hr : i ∈ Region.ready .any l.toArray listed)
    (hv : ∀ d, bs.contains d = false → oi.dst = some d → d < a0.tmps.size → slot F d = v) : CInv l bs a0 F (listed.setIfInBounds i true) (c.put oi.dst v) := by
  obtain ⟨hun, oi', hoi', hall⟩ := mem_ready.1 hr
  have e : oi' = oi := by
    have := hoi'
    rw [List.getElem?_toArray, hi] at this
    exact (Option.some.inj this).symm
  subst e
  obtain ⟨hunf, hlt⟩ := getD_f hun
  refine ⟨by simp [inv.lsz], fun j oj hj hl e he hb => ?_, by rw [defers_put, inv.df], by rw [size_put, inv.sz], fun d hd k ok hk hkd hl => ?_, fun d hd hno => ?_⟩
  · by_cases hij : i = j
    · subst hij
      have : oj = oi' := Option.some.inj (hj.symm.trans hi)
      subst this
      exact getD_set_true (hall e he hb)
    · rw [getD_set_ne false hij] at hl
      exact getD_set_true (inv.closed j oj hj hl e he hb)
  · by_cases hij : i = k
    · subst hij
      have : ok = oi' := Option.some.inj (hk.symm.trans hi)
      subst this
      rcases Nat.lt_or_ge d a0.tmps.size with hb | hb
      · rw [hkd, slot_put_eq (by rw [inv.sz]; exact hb), hv d hd hkd hb]
      · rw [slot_out (by rw [size_put, inv.sz]; exact hb), slot_out (by rw [hF]; exact hb)]
    · rw [getD_set_ne false hij] at hl
      rw [slot_put_ne (hone k ok hk i oi' d hi hij hkd)]
      exact inv.yes d hd k ok hk hkd hl
  · have hne : oi'.dst ≠ some d := fun k => by
      have := hno i oi' hi k
      rw [getD_at hlt] at this
      cases this
    rw [slot_put_ne hne]
    exact inv.no d hd fun k ok hk hkd => getD_sub (hno k ok hk hkd)

/-- what is left of the marked ones -/
def JMix (P : Program) (l : List Oper) (n : Nat) (m : List (Option Value)) (bs : List Tmp) (O : List Nat) (w0 : World) (F : Act) (K : Act → World → Prop) (listed : Array Bool) (c : Act) (u : World) : Prop :=
  ∃ (rem : List Nat) (A : Act), rem.Nodup ∧ (∀ i ∈ marksK l m, i ∉ rem → listed.getD i false = true) ∧ (∀ i ∈ rem, listed.getD i false = false ∧ i ∈ marksK l m) ∧
    tailX P l n m bs O w0 K rem.length rem A u ∧ A.defers = F.defers ∧ A.tmps.size = F.tmps.size ∧ (∀ d, bs.contains d = false → slot A d = slot F d) ∧
    (∀ i ∈ marksK l m, i ∉ rem → ∀ o d, l[i]? = some o → o.dst = some d → bs.contains d = true → slot A d = slot c d)

theorem wpAny_mix {l : List Oper} {m : List (Option Value)} {bs : List Tmp} {n0 : Nat} {O : List Nat} {w0 : World} {a0 F : Act} {Q : Exit → Act → World → Prop}
    (hB : mixB l m bs n0 = true)
    (hG : ∀ i ∈ marksK l m, ∀ o, l[i]? = some o → Region.wanted o (yielded l.toArray F.tmps) = true)
    (H : ∀ x, Calm O w0 x → wpQuiet P (replM m l).toArray (fun w' => ∃ y : Wx x, w' = y.val) (fun a' => a' = F) (replM m l) a0) :
    ∀ (n : Nat) (listed : Array Bool) (c : Act) (w : World), cnt listed.toList = n → CInv l bs a0 F listed c → Calm O w0 w → JMix P l n0 m bs O w0 F (fun A u => Q .normal A u) listed c w → wpAny P .any l.toArray Q n listed c w := by
  obtain ⟨hsel, hsp, t2⟩ := mixB_spec hB
  have hone : ∀ (i : Nat) (oi : Oper), l[i]? = some oi → ∀ (k : Nat) (ok : Oper) (d : Tmp), l[k]? = some ok → k ≠ i → oi.dst = some d → ok.dst ≠ some d := fun i oi hi => (hsp i oi hi).one
  obtain ⟨⟨F1, F2, F3⟩, _⟩ := quiet_lex _ _ (H w0 (Calm.refl _ _))
  have writer : ∀ (j : Nat) (o' : Oper) (d : Tmp), (replM m l)[j]? = some o' → o'.dst = some d → ∃ ok, l[j]? = some ok ∧ ok.dst = some d := by
    intro j o' d hj hd
    rw [replM_get] at hj
    obtain ⟨o, ho, rfl⟩ := Option.map_eq_some_iff.1 hj
    refine ⟨o, ho, ?_⟩
    split at hd <;> exact hd
  have F3' : ∀ d, (∀ (k : Nat) (ok : Oper), l[k]? = some ok → ok.dst ≠ some d) → slot F d = slot a0 d := fun d hd => F3 d fun j o' hj hod => by
    obtain ⟨ok, hk, hkd⟩ := writer j o' d hj hod
    exact hd j ok hk hkd
  have step : ∀ (listed : Array Bool) (i : Nat), i ∈ Region.ready .any l.toArray listed → (∀ j oj, l[j]? = some oj → listed.getD j false = true → ∀ e ∈ oj.after, Region.binds .any e = true → listed.getD e.on false = true) →
      ∀ j oj, l[j]? = some oj → (listed.setIfInBounds i true).getD j false = true → ∀ e ∈ oj.after, Region.binds .any e = true → (listed.setIfInBounds i true).getD e.on false = true := by
    intro listed i hr hc j oj hj hl e he hb
    obtain ⟨hun, oi, hoi, hall⟩ := mem_ready.1 hr
    rw [List.getElem?_toArray] at hoi
    by_cases hij : i = j
    · subst hij
      have : oj = oi := Option.some.inj (hj.symm.trans hoi)
      subst this
      exact getD_set_true (hall e he hb)
    · rw [getD_set_ne false hij] at hl
      exact getD_set_true (hc j oj hj hl e he hb)
  have allDone : ∀ (listed : Array Bool) (c : Act) (w : World), CInv l bs a0 F listed c → Calm O w0 w → JMix P l n0 m bs O w0 F (fun A u => Q .normal A u) listed c w → Region.ready .any l.toArray listed = [] → Q .normal c w := by
    intro listed c w inv hw hJ h0
    have hall : ∀ i, i < l.length → listed.getD i false = true := by
      intro i
      induction i using Nat.strongRecOn with
      | _ i ih =>
        intro hi
        cases hl : listed.getD i false with
        | true => rfl
        | false =>
          have hoi : l[i]? = some l[i] := List.getElem?_eq_getElem hi
          have : i ∈ Region.ready .any l.toArray listed := by
            refine mem_ready.2 ⟨?_, l[i], by rw [List.getElem?_toArray]; exact hoi, fun e he hb => ?_⟩
            · have hs : i < listed.size := by rw [inv.lsz]; exact hi
              simp [hs] at hl ⊢; exact hl
            · have hlt := (hsp i _ hoi).back e he hb
              exact ih e.on hlt (by omega)
          rw [h0] at this
          cases this
    obtain ⟨rem, A, h1, h2, h3, h4, h5, h6, h7, h8⟩ := hJ
    have hrem : rem = [] := by
      cases rem with
      | nil => rfl
      | cons i r =>
        exfalso
        have h5 := h3 i (by simp)
        rw [hall i (mem_marksK.1 h5.2).1] at h5
        cases h5.1
    subst hrem
    have hA : A = c := act_ext (h5.trans (inv.df.trans F1.symm).symm) (h6.trans (inv.sz.trans F2.symm).symm) fun d _ => by
      cases hb : bs.contains d with
      | false =>
        rw [h7 d hb]
        by_cases hex : ∃ (k : Nat) (ok : Oper), l[k]? = some ok ∧ ok.dst = some d
        · obtain ⟨k, ok, hk, hkd⟩ := hex
          exact (inv.yes d hb k ok hk hkd (hall k (List.getElem?_eq_some_iff.1 hk).1)).symm
        · have hno : ∀ (k : Nat) (ok : Oper), l[k]? = some ok → ok.dst ≠ some d := fun k ok hk hkd => hex ⟨k, ok, hk, hkd⟩
          rw [F3' d hno]
          exact (inv.no d hb fun k ok hk hkd => absurd hkd (hno k ok hk)).symm
      | true =>
        obtain ⟨j, hjM, hj⟩ := t2 d hb
        obtain ⟨oj, hoj, hjd⟩ := Option.bind_eq_some_iff.1 hj
        exact h8 j hjM (by simp) oj d hoj hjd hb
    subst hA
    exact h4 w (Ext.refl w) hw
  intro n
  induction n with
  | zero =>
    intro listed c w hn inv hw hJ
    have h0 : Region.ready .any l.toArray listed = [] := by
      rw [List.eq_nil_iff_forall_not_mem]
      intro i hi
      obtain ⟨hun, _⟩ := mem_ready.1 hi
      obtain ⟨hf, hlt⟩ := getD_f hun
      refine cnt_zero listed.toList i hn ?_
      simp [hlt] at hf
      simp [hlt, hf]
    exact ⟨h0, allDone listed c w inv hw hJ h0⟩
  | succ n ih =>
    intro listed c w hn inv hw hJ
    refine ⟨allDone listed c w inv hw hJ, fun i hi => ?_⟩
    obtain ⟨hun, oi, hoi, hall⟩ := mem_ready.1 hi
    rw [List.getElem?_toArray] at hoi
    obtain ⟨hf, hlt⟩ := getD_f hun
    have hil : i < l.length := (List.getElem?_eq_some_iff.1 hoi).1
    have hcnt : cnt (listed.setIfInBounds i true).toList = n := by
      have := cnt_set listed.toList i (by simp [hlt] at hf; simp [hlt, hf])
      simp only [Array.toList_setIfInBounds]
      omega
    have sp := hsp i oi hoi
    obtain ⟨_, g⟩ := quiet_lex _ _ (H w hw)
    obtain ⟨o', ho'⟩ : ∃ o', (replM m l)[i]? = some o' := ⟨_, by rw [replM_get, hoi]; rfl⟩
    have ho'g : o'.guard = oi.guard ∧ o'.dst = oi.dst := by
      have := ho'
      rw [replM_get, hoi] at this
      simp only [Option.map_some, Option.some.injEq] at this
      rw [← this]
      split <;> exact ⟨rfl, rfl⟩
    obtain ⟨b, v, b1, b2, b3, b4, b5, b6⟩ := g i o' ho'
    have same : ∀ d ∈ oi.looksAt l.toArray, bs.contains d = false → slot c d = slot b d := by
      intro d hd hbd
      by_cases hex : ∃ (k : Nat) (ok : Oper), l[k]? = some ok ∧ ok.dst = some d
      · obtain ⟨k, ok, hk, hkd⟩ := hex
        rcases sp.look d hd hbd k ok hk hkd with ⟨hki, hwt⟩ | ⟨_, hik, hwt⟩
        · obtain ⟨e, he, heb, heo⟩ := waitsB_spec hoi hwt
          rw [inv.yes d hbd k ok hk hkd (heo ▸ hall e he heb)]
          refine b3 d fun j o2 hj ho2 hdd => ?_
          obtain ⟨oj, hoj, hojd⟩ := writer j o2 d ho2 hdd
          exact (hsp k ok hk).one j oj d hoj (by omega) hkd hojd
        · have hknl : listed.getD k false = false := by
            cases hl : listed.getD k false with
            | false => rfl
            | true =>
              obtain ⟨e, he, heb, heo⟩ := waitsB_spec hk hwt
              have := inv.closed k ok hk hl e he heb
              rw [heo, hf] at this
              cases this
          rw [inv.no d hbd fun j oj hj hjd => by
            by_cases hjk : j = k
            · subst hjk; exact hknl
            · exact absurd hjd ((hsp k ok hk).one j oj d hj hjk hkd)]
          refine (b2 d fun j o2 hj ho2 hdd => ?_).symm
          obtain ⟨oj, hoj, hojd⟩ := writer j o2 d ho2 hdd
          exact (hsp k ok hk).one j oj d hoj (by omega) hkd hojd
      · have hno : ∀ (k : Nat) (ok : Oper), l[k]? = some ok → ok.dst ≠ some d := fun k ok hk hkd => hex ⟨k, ok, hk, hkd⟩
        rw [inv.no d hbd fun k ok hk hkd => absurd hkd (hno k ok hk)]
        refine (b2 d fun j o2 hj ho2 hdd => ?_).symm
        obtain ⟨oj, hoj, hojd⟩ := writer j o2 d ho2 hdd
        exact hno j oj hoj hojd
    have gslot : ∀ gg want d, oi.guard = some (gg, want) → (l.toArray[gg]?).bind (·.dst) = some d → d ∈ oi.looksAt l.toArray ∧ bs.contains d = false := by
      intro gg want d hg hgd
      have hd : d ∈ oi.looksAt l.toArray := List.mem_append_right _ (by simp only [hg, hgd]; simp)
      refine ⟨hd, ?_⟩
      cases hb : bs.contains d with
      | false => rfl
      | true => exact absurd (by rw [List.getElem?_toArray] at hgd; exact hgd) ((sp.lookb d hd hb).2.1 gg want hg)
    have hwant : Region.wanted oi (yielded l.toArray c.tmps) = Region.wanted o' (yielded (replM m l).toArray b.tmps) := by
      unfold Region.wanted
      rw [ho'g.1]
      cases hg : oi.guard with
      | none => rfl
      | some gw =>
        obtain ⟨gg, want⟩ := gw
        simp only [yielded, repl_dst]
        cases hgd : (l.toArray[gg]?).bind (·.dst) with
        | none => rfl
        | some d =>
          obtain ⟨hd, hbd⟩ := gslot gg want d hg hgd
          simp only [Option.bind_some]
          rw [getElem?_of_slot (inv.sz.trans b1.symm) (same d hd hbd)]
    have hval : ∀ d, bs.contains d = false → oi.dst = some d → d < a0.tmps.size → slot F d = v := fun d _ hdd hlt' => b6 d (ho'g.2.trans hdd) (fun j o2 hj ho2 hjd => by
      obtain ⟨oj, hoj, hojd⟩ := writer j o2 d ho2 hjd
      exact sp.one j oj d hoj (by omega) hdd hojd) hlt'
    unfold wpOp
    rw [List.getElem?_toArray, hoi]
    simp only
    obtain ⟨rem, A, h1, h2, h3, h4, h5, h6, h7, h8⟩ := hJ
    by_cases hmk : i ∈ marksK l m
    · obtain ⟨vm, hvm⟩ : ∃ vm, m.getD i none = some vm := Option.isSome_iff_exists.1 (mem_marksK.1 hmk).2
      have hlookF : ∀ d ∈ oi.looksAt l.toArray, bs.contains d = false → slot c d = slot F d := by
        intro d hd hbd
        by_cases hex : ∃ (k : Nat) (ok : Oper), l[k]? = some ok ∧ ok.dst = some d
        · obtain ⟨k, ok, hk, hkd⟩ := hex
          rcases sp.look d hd hbd k ok hk hkd with ⟨hki, hwt⟩ | ⟨hnn, hik, hwt⟩
          · obtain ⟨e, he, heb, heo⟩ := waitsB_spec hoi hwt
            exact inv.yes d hbd k ok hk hkd (heo ▸ hall e he heb)
          · rw [hvm] at hnn
            cases hnn
        · have hno : ∀ (k : Nat) (ok : Oper), l[k]? = some ok → ok.dst ≠ some d := fun k ok hk hkd => hex ⟨k, ok, hk, hkd⟩
          rw [F3' d hno]
          exact inv.no d hbd fun k ok hk hkd => absurd hkd (hno k ok hk)
      have hwc : Region.wanted oi (yielded l.toArray c.tmps) = true := by
        rw [← hG i hmk oi hoi]
        unfold Region.wanted
        cases hg : oi.guard with
        | none => rfl
        | some gw =>
          obtain ⟨gg, want⟩ := gw
          simp only [yielded]
          cases hgd : (l.toArray[gg]?).bind (·.dst) with
          | none => rfl
          | some d =>
            obtain ⟨hd, hbd⟩ := gslot gg want d hg hgd
            simp only [Option.bind_some]
            rw [getElem?_of_slot (inv.sz.trans F2.symm) (hlookF d hd hbd)]
      rw [if_pos hwc]
      have hv : v = vm := by
        have hq := b4 (hwant ▸ hwc) w ⟨⟨w, Ext.refl w⟩, rfl⟩
        have e' : o' = { oi with op := .move (.const vm) } := by
          have h5 := ho'
          rw [replM_get, hoi] at h5
          simp only [Option.map_some, Option.some.injEq, hvm] at h5
          exact h5.symm
        rw [e'] at hq
        simp only [Oper.quietAt, execOp, Sem.run_pure, Oper.quietUpon, Act.eval] at hq
        exact hq.2.symm
      have hirem : i ∈ rem := by
        by_cases h : i ∈ rem
        · exact h
        · have := h2 i hmk h
          rw [hf] at this
          cases this
      have hbef : ∀ j, j ≠ i → befB l n0 j i = true → listed.getD j false = true := fun j hj hb => by
        have hl2 := befB_spec (step listed i hi inv.closed) n0 j i hil hb (getD_at hlt)
        rw [getD_set_ne false (fun e => hj e.symm)] at hl2
        exact hl2
      have hrdy : i ∈ rdy l n0 rem := by
        refine List.mem_filter.2 ⟨hirem, List.all_eq_true.2 fun j hj => ?_⟩
        by_cases hji : j = i
        · subst hji; simp
        · cases hb : befB l n0 j i with
          | false => simp
          | true =>
            have := hbef j hji hb
            rw [(h3 j hj).1] at this
            cases this
      obtain ⟨k, hk⟩ : ∃ k, rem.length = k + 1 := ⟨rem.length - 1, by have := List.length_pos_of_mem hirem; omega⟩
      have hke : (rem.erase i).length = k := by rw [List.length_erase_of_mem hirem, hk]; rfl
      rw [hk] at h4
      have hlookA : ∀ d ∈ oi.looksAt l.toArray, slot c d = slot A d := by
        intro d hd
        cases hb : bs.contains d with
        | false => rw [hlookF d hd hb, h7 d hb]
        | true =>
          obtain ⟨-, -, j, hjM, hji, hjb, hjd⟩ := sp.lookb d hd hb
          obtain ⟨oj, hoj, hjd⟩ := Option.bind_eq_some_iff.1 hjd
          have hjl := hbef j hji hjb
          refine (h8 j hjM (fun hin => ?_) oj d hoj hjd hb).symm
          rw [(h3 j hin).1] at hjl
          cases hjl
      have hex : execOp c.eval oi = execOp A.eval oi := execOp_congr oi (fun cs bb => Region.noSelect_spec hsel i oi cs bb (by rw [List.getElem?_toArray]; exact hoi)) fun x hx => by
        cases x with
        | tmp t => exact hlookA t (List.mem_append_left _ (List.mem_filterMap.2 ⟨.tmp t, by simpa using hx, rfl⟩))
        | _ => rfl
      refine .inl (Oper.wp_mono (fun c' w' hh => ?_) (h4 i hrdy oi hoi w (Ext.refl w) hw c Q hex))
      obtain ⟨v', rfl, hcw, hok, ht⟩ := hh
      have hv' : ∀ d, bs.contains d = false → oi.dst = some d → v' = v := fun d hbd hdd => by
        rcases hok with ⟨d', hd', hb'⟩ | h
        · rw [hdd] at hd'
          cases hd'
          rw [hbd] at hb'
          cases hb'
        · rw [hvm] at h
          rw [hv]
          exact (Option.some.inj h).symm
      refine ih _ _ _ hcnt (inv.step' F2 hone hoi hi fun d hd hdd hlt' => (hval d hd hdd hlt').trans (hv' d hd hdd).symm) hcw ⟨rem.erase i, A.put oi.dst v', h1.erase i, fun j hj hn => ?_, fun j hj => ?_, hke ▸ ht, by rw [defers_put, h5], by rw [size_put, h6], fun d hd => ?_, fun j hj hn oj d hoj hd hb => ?_⟩
      · by_cases hji : j = i
        · subst hji; exact getD_at hlt
        · exact getD_set_true (h2 j hj (fun h => hn ((List.mem_erase_of_ne hji).2 h)))
      · have hne : i ≠ j := fun e => by subst e; exact (List.Nodup.not_mem_erase h1) hj
        rw [getD_set_ne false hne]
        exact h3 j (List.mem_of_mem_erase hj)
      · by_cases hdd : oi.dst = some d
        · rw [hdd]
          rcases Nat.lt_or_ge d A.tmps.size with k | k
          · rw [slot_put_eq k, hv' d hd hdd]
            exact (hval d hd hdd (by rw [← F2, ← h6]; exact k)).symm
          · rw [slot_out (by rw [size_put]; exact k), slot_out (by rw [← h6]; exact k)]
        · rw [slot_put_ne hdd]
          exact h7 d hd
      · by_cases hji : j = i
        · subst hji
          have : oj = oi := Option.some.inj (hoj.symm.trans hoi)
          subst this
          rw [hd]
          rcases Nat.lt_or_ge d c.tmps.size with k | k
          · rw [slot_put_eq k, slot_put_eq (by rw [h6, F2, ← inv.sz]; exact k)]
          · rw [slot_out (a := A.put (some d) v') (by rw [size_put, h6, F2, ← inv.sz]; exact k), slot_out (by rw [size_put]; exact k)]
        · have h9 := (hsp j oj hoj).one i oi d hoi (fun e => hji e.symm) hd
          rw [slot_put_ne h9, slot_put_ne h9]
          exact h8 j hj (fun h => hn ((List.mem_erase_of_ne hji).2 h)) oj d hoj hd hb
    · have hm' : m.getD i none = none := by
        cases hh : m.getD i none with
        | none => rfl
        | some v => exact absurd (mem_marksK.2 ⟨hil, by rw [hh]; rfl⟩) hmk
      have nob : ∀ d ∈ oi.looksAt l.toArray, bs.contains d = false := fun d hd => by
        cases hb : bs.contains d with
        | false => rfl
        | true =>
          have := (sp.lookb d hd hb).1
          rw [hm'] at this
          cases this
      have eo : o' = oi := by
        have h5 := ho'
        rw [replM_get, hoi] at h5
        simp only [Option.map_some, Option.some.injEq, hm'] at h5
        exact h5.symm
      subst eo
      have hex : execOp c.eval o' = execOp b.eval o' := execOp_congr o' (fun cs bb => Region.noSelect_spec hsel i o' cs bb (by rw [List.getElem?_toArray]; exact hoi)) fun x hx => by
        cases x with
        | tmp t =>
          have hd : t ∈ o'.looksAt l.toArray := List.mem_append_left _ (List.mem_filterMap.2 ⟨.tmp t, by simpa using hx, rfl⟩)
          exact same t hd (nob t hd)
        | _ => rfl
      have next : ∀ w', Ext w w' → wpAny P .any l.toArray Q n (listed.setIfInBounds i true) (c.put o'.dst v) w' := fun w' he =>
        ih _ _ _ hcnt (inv.step' F2 hone hoi hi hval) (hw.trans (he.calm O)) ⟨rem, A, h1, fun j hj hn => getD_set_true (h2 j hj hn), fun j hj => by
          have hne : i ≠ j := fun e => by
            subst e
            exact hmk (h3 _ hj).2
          rw [getD_set_ne false hne]
          exact h3 j hj, tailX_ext h4 he, h5, h6, h7, fun j hj hn oj d hoj hd hb => by
            have hne : o'.dst ≠ some d := fun hdd => by
              have := sp.own d hdd hb
              rw [hm'] at this
              cases this
            rw [slot_put_ne hne]
            exact h8 j hj hn oj d hoj hd hb⟩
      by_cases hwt : Region.wanted o' (yielded l.toArray c.tmps) = true
      · rw [if_pos hwt]
        have hq := b4 (hwant ▸ hwt) w ⟨⟨w, Ext.refl w⟩, rfl⟩
        refine .inl ?_
        unfold Oper.wp
        unfold Oper.quietAt at hq
        rw [hex]
        generalize (execOp b.eval o').run P w = r at *
        cases r with
        | ok nx w' =>
          cases nx <;> simp only [Oper.quietUpon] at hq <;> simp only [Oper.upon]
          case value u =>
            obtain ⟨e1, e2⟩ := hq
            rw [e1, e2]
            exact next w (Ext.refl w)
          case skip =>
            obtain ⟨e1, e2⟩ := hq
            rw [e1, ← e2]
            exact next w (Ext.refl w)
          case enter f args =>
            obtain ⟨e1, hc⟩ := hq
            rw [e1]
            refine hc.mono fun e w'' hh => ?_
            obtain ⟨he, ⟨y, hy⟩, hwy⟩ := hh
            subst he
            have hwy' : w'' = y := hwy
            subst hwy'
            exact next _ hy
        | halt x w' => simp only [Oper.quietUpon] at hq
      · rw [if_neg hwt, ← b5 (by rw [← hwant]; simpa using hwt)]
        exact next w (Ext.refl w)

theorem wp_region_mix {id : Nat} {l : List Oper} (n : Nat) (m : List (Option Value)) (bs : List Tmp) (O : List Nat) {w : World} {a : Act} (F : Act) {Q : Exit → Act → World → Prop} (M : List Nat) (k : Nat) (hm : P.follows .mixedOrders = true)
    (hB : mixB l m bs n = true) (hM : marksK l m = M) (hk : M.length = k)
    (H : ∀ x, Calm O w x → wpQuiet P (replM m l).toArray (fun w' => ∃ y : Wx x, w' = y.val) (fun a' => a' = F) (replM m l) a)
    (hG : wantedB l m F.tmps = true)
    (T : tailX P l n m bs O w (fun A u => Q .normal A u) k M F w) :
    (Code.region id l.toArray true).wp P Q a w := by
  subst hk
  subst hM
  refine wp_region_any hm ?_
  have h := wpAny_mix hB (fun i hi o ho => by have := List.all_eq_true.1 hG i hi; rw [ho] at this; exact this) H l.length (Array.replicate l.length false) a w.drew (by simp [cnt_replicate]) ⟨by simp, fun j oj _ hl => (by rw [rep_false] at hl; cases hl), rfl, rfl, fun d _ k ok _ _ hl => (by rw [rep_false] at hl; cases hl), fun d _ _ => rfl⟩ ((Ext.refl w).drew.calm O)
    ⟨marksK l m, F, (marksK_sorted l m).imp (fun h => by omega), (fun i hi hn => absurd hi hn), (fun i hi => ⟨rep_false _ _, hi⟩), tailX_ext T (Ext.refl w).drew, rfl, rfl, fun _ _ => rfl, fun i hi hn => absurd hi hn⟩
  simpa using h
end
end Go.Proofs.YtbbfmlehddfneaaGreat

