/-
  DERIVED. Calm regions that make variables of their own and store into them ('x, y := f(a), g(b)' with structs or arrays), or store into blocks of the call's own: what stands behind the region is ONE goal: the frame written out, each variable's block a letter, its cells known.
-/
import Derived.Test.YtjohcngmoemmbaaCalm
namespace Go.Proofs.Ytjohcngmoemmbaa
open Go.RowKit
set_option linter.unusedVariables false

/-- a variable that the region makes (ai: the operation that makes it, s: its slot), or a block b of the call's own (ai = none); si: the operation that stores into it; its cells before (z) and behind (z') the store -/
structure Tgt where
  ai : Option Nat
  s : Tmp
  b : Nat
  si : Option Nat
  T : TypeId
  z : Array Value
  z' : Array Value

def tgtB (l : List Oper) (m : List Bool) (bs : List Tmp) (ts : List Tgt) : Bool :=
  ((List.range l.length).all fun i => !m.getD i false || ts.any fun t => t.ai == some i || t.si == some i) &&
  (ts.all fun t =>
    (match t.ai with | some i => m.getD i false && bs.contains t.s && ((l[i]?).map (·.dst) == some (some t.s)) && t.si != some i | none => true) &&
    (match t.si with | some j => m.getD j false && ((l[j]?).map (·.dst) == some none) && (match t.ai with | some i => waitsB l j i | none => true) | none => true)) &&
  ((List.range ts.length).all fun k => (List.range ts.length).all fun k' => k == k' || match ts[k]?, ts[k']? with
    | some t, some t' => (t.ai.isNone || (t.ai != t'.ai && t.ai != t'.si && t.s != t'.s)) && (t.si.isNone || t.si != t'.si)
    | _, _ => true)

structure TStat (l : List Oper) (m : List Bool) (bs : List Tmp) (ts : List Tgt) : Prop where
  s1 : ∀ i, i < l.length → m.getD i false = true → ∃ (k : Nat) (t : Tgt), ts[k]? = some t ∧ (t.ai = some i ∨ t.si = some i)
  s2 : ∀ (k : Nat) (t : Tgt) (i : Nat), ts[k]? = some t → t.ai = some i → m.getD i false = true ∧ bs.contains t.s = true ∧ (∃ o, l[i]? = some o ∧ o.dst = some t.s) ∧ t.si ≠ some i
  s3 : ∀ (k : Nat) (t : Tgt) (j : Nat), ts[k]? = some t → t.si = some j → m.getD j false = true ∧ (∃ o, l[j]? = some o ∧ o.dst = none) ∧ ∀ i, t.ai = some i → waitsB l j i = true
  s4 : ∀ (k k' : Nat) (t t' : Tgt) (i : Nat), ts[k]? = some t → ts[k']? = some t' → k ≠ k' → t.ai = some i → t'.ai ≠ some i ∧ t'.si ≠ some i ∧ t.s ≠ t'.s
  s5 : ∀ (k k' : Nat) (t t' : Tgt) (j : Nat), ts[k]? = some t → ts[k']? = some t' → k ≠ k' → t.si = some j → t'.si ≠ some j

theorem tgtB_spec {l : List Oper} {m : List Bool} {bs : List Tmp} {ts : List Tgt} (h : tgtB l m bs ts = true) : TStat l m bs ts := by
  simp only [tgtB, Bool.and_eq_true] at h
  obtain ⟨⟨h1, h2⟩, h3⟩ := h
  have pair : ∀ (k k' : Nat) (t t' : Tgt), ts[k]? = some t → ts[k']? = some t' → k ≠ k' → (t.ai.isNone || (t.ai != t'.ai && t.ai != t'.si && t.s != t'.s)) = true ∧ (t.si.isNone || t.si != t'.si) = true := by
    intro k k' t t' hk hk' hne
    have a := List.all_eq_true.1 h3 k (List.mem_range.2 (List.getElem?_eq_some_iff.1 hk).1)
    have b := List.all_eq_true.1 a k' (List.mem_range.2 (List.getElem?_eq_some_iff.1 hk').1)
    simp only [hk, hk', Bool.or_eq_true, beq_iff_eq, Bool.and_eq_true] at b
    rcases b with b | b
    · exact absurd b hne
    · simpa only [Bool.or_eq_true, Bool.and_eq_true] using b
  refine ⟨fun i hi hm => ?_, fun k t i hk hai => ?_, fun k t j hk hsi => ?_, fun k k' t t' i hk hk' hne hai => ?_, fun k k' t t' j hk hk' hne hsi => ?_⟩
  · have := List.all_eq_true.1 h1 i (List.mem_range.2 hi)
    rw [hm] at this
    simp only [Bool.not_true, Bool.false_or] at this
    obtain ⟨t, ht, hh⟩ := List.any_eq_true.1 this
    obtain ⟨k, hk⟩ := List.mem_iff_getElem?.1 ht
    exact ⟨k, t, hk, by simpa only [Bool.or_eq_true, beq_iff_eq] using hh⟩
  · have := List.all_eq_true.1 h2 t (List.mem_of_getElem? hk)
    simp only [hai, Bool.and_eq_true, beq_iff_eq, bne_iff_ne] at this
    obtain ⟨⟨⟨⟨a, b⟩, c⟩, d⟩, _⟩ := this
    obtain ⟨o, ho, hd⟩ := Option.map_eq_some_iff.1 c
    exact ⟨a, b, ⟨o, ho, hd⟩, d⟩
  · have := List.all_eq_true.1 h2 t (List.mem_of_getElem? hk)
    simp only [hsi, Bool.and_eq_true, beq_iff_eq] at this
    obtain ⟨_, ⟨a, c⟩, d⟩ := this
    obtain ⟨o, ho, hd⟩ := Option.map_eq_some_iff.1 c
    exact ⟨a, ⟨o, ho, hd⟩, fun i hi => by simpa only [hi] using d⟩
  · have := (pair k k' t t' hk hk' hne).1
    simp only [hai, Option.isNone_some, Bool.false_or, Bool.and_eq_true, bne_iff_ne] at this
    exact ⟨fun e => this.1.1 e.symm, fun e => this.1.2 e.symm, this.2⟩
  · have := (pair k k' t t' hk hk' hne).2
    simp only [hsi, Option.isNone_some, Bool.false_or, bne_iff_ne] at this
    exact fun e => this e.symm

def live (listed : Array Bool) (t : Tgt) : Prop := ∀ i, t.ai = some i → listed.getD i false = true
def doneB (listed : Array Bool) (t : Tgt) : Bool := match t.si with | some j => listed.getD j false | none => false

structure JT (w0 : World) (listed : Array Bool) (c : Act) (w : World) (f : Nat → Nat) (k : Nat) (t : Tgt) : Prop where
  fix : t.ai = none → f k = t.b
  ord : doneB listed t = true → live listed t
  held : live listed t → (∀ i, t.ai = some i → slot c t.s = .pointer (some ⟨f k, 0, none⟩) ∧ w0.heap.size ≤ f k) ∧ f k < w.heap.size ∧ w.heap[f k]? = some (.cells (if doneB listed t then t.z' else t.z) t.T (0, 0))

def JV (ts : List Tgt) (w0 : World) (listed : Array Bool) (c : Act) (w : World) : Prop :=
  ∃ f : Nat → Nat, (∀ (k : Nat) (t : Tgt), ts[k]? = some t → JT w0 listed c w f k t) ∧
    ∀ (k k' : Nat) (t t' : Tgt), ts[k]? = some t → ts[k']? = some t' → k ≠ k' → live listed t → live listed t' → f k ≠ f k'

theorem live_set {listed : Array Bool} {t : Tgt} {i : Nat} (h : t.ai ≠ some i) : live (listed.setIfInBounds i true) t ↔ live listed t := by
  constructor
  · intro hl j hj
    have hne : i ≠ j := fun e => h (by rw [e]; exact hj)
    have := hl j hj
    rwa [getD_set_ne false hne] at this
  · intro hl j hj
    exact getD_set_true (hl j hj)
theorem doneB_set {listed : Array Bool} {t : Tgt} {i : Nat} (h : t.si ≠ some i) : doneB (listed.setIfInBounds i true) t = doneB listed t := by
  unfold doneB
  cases hs : t.si with
  | none => rfl
  | some j => exact getD_set_ne false fun e => h (by rw [e]; exact hs)

theorem heap_setRow_ne (u : World) (g k : Nat) (cs : Array Value) (h : k ≠ g) : (u.setRow g cs).heap[k]? = u.heap[k]? := by
  simp only [World.setRow, Array.getElem?_modify]
  rw [if_neg (fun e => h e.symm)]
theorem heap_setRow_eq {u : World} {g : Nat} {z : Array Value} {t : TypeId} {fr : Nat × Nat} (cs : Array Value) (h : u.heap[g]? = some (.cells z t fr)) : (u.setRow g cs).heap[g]? = some (.cells cs t fr) := by
  simp only [World.setRow, Array.getElem?_modify, if_true, h, Option.map_some]
theorem frozen_setRow (u : World) (g : Nat) (cs : Array Value) (a : Addr) : (u.setRow g cs).frozen? a = u.frozen? a := by
  by_cases h : a.block = g
  · subst h
    simp only [World.frozen?, World.setRow, Array.getElem?_modify, if_true]
    cases hh : u.heap[a.block]? with
    | none => rfl
    | some o => cases o <;> rfl
  · exact World.frozen?_of_block (w := u) (heap_setRow_ne u g a.block cs h)
theorem size_setRow (u : World) (g : Nat) (cs : Array Value) : (u.setRow g cs).heap.size = u.heap.size := by simp [World.setRow]

/-- slots written, one after another -/
def putAll (a : Act) : List (Tmp × Value) → Act
  | [] => a
  | p :: r => putAll (a.put (some p.1) p.2) r
theorem putAll_size : ∀ (ps : List (Tmp × Value)) (a : Act), (putAll a ps).tmps.size = a.tmps.size
  | [], a => rfl
  | p :: r, a => by rw [putAll, putAll_size r, size_put]
theorem putAll_defers : ∀ (ps : List (Tmp × Value)) (a : Act), (putAll a ps).defers = a.defers
  | [], a => rfl
  | p :: r, a => by rw [putAll, putAll_defers r, defers_put]
theorem putAll_slot (c : Act) (d : Tmp) (hd : d < c.tmps.size) : ∀ (ps : List (Tmp × Value)) (a : Act), a.tmps.size = c.tmps.size → (∀ p ∈ ps, p.2 = slot c p.1) → (slot a d = slot c d ∨ ∃ p ∈ ps, p.1 = d) → slot (putAll a ps) d = slot c d
  | [], a, _, _, h => by
    rcases h with h | ⟨p, hp, _⟩
    · exact h
    · cases hp
  | p :: r, a, hs, hp, h => by
    rw [putAll]
    refine putAll_slot c d hd r _ (by rw [size_put]; exact hs) (fun q hq => hp q (List.mem_cons_of_mem _ hq)) ?_
    by_cases hpd : p.1 = d
    · left
      rw [hpd, slot_put_eq (by rw [hs]; exact hd), hp p (List.mem_cons_self ..), hpd]
    · rcases h with h | ⟨q, hq, hqd⟩
      · left
        rw [slot_put_ne (fun e => hpd (Option.some.inj e)), h]
      · rcases List.mem_cons.1 hq with e | e
        · subst e; exact absurd hqd hpd
        · exact .inr ⟨q, e, hqd⟩
theorem act_ext {a c : Act} (h1 : a.defers = c.defers) (h2 : a.tmps.size = c.tmps.size) (h3 : ∀ d, d < c.tmps.size → slot a d = slot c d) : a = c := by
  obtain ⟨t1, d1⟩ := a
  obtain ⟨t2, d2⟩ := c
  simp only at h1 h2
  subst h1
  congr 1
  apply Array.ext h2
  intro i k1 k2
  have := h3 i k2
  simp only [slot, Array.getD_eq_getD_getElem?, Array.getElem?_eq_getElem k1, Array.getElem?_eq_getElem k2, Option.getD_some] at this
  exact this

/-- the slots of the new variables, and what they hold -/
def slotsOf : List Tgt → List Tmp
  | [] => []
  | t :: r => if t.ai.isSome then t.s :: slotsOf r else slotsOf r
def pairs (f : Nat → Nat) : Nat → List Tgt → List (Tmp × Value)
  | _, [] => []
  | k, t :: r => if t.ai.isSome then (t.s, .pointer (some ⟨f k, 0, none⟩)) :: pairs f (k + 1) r else pairs f (k + 1) r
theorem mem_pairs (f : Nat → Nat) : ∀ (ts : List Tgt) (k : Nat) (p : Tmp × Value), p ∈ pairs f k ts → ∃ (j : Nat) (t : Tgt), ts[j]? = some t ∧ t.ai.isSome = true ∧ p = (t.s, .pointer (some ⟨f (k + j), 0, none⟩))
  | [], _, _, h => by cases h
  | t :: r, k, p, h => by
    unfold pairs at h
    by_cases ha : t.ai.isSome = true
    · rw [if_pos ha] at h
      rcases List.mem_cons.1 h with e | e
      · exact ⟨0, t, rfl, ha, e⟩
      · obtain ⟨j, t', h1, h2, h3⟩ := mem_pairs f r (k + 1) p e
        exact ⟨j + 1, t', by simpa using h1, h2, by rw [h3]; congr 5; omega⟩
    · rw [if_neg ha] at h
      obtain ⟨j, t', h1, h2, h3⟩ := mem_pairs f r (k + 1) p h
      exact ⟨j + 1, t', by simpa using h1, h2, by rw [h3]; congr 5; omega⟩
theorem pairs_slots (f : Nat → Nat) (d : Tmp) : ∀ (ts : List Tgt) (k : Nat), d ∈ slotsOf ts → ∃ p ∈ pairs f k ts, p.1 = d
  | [], _, h => by cases h
  | t :: r, k, h => by
    unfold slotsOf at h
    unfold pairs
    by_cases ha : t.ai.isSome = true
    · rw [if_pos ha] at h ⊢
      rcases List.mem_cons.1 h with e | e
      · exact ⟨_, List.mem_cons_self .., e.symm⟩
      · obtain ⟨p, hp, hpd⟩ := pairs_slots f d r (k + 1) e
        exact ⟨p, List.mem_cons_of_mem _ hp, hpd⟩
    · rw [if_neg ha] at h ⊢
      exact pairs_slots f d r (k + 1) h

/-- what is known of the targets behind the region -/
def Known (w0 w : World) (f : Nat → Nat) : Nat → List Tgt → Prop
  | _, [] => True
  | k, t :: r => (if t.ai.isSome then w0.heap.size ≤ f k else f k = t.b) ∧ f k < w.heap.size ∧ w.heap[f k]? = some (.cells (if t.si.isSome then t.z' else t.z) t.T (0, 0)) ∧ (∀ j, j < k → f j ≠ f k) ∧ Known w0 w f (k + 1) r
theorem known_of {w0 w : World} {f : Nat → Nat} {ts : List Tgt}
    (h : ∀ (k : Nat) (t : Tgt), ts[k]? = some t → (if t.ai.isSome then w0.heap.size ≤ f k else f k = t.b) ∧ f k < w.heap.size ∧ w.heap[f k]? = some (.cells (if t.si.isSome then t.z' else t.z) t.T (0, 0)) ∧ (∀ j, j < k → f j ≠ f k)) :
    ∀ (r : List Tgt) (k : Nat), (∀ j, r[j]? = ts[k + j]?) → Known w0 w f k r
  | [], _, _ => trivial
  | t :: r, k, hr => by
    have h0 : ts[k]? = some t := by simpa using (hr 0).symm
    obtain ⟨a, b, c, d⟩ := h k t h0
    refine ⟨a, b, c, d, known_of h r (k + 1) fun j => ?_⟩
    have := hr (j + 1)
    simpa [Nat.add_assoc, Nat.add_comm 1 j] using this

section
variable {P : Program}

/-- how the operation that makes the variable t, and the one that stores into it, run -/
structure TgtOk (P : Program) (l : List Oper) (bs : List Tmp) (O : List Nat) (w : World) (a F : Act) (t : Tgt) : Prop where
  makes : ∀ i, t.ai = some i → t.s < a.tmps.size ∧ ∃ o, l[i]? = some o ∧ ∀ (c : Act) (u : World), (execOp c.eval o).run P u = .ok (.value (.pointer (some ⟨u.heap.size, 0, none⟩))) (u.alloc (.cells t.z t.T))
  mine : t.ai = none → t.b ∈ O ∧ t.b < w.heap.size ∧ w.heap[t.b]? = some (.cells t.z t.T (0, 0))
  stores : ∀ j, t.si = some j → ∃ o, l[j]? = some o ∧ ∀ (c : Act) (u : World) (bk : Nat), (t.ai.isSome = true → slot c t.s = .pointer (some ⟨bk, 0, none⟩)) → (t.ai = none → bk = t.b) →
    (∀ d ∈ o.looksAt l.toArray, bs.contains d = false → slot c d = slot F d) → u.heap[bk]? = some (.cells t.z t.T (0, 0)) → (execOp c.eval o).run P u = .ok .skip (u.setRow bk t.z')

theorem wp_region_vars_gen {id : Nat} {l : List Oper} (m : List Bool) (O : List Nat) (ts : List Tgt) {w : World} {a : Act} (F : Act) {Q : Exit → Act → World → Prop} (hm : P.follows .mixedOrders = true)
    (hB : calmB l m (slotsOf ts) = true) (hT : tgtB l m (slotsOf ts) ts = true)
    (D : World → Prop) (D0 : D w) (HD : ∀ (listed : Array Bool) (i : Nat) (u : World), m.getD i false = false → listed.getD i false = false → i < l.length →
      (∀ j oj, l[j]? = some oj → listed.getD j false = true → ∀ e ∈ oj.after, Region.binds .any e = true → listed.getD e.on false = true) → Calm O w u → ((∀ k, m.getD k false = true → listed.getD k false = false) → Ext w u) → D u)
    (H : ∀ x, D x → wpQuiet P (eraseM m l).toArray (fun w' => ∃ y : Wx x, w' = y.val) (fun a' => a' = F) (eraseM m l) a)
    (hok : ∀ t ∈ ts, TgtOk P l (slotsOf ts) O w a F t) (hdis : ∀ (k k' : Nat) (t t' : Tgt), ts[k]? = some t → ts[k']? = some t' → k ≠ k' → t.ai = none → t'.ai = none → t.b ≠ t'.b)
    (hfin : ∀ (w' : World) (f : Nat → Nat), Calm O w w' → Known w w' f 0 ts → Q .normal (putAll F (pairs f 0 ts)) w') :
    (Code.region id l.toArray true).wp P Q a w := by
  have st := tgtB_spec hT
  obtain ⟨_, hsp⟩ := calmB_spec hB
  refine wp_region_calm_gen m (slotsOf ts) O F (JV ts w) hm hB D D0 (fun listed i u a b c d e f _ => HD listed i u a b c d e f) H ?_ ?_ ?_ ?_
  · -- at first
    refine ⟨fun k => match ts[k]? with | some t => t.b | none => 0, fun k t hk => ⟨fun _ => by simp only [hk], fun hd => ?_, fun hl => ?_⟩, fun k k' t t' hk hk' hne hl hl' => ?_⟩
    · unfold doneB at hd
      cases hs : t.si with
      | none => rw [hs] at hd; cases hd
      | some j => rw [hs] at hd; simp only [rep_false] at hd; cases hd
    · cases ha : t.ai with
      | some i => have := hl i ha; rw [rep_false] at this; cases this
      | none =>
        obtain ⟨_, h2, h3⟩ := (hok t (List.mem_of_getElem? hk)).mine ha
        have hnd : doneB (Array.replicate l.length false) t = false := by
          unfold doneB
          cases t.si with
          | none => rfl
          | some j => exact rep_false _ _
        simp only [hk]
        refine ⟨fun i hi => (by cases hi), h2, ?_⟩
        rw [hnd]
        exact h3
    · have ha : t.ai = none := by
        cases ha : t.ai with
        | some i => have := hl i ha; rw [rep_false] at this; cases this
        | none => rfl
      have ha' : t'.ai = none := by
        cases ha' : t'.ai with
        | some i => have := hl' i ha'; rw [rep_false] at this; cases this
        | none => rfl
      simp only [hk, hk']
      exact hdis k k' t t' hk hk' hne ha ha'
  · -- one of the text's order
    rintro listed c u u' i o v hi hmi hr he ⟨f, h1, h2⟩
    have notai : ∀ (k : Nat) (t : Tgt), ts[k]? = some t → t.ai ≠ some i := fun k t hk ha => by
      rw [(st.s2 k t i hk ha).1] at hmi; cases hmi
    have notsi : ∀ (k : Nat) (t : Tgt), ts[k]? = some t → t.si ≠ some i := fun k t hk ha => by
      rw [(st.s3 k t i hk ha).1] at hmi; cases hmi
    refine ⟨f, fun k t hk => ⟨(h1 k t hk).fix, fun hd => ?_, fun hl => ?_⟩, fun k k' t t' hk hk' hne hl hl' => h2 k k' t t' hk hk' hne ((live_set (notai k t hk)).1 hl) ((live_set (notai k' t' hk')).1 hl')⟩
    · rw [doneB_set (notsi k t hk)] at hd
      exact (live_set (notai k t hk)).2 ((h1 k t hk).ord hd)
    · obtain ⟨p1, p2, p3⟩ := (h1 k t hk).held ((live_set (notai k t hk)).1 hl)
      refine ⟨fun j hj => ⟨?_, (p1 j hj).2⟩, Nat.lt_of_lt_of_le p2 he.size, ?_⟩
      · rw [slot_put_ne fun hd => ?_]
        · exact (p1 j hj).1
        · have := (hsp i o hi).own t.s hd
          rw [hmi, (st.s2 k t j hk hj).2.1] at this
          cases this
      · rw [he.block p2, p3, doneB_set (notsi k t hk)]
  · -- a marked one
    rintro listed c u i o hi hmi hr hw ⟨f, h1, h2⟩ hsz hlook
    obtain ⟨hun, o', ho', hall⟩ := mem_ready.1 hr
    rw [List.getElem?_toArray] at ho'
    have eo : o' = o := Option.some.inj (ho'.symm.trans hi)
    subst eo
    obtain ⟨hunf, hlt⟩ := getD_f hun
    obtain ⟨k0, t0, hk0, hwhich⟩ := st.s1 i (List.getElem?_eq_some_iff.1 hi).1 hmi
    rcases hwhich with ha | hs
    · -- it makes t0
      obtain ⟨hslt, oa, hoa, hrun⟩ := (hok t0 (List.mem_of_getElem? hk0)).makes i ha
      have eo : oa = o' := Option.some.inj (hoa.symm.trans hi)
      subst eo
      obtain ⟨_, hbs, ⟨od, hod, hdst⟩, hsne⟩ := st.s2 k0 t0 i hk0 ha
      have eo : od = oa := Option.some.inj (hod.symm.trans hi)
      subst eo
      unfold Oper.wp
      rw [hrun c u, Oper.upon_value]
      refine ⟨_, rfl, hw.trans ((Ext.refl u).alloc _ _ |>.calm O), fun k => if k = k0 then u.heap.size else f k, fun k t hk => ?_, fun k k' t t' hk hk' hne hl hl' => ?_⟩
      · by_cases hkk : k = k0
        · subst hkk
          have : t = t0 := Option.some.inj (hk.symm.trans hk0)
          subst this
          have hnd : doneB listed t = false := by
            cases hd : doneB listed t with
            | false => rfl
            | true =>
              have := (h1 k t hk).ord hd i ha
              rw [hunf] at this; cases this
          refine ⟨fun e => (by rw [e] at ha; cases ha), fun hd => ?_, fun _ => ?_⟩
          · rw [doneB_set hsne, hnd] at hd; cases hd
          · simp only [if_true]
            refine ⟨fun j hj => ⟨?_, hw.size⟩, by simp, ?_⟩
            · rw [hdst, slot_put_eq (by rw [hsz]; exact hslt)]
            · rw [doneB_set hsne, hnd]
              show (u.heap.push _)[u.heap.size]? = _
              simp
        · have hne := st.s4 k0 k t0 t i hk0 hk (fun e => hkk e.symm) ha
          refine ⟨fun e => by simp only [hkk, if_false]; exact (h1 k t hk).fix e, fun hd => ?_, fun hl => ?_⟩
          · rw [doneB_set hne.2.1] at hd
            exact (live_set hne.1).2 ((h1 k t hk).ord hd)
          · obtain ⟨p1, p2, p3⟩ := (h1 k t hk).held ((live_set hne.1).1 hl)
            simp only [hkk, if_false]
            refine ⟨fun j hj => ⟨?_, (p1 j hj).2⟩, by simp; omega, ?_⟩
            · rw [hdst, slot_put_ne (fun e => hne.2.2 (Option.some.inj e))]
              exact (p1 j hj).1
            · rw [doneB_set hne.2.1, Below.heap_alloc _ _ _ p2, p3]
      · by_cases hkk : k = k0
        · subst hkk
          have hne' : k' ≠ k := fun e => hne e.symm
          have ht' := st.s4 k k' t0 t' i hk0 hk' hne ha
          have := ((h1 k' t' hk').held ((live_set ht'.1).1 hl')).2.1
          simp only [hne', if_true, if_false]
          omega
        · by_cases hkk' : k' = k0
          · subst hkk'
            have ht := st.s4 k' k t0 t i hk0 hk (fun e => hne e.symm) ha
            have := ((h1 k t hk).held ((live_set ht.1).1 hl)).2.1
            simp only [hkk, if_true, if_false]
            omega
          · simp only [hkk, hkk', if_false]
            have ht := st.s4 k0 k t0 t i hk0 hk (fun e => hkk e.symm) ha
            have ht' := st.s4 k0 k' t0 t' i hk0 hk' (fun e => hkk' e.symm) ha
            exact h2 k k' t t' hk hk' hne ((live_set ht.1).1 hl) ((live_set ht'.1).1 hl')
    · -- it stores into t0
      obtain ⟨_, ⟨od, hod, hdst⟩, hwait⟩ := st.s3 k0 t0 i hk0 hs
      have eo : od = o' := Option.some.inj (hod.symm.trans hi)
      subst eo
      have hlive : live listed t0 := fun j hj => by
        obtain ⟨e, he, heb, heo⟩ := waitsB_spec hi (hwait j hj)
        exact heo ▸ hall e he heb
      have hnd : doneB listed t0 = false := by unfold doneB; rw [hs]; exact hunf
      obtain ⟨p1, p2, p3⟩ := (h1 k0 t0 hk0).held hlive
      rw [hnd] at p3
      obtain ⟨os, hos, hrun⟩ := (hok t0 (List.mem_of_getElem? hk0)).stores i hs
      have eo : os = od := Option.some.inj (hos.symm.trans hi)
      subst eo
      have notai : ∀ (k : Nat) (t : Tgt), ts[k]? = some t → t.ai ≠ some i := fun k t hk ha => by
        by_cases hkk : k = k0
        · subst hkk
          have : t = t0 := Option.some.inj (hk.symm.trans hk0)
          subst this
          exact (st.s2 k t i hk ha).2.2.2 hs
        · exact (st.s4 k k0 t t0 i hk hk0 hkk ha).2.1 hs
      unfold Oper.wp
      rw [hrun c u (f k0) (fun hh => by
        obtain ⟨j, hj⟩ := Option.isSome_iff_exists.1 hh
        exact (p1 j hj).1) (h1 k0 t0 hk0).fix hlook p3, Oper.upon_skip]
      refine ⟨_, rfl, ?_, f, fun k t hk => ?_, fun k k' t t' hk hk' hne hl hl' => h2 k k' t t' hk hk' hne ((live_set (notai k t hk)).1 hl) ((live_set (notai k' t' hk')).1 hl')⟩
      · refine ⟨hw.os, hw.tape, hw.output, by rw [size_setRow]; exact hw.size, fun k hk hO => (heap_setRow_ne _ _ _ _ fun e => ?_).trans (hw.block k hk hO)⟩
        cases ha : t0.ai with
        | none =>
          have := ((hok t0 (List.mem_of_getElem? hk0)).mine ha).1
          rw [← (h1 k0 t0 hk0).fix ha, ← e] at this
          exact hO this
        | some j => have := (p1 j ha).2; omega
      · rw [hdst]
        show JT w _ c _ f k t
        by_cases hkk : k = k0
        · subst hkk
          have : t = t0 := Option.some.inj (hk.symm.trans hk0)
          subst this
          have hd' : doneB (listed.setIfInBounds i true) t = true := by unfold doneB; rw [hs]; exact getD_at hlt
          refine ⟨(h1 k t hk).fix, fun _ => (live_set (notai k t hk)).2 hlive, fun _ => ⟨p1, by rw [size_setRow]; exact p2, ?_⟩⟩
          rw [hd', heap_setRow_eq _ p3]
          rfl
        · have hsi : t.si ≠ some i := st.s5 k0 k t0 t i hk0 hk (fun e => hkk e.symm) hs
          refine ⟨(h1 k t hk).fix, fun hd => ?_, fun hl => ?_⟩
          · rw [doneB_set hsi] at hd
            exact (live_set (notai k t hk)).2 ((h1 k t hk).ord hd)
          · have hl' := (live_set (notai k t hk)).1 hl
            obtain ⟨q1, q2, q3⟩ := (h1 k t hk).held hl'
            refine ⟨q1, by rw [size_setRow]; exact q2, ?_⟩
            rw [doneB_set hsi, heap_setRow_ne _ _ _ _ (h2 k k0 t t0 hk hk0 hkk hl' hlive), q3]
  · -- behind it
    rintro c w' hw hdf hsz hsl ⟨f, h1, h2⟩
    have alive : ∀ (k : Nat) (t : Tgt), ts[k]? = some t → live (Array.replicate l.length true) t := fun k t hk i hi => by
      obtain ⟨_, _, ⟨o, ho, _⟩, _⟩ := st.s2 k t i hk hi
      have := (List.getElem?_eq_some_iff.1 ho).1
      simp [this]
    have adone : ∀ (k : Nat) (t : Tgt), ts[k]? = some t → doneB (Array.replicate l.length true) t = t.si.isSome := fun k t hk => by
      unfold doneB
      cases hs : t.si with
      | none => rfl
      | some j =>
        obtain ⟨_, ⟨o, ho, _⟩, _⟩ := st.s3 k t j hk hs
        have := (List.getElem?_eq_some_iff.1 ho).1
        simp [this]
    have hc : putAll F (pairs f 0 ts) = c := by
      refine act_ext ((putAll_defers _ _).trans hdf.symm) ((putAll_size _ _).trans hsz.symm) fun d hd => putAll_slot c d hd _ _ hsz.symm (fun p hp => ?_) ?_
      · obtain ⟨j, t, hj, hja, rfl⟩ := mem_pairs f ts 0 p hp
        obtain ⟨i, hi⟩ := Option.isSome_iff_exists.1 hja
        have := ((h1 j t hj).held (alive j t hj)).1 i hi
        rw [Nat.zero_add]
        exact this.1.symm
      · cases hb : (slotsOf ts).contains d with
        | false => exact .inl (hsl d hb).symm
        | true => exact .inr (pairs_slots f d ts 0 (by simpa using hb))
    rw [← hc]
    refine hfin w' f hw (known_of (ts := ts) (fun k t hk => ?_) ts 0 fun j => by rw [Nat.zero_add])
    obtain ⟨p1, p2, p3⟩ := (h1 k t hk).held (alive k t hk)
    rw [adone k t hk] at p3
    refine ⟨?_, p2, p3, fun j hj => ?_⟩
    · cases ha : t.ai with
      | none => simpa using (h1 k t hk).fix ha
      | some i => simpa using (p1 i ha).2
    · have hjl : j < ts.length := Nat.lt_trans hj (List.getElem?_eq_some_iff.1 hk).1
      exact h2 j k _ t (List.getElem?_eq_getElem hjl) hk (by omega) (alive _ _ (List.getElem?_eq_getElem hjl)) (alive k t hk)

theorem wp_region_vars {id : Nat} {l : List Oper} (m : List Bool) (O : List Nat) (ts : List Tgt) {w : World} {a : Act} (F : Act) {Q : Exit → Act → World → Prop} (hm : P.follows .mixedOrders = true)
    (hB : calmB l m (slotsOf ts) = true) (hT : tgtB l m (slotsOf ts) ts = true)
    (H : ∀ x, Calm O w x → wpQuiet P (eraseM m l).toArray (fun w' => ∃ y : Wx x, w' = y.val) (fun a' => a' = F) (eraseM m l) a)
    (hok : ∀ t ∈ ts, TgtOk P l (slotsOf ts) O w a F t) (hdis : ∀ (k k' : Nat) (t t' : Tgt), ts[k]? = some t → ts[k']? = some t' → k ≠ k' → t.ai = none → t'.ai = none → t.b ≠ t'.b)
    (hfin : ∀ (w' : World) (f : Nat → Nat), Calm O w w' → Known w w' f 0 ts → Q .normal (putAll F (pairs f 0 ts)) w') :
    (Code.region id l.toArray true).wp P Q a w :=
  wp_region_vars_gen m O ts F hm hB hT (fun x => Calm O w x) (Calm.refl _ _) (fun _ _ _ _ _ _ _ h _ => h) H hok hdis hfin

/-- the same, where all that makes or stores waits for all else: what is stored into may be read -/
theorem wp_region_vars_early {id : Nat} {l : List Oper} (n : Nat) (m : List Bool) (O : List Nat) (ts : List Tgt) {w : World} {a : Act} (F : Act) {Q : Exit → Act → World → Prop} (hm : P.follows .mixedOrders = true)
    (hB : calmB l m (slotsOf ts) = true) (hT : tgtB l m (slotsOf ts) ts = true)
    (hE : earlyB l m n = true) (hml : decide (m.length ≤ l.length) = true)
    (H : ∀ x, Ext w x → wpQuiet P (eraseM m l).toArray (fun w' => ∃ y : Wx x, w' = y.val) (fun a' => a' = F) (eraseM m l) a)
    (hok : ∀ t ∈ ts, TgtOk P l (slotsOf ts) O w a F t) (hdis : ∀ (k k' : Nat) (t t' : Tgt), ts[k]? = some t → ts[k']? = some t' → k ≠ k' → t.ai = none → t'.ai = none → t.b ≠ t'.b)
    (hfin : ∀ (w' : World) (f : Nat → Nat), Calm O w w' → Known w w' f 0 ts → Q .normal (putAll F (pairs f 0 ts)) w') :
    (Code.region id l.toArray true).wp P Q a w :=
  wp_region_vars_gen m O ts F hm hB hT (fun x => Ext w x) (Ext.refl _) (fun listed i u h1 h2 h3 h4 _ h6 => early_spec hE (O := O) (of_decide_eq_true hml) listed i u h1 h2 h3 h4 h6) H hok hdis hfin

/-- a value is stored whole at an offset of a block that is known -/
theorem run_store_row {o : Oper} {ρ : Operand → Value} {u : World} {T0 T : TypeId} {p x : Operand} {bk off : Nat} {v : Value} {z : Array Value} (ho : o.op = .store T0 p x) (hp : ρ p = .pointer (some ⟨bk, off, none⟩)) (hx : ρ x = v)
    (hi : (P.info? T0).map (·.size) = some v.cells.size) (h1 : v.cells.all (·.oneCell') = true) (hz : off + v.cells.size ≤ z.size) (hg : u.heap[bk]? = some (.cells z T (0, 0))) :
    (execOp ρ o).run P u = .ok .skip (u.setRow bk (z.toList.take off ++ v.cells.toList ++ z.toList.drop (off + v.cells.size)).toArray) := by
  have hc := run_storeCells_at P bk off T v.cells.toList 0 z u hg (by simpa using hz) (fun y hy => Array.all_eq_true_iff_forall_mem.1 h1 y (by simpa using hy))
  have hv : (storeVar T0 ⟨bk, off, none⟩ v).run P u = .ok () (u.setRow bk (z.toList.take off ++ v.cells.toList ++ z.toList.drop (off + v.cells.size)).toArray) := by
    cases hq : P.info? T0 with
    | none => rw [hq] at hi; cases hi
    | some ti =>
      rw [hq] at hi
      have hsz : ti.size = v.cells.size := by simpa using hi
      simp only [storeVar, sizeOf, typeInfo]
      simp [go_sem, hq, hsz]
      simpa [go_sem] using hc
  unfold execOp
  simp only [ho, hp, hx, Instr.storeAt, Instr.sureAddr, Sem.run_bind, Sem.run_pure, Result.andThen_ok, hv]
end

end Go.Proofs.Ytjohcngmoemmbaa
