/-
  DERIVED. A region that draws its order: operations that read or call quietly, and some (marked) that make memory whose address counts, or turn memory, and wait for one another: the quiet ones are walked once in the text's order, the marked ones once, one behind the other.
-/
import Derived.Test.YtjohcngmoemmbaaRegionChain
namespace Go.Proofs.Ytjohcngmoemmbaa
open Go.RowKit
set_option linter.unusedVariables false
section
variable {P : Program}
/-- what an operation comes to, in whatever frame gives its operands so -/
def Gives (P : Program) (o : Oper) (A : Act) (u : World) (R : Value → World → Prop) : Prop :=
  ∀ (c : Act) (Q : Exit → Act → World → Prop), execOp c.eval o = execOp A.eval o → o.wp P c u (fun c' w' => ∃ v, c' = c.put o.dst v ∧ R v w') Q
theorem gives_enter {o : Oper} {A : Act} {u : World} {R : Value → World → Prop} {f : FuncId} {args : Array Value} {S : Ending → World → Prop}
    (ho : (execOp A.eval o).run P u = .ok (.enter f args) u) (h : Calls P f args u S) (hR : ∀ e w', S e w' → ∃ v, e = .returned v ∧ R v w') : Gives P o A u R := fun c Q he =>
  wp_enter (by rw [he]; exact ho) h fun e w' s => by
    obtain ⟨v, h1, h2⟩ := hR e w' s
    exact ⟨v, h1, v, rfl, h2⟩
theorem gives_value {o : Oper} {A : Act} {u u' : World} {R : Value → World → Prop} {v : Value} (ho : (execOp A.eval o).run P u = .ok (.value v) u') (h : R v u') : Gives P o A u R := fun c Q he =>
  wp_value (by rw [he]; exact ho) ⟨v, rfl, h⟩
theorem gives_skip {o : Oper} {A : Act} {u u' : World} {R : Value → World → Prop} (ho : (execOp A.eval o).run P u = .ok .skip u') (h : R undef u') : Gives P o A u R := fun c Q he =>
  wp_skip (by rw [he]; exact ho) ⟨undef, rfl, h⟩

/-- the marked operations, one behind the other, in worlds that may have grown in between -/
def tailW (P : Program) (O : List Nat) (w0 : World) (K : Act → World → Prop) : List Oper → Act → World → Prop
  | [], A, u => ∀ u', Ext u u' → Calm O w0 u' → K A u'
  | o :: r, A, u => ∀ u', Ext u u' → Calm O w0 u' → Gives P o A u' (fun v w' => Calm O w0 w' ∧ tailW P O w0 K r (A.put o.dst v) w')
theorem tailW_ext {O : List Nat} {w0 : World} {K : Act → World → Prop} {l : List Oper} {A : Act} {u u' : World} (h : tailW P O w0 K l A u) (x : Ext u u') : tailW P O w0 K l A u' := by
  cases l with
  | nil => exact fun u2 x2 => h u2 (x.trans x2)
  | cons o r => exact fun u2 x2 => h u2 (x.trans x2)

def marks (l : List Oper) (m : List Bool) : List Nat := (List.range l.length).filter fun i => m.getD i false
def tailB (l : List Oper) (m : List Bool) (bs : List Tmp) (n : Nat) : Bool :=
  ((marks l m).all fun i => (marks l m).all fun j => !decide (i < j) || befB l n i j) &&
  (bs.all fun d => (marks l m).any fun i => (l[i]?).bind (·.dst) == some d) &&
  (marks l m).all fun j => match l[j]? with
    | some o => (o.looksAt l.toArray).all fun d => !bs.contains d || (marks l m).any fun i => decide (i < j) && (l[i]?).bind (·.dst) == some d
    | none => true
theorem mem_marks {l : List Oper} {m : List Bool} {i : Nat} : i ∈ marks l m ↔ i < l.length ∧ m.getD i false = true := by
  simp [marks]
theorem marks_sorted (l : List Oper) (m : List Bool) : (marks l m).Pairwise (· < ·) := List.Pairwise.filter _ List.pairwise_lt_range
theorem dst_of {l : List Oper} {i : Nat} {d : Tmp} (h : ((l[i]?).bind (·.dst) == some d) = true) : ∃ o, l[i]? = some o ∧ o.dst = some d := by
  cases hi : l[i]? with
  | none => rw [hi] at h; simp at h
  | some o => rw [hi] at h; exact ⟨o, rfl, by simpa using h⟩

structure JTail (P : Program) (l : List Oper) (m : List Bool) (bs : List Tmp) (O : List Nat) (w0 : World) (F : Act) (K : Act → World → Prop) (listed : Array Bool) (c : Act) (u : World) : Prop where
  closed : ∀ j oj, l[j]? = some oj → listed.getD j false = true → ∀ e ∈ oj.after, Region.binds .any e = true → listed.getD e.on false = true
  rest : ∃ (dn rem : List Nat) (A : Act), dn ++ rem = marks l m ∧ (∀ i ∈ dn, listed.getD i false = true) ∧ (∀ i ∈ rem, listed.getD i false = false) ∧
    tailW P O w0 K (rem.filterMap (l[·]?)) A u ∧ A.defers = F.defers ∧ A.tmps.size = F.tmps.size ∧ (∀ d, bs.contains d = false → slot A d = slot F d) ∧
    (∀ i ∈ dn, ∀ o d, l[i]? = some o → o.dst = some d → slot A d = slot c d)

theorem wp_region_tail_gen {id : Nat} {l : List Oper} (n : Nat) (m : List Bool) (bs : List Tmp) (O : List Nat) {w : World} {a : Act} (F : Act) {Q : Exit → Act → World → Prop} (hm : P.follows .mixedOrders = true)
    (hB : calmB l m bs = true) (hT : tailB l m bs n = true) (hF : F.tmps.size = a.tmps.size) (D : World → Prop) (D0 : D w) (HD : ∀ (listed : Array Bool) (i : Nat) (u : World), m.getD i false = false → listed.getD i false = false → i < l.length →
      (∀ j oj, l[j]? = some oj → listed.getD j false = true → ∀ e ∈ oj.after, Region.binds .any e = true → listed.getD e.on false = true) → Calm O w u → ((∀ k, m.getD k false = true → listed.getD k false = false) → Ext w u) → D u)
    (H : ∀ x, D x → wpQuiet P (eraseM m l).toArray (fun w' => ∃ y : Wx x, w' = y.val) (fun a' => a' = F) (eraseM m l) a)
    (T : tailW P O w (fun A u => Q .normal A u) ((marks l m).filterMap (l[·]?)) F w) :
    (Code.region id l.toArray true).wp P Q a w := by
  simp only [tailB, Bool.and_eq_true, List.all_eq_true] at hT
  obtain ⟨⟨t1, t2⟩, t3⟩ := hT
  obtain ⟨hsel, hsp⟩ := calmB_spec hB
  have step : ∀ (listed : Array Bool) (i : Nat), i ∈ Region.ready .any l.toArray listed → (∀ j oj, l[j]? = some oj → listed.getD j false = true → ∀ e ∈ oj.after, Region.binds .any e = true → listed.getD e.on false = true) →
      ∀ j oj, l[j]? = some oj → (listed.setIfInBounds i true).getD j false = true → ∀ e ∈ oj.after, Region.binds .any e = true → (listed.setIfInBounds i true).getD e.on false = true := by
    intro listed i hr hc j oj hj hl e he hb
    obtain ⟨hun, oi, hoi, hall⟩ := mem_ready.1 hr
    rw [List.getElem?_toArray] at hoi
    by_cases hij : i = j
    · subst hij
      have : oj = oi := Option.some.inj (hj.symm.trans hoi)
      subst this
      exact getD_set_true (hall e he hb)
    · rw [getD_set_ne false hij] at hl
      exact getD_set_true (hc j oj hj hl e he hb)
  refine wp_region_calm_gen m bs O F (fun listed c u => JTail P l m bs O w F (fun A u => Q .normal A u) listed c u) hm hB D D0 (fun listed i u a b c d e f _ => HD listed i u a b c d e f) H ?_ ?_ ?_ ?_
  · exact ⟨fun j oj _ hl => (by rw [rep_false] at hl; cases hl), [], marks l m, F, rfl, (fun i hi => by cases hi), (fun i _ => rep_false _ _), tailW_ext T (Ext.refl w).drew, rfl, rfl, fun _ _ => rfl, fun i hi => by cases hi⟩
  · intro listed c u u' i o v hi hmi hr x hJ
    obtain ⟨hc, dn, rem, A, h1, h2, h3, h4, h5, h6, h7, h8⟩ := hJ
    refine ⟨step listed i hr hc, dn, rem, A, h1, fun j hj => getD_set_true (h2 j hj), fun j hj => ?_, tailW_ext h4 x, h5, h6, h7, fun j hj oj d hoj hd => ?_⟩
    · have hne : i ≠ j := fun e => by
        subst e
        have := (mem_marks.1 (h1 ▸ List.mem_append_right dn hj)).2
        rw [hmi] at this
        cases this
      rw [getD_set_ne false hne]
      exact h3 j hj
    · have hne : i ≠ j := fun e => by
        subst e
        have := (mem_marks.1 (h1 ▸ List.mem_append_left rem hj)).2
        rw [hmi] at this
        cases this
      rw [slot_put_ne ((hsp j oj hoj).one i o d hi hne hd)]
      exact h8 j hj oj d hoj hd
  · intro listed c u i o hi hmi hr hw hJ hsz hlook
    obtain ⟨hc, dn, rem, A, h1, h2, h3, h4, h5, h6, h7, h8⟩ := hJ
    obtain ⟨hun, oi, hoi, hall⟩ := mem_ready.1 hr
    obtain ⟨hunf, hlt⟩ := getD_f hun
    have hil : i < l.length := (List.getElem?_eq_some_iff.1 hi).1
    have hiM : i ∈ dn ++ rem := by rw [h1]; exact mem_marks.2 ⟨hil, hmi⟩
    have hirem : i ∈ rem := by
      rcases List.mem_append.1 hiM with h | h
      · have := h2 i h
        rw [hunf] at this
        cases this
      · exact h
    have hsort : (dn ++ rem).Pairwise (· < ·) := h1 ▸ marks_sorted l m
    obtain ⟨i0, r, rfl⟩ : ∃ i0 r, rem = i0 :: r := by
      cases rem with
      | nil => cases hirem
      | cons x y => exact ⟨x, y, rfl⟩
    have hs2 := List.pairwise_append.1 hsort
    have hi0M : i0 ∈ marks l m := by rw [← h1]; simp
    have e0 : i0 = i := by
      rcases List.mem_cons.1 hirem with h | h
      · exact h.symm
      · exfalso
        have hlt0 : i0 < i := (List.pairwise_cons.1 hs2.2.1).1 i h
        have hb := t1 i0 hi0M i (mem_marks.2 ⟨hil, hmi⟩)
        simp only [hlt0, decide_true, Bool.not_true, Bool.false_or] at hb
        have hl2 := befB_spec (step listed i hr hc) n i0 i hil hb (getD_at hlt)
        rw [getD_set_ne false (by omega)] at hl2
        have := h3 i0 (by simp)
        rw [hl2] at this
        cases this
    subst e0
    have hops : (i0 :: r).filterMap (l[·]?) = o :: r.filterMap (l[·]?) := by simp [hi]
    rw [hops] at h4
    have hsame : ∀ d ∈ o.looksAt l.toArray, slot c d = slot A d := by
      intro d hd
      cases hb : bs.contains d with
      | false => rw [hlook d hd hb, h7 d hb]
      | true =>
        have := t3 i0 hi0M
        rw [hi] at this
        have := List.all_eq_true.1 this d hd
        simp only [hb, Bool.not_true, Bool.false_or] at this
        obtain ⟨j, hjM, hj⟩ := List.any_eq_true.1 this
        simp only [Bool.and_eq_true, decide_eq_true_eq] at hj
        obtain ⟨oj, hoj, hjd⟩ := dst_of hj.2
        have hjdn : j ∈ dn := by
          rw [← h1] at hjM
          rcases List.mem_append.1 hjM with h | h
          · exact h
          · exfalso
            rcases List.mem_cons.1 h with h | h
            · omega
            · have := (List.pairwise_cons.1 hs2.2.1).1 j h
              omega
        exact (h8 j hjdn oj d hoj hjd).symm
    have hex : execOp c.eval o = execOp A.eval o := execOp_congr o (fun cs bb => Region.noSelect_spec hsel i0 o cs bb (by rw [List.getElem?_toArray]; exact hi)) fun x hx => by
      cases x with
      | tmp t => exact hsame t (List.mem_append_left _ (List.mem_filterMap.2 ⟨.tmp t, by simpa using hx, rfl⟩))
      | _ => rfl
    refine Oper.wp_mono (fun c' w' hh => ?_) (h4 u (Ext.refl u) hw c Q hex)
    obtain ⟨v, rfl, hcw, ht⟩ := hh
    refine ⟨v, rfl, hcw, step listed i0 hr hc, dn ++ [i0], r, A.put o.dst v, by rw [List.append_assoc]; exact h1, fun j hj => ?_, fun j hj => ?_, ht, by rw [defers_put, h5], by rw [size_put, h6], fun d hd => ?_, fun j hj oj d hoj hd => ?_⟩
    · rcases List.mem_append.1 hj with h | h
      · exact getD_set_true (h2 j h)
      · rw [List.mem_singleton.1 h]; exact getD_at hlt
    · have hne : i0 ≠ j := by
        have := (List.pairwise_cons.1 hs2.2.1).1 j hj
        omega
      rw [getD_set_ne false hne]
      exact h3 j (List.mem_cons_of_mem _ hj)
    · have hne : o.dst ≠ some d := fun hod => by
        have := (hsp i0 o hi).own d hod
        rw [hmi, hd] at this
        cases this
      rw [slot_put_ne hne]
      exact h7 d hd
    · rcases List.mem_append.1 hj with h | h
      · have hne : i0 ≠ j := fun e => by
          subst e
          have := hs2.2.2 i0 h i0 (by simp)
          omega
        have h9 := (hsp j oj hoj).one i0 o d hi hne hd
        rw [slot_put_ne h9, slot_put_ne h9]
        exact h8 j h oj d hoj hd
      · have ej := List.mem_singleton.1 h
        subst ej
        have : oj = o := Option.some.inj (hoj.symm.trans hi)
        subst this
        rw [hd]
        rcases Nat.lt_or_ge d c.tmps.size with k | k
        · rw [slot_put_eq k, slot_put_eq (by rw [h6, hF, ← hsz]; exact k)]
        · rw [slot_out (a := A.put (some d) v) (by rw [size_put, h6, hF, ← hsz]; exact k), slot_out (by rw [size_put]; exact k)]
  · intro c u hw hdf hsz hsl hJ
    obtain ⟨hc, dn, rem, A, h1, h2, h3, h4, h5, h6, h7, h8⟩ := hJ
    have hrem : rem = [] := by
      cases rem with
      | nil => rfl
      | cons i r =>
        exfalso
        have hiM : i ∈ marks l m := by rw [← h1]; simp
        have := h3 i (by simp)
        simp [(mem_marks.1 hiM).1] at this
    subst hrem
    have hA : A = c := act_ext (h5.trans hdf.symm) (h6.trans hsz.symm) fun d hd => by
      cases hb : bs.contains d with
      | false => rw [h7 d hb, hsl d hb]
      | true =>
        obtain ⟨j, hjM, hj⟩ := List.any_eq_true.1 (t2 d (by simpa using hb))
        obtain ⟨oj, hoj, hjd⟩ := dst_of hj
        rw [List.append_nil] at h1
        exact h8 j (by rw [h1]; exact hjM) oj d hoj hjd
    subst hA
    exact h4 u (Ext.refl u) hw

theorem wp_region_tail {id : Nat} {l : List Oper} (n : Nat) (m : List Bool) (bs : List Tmp) (O : List Nat) {w : World} {a : Act} (F : Act) {Q : Exit → Act → World → Prop} (hm : P.follows .mixedOrders = true)
    (hB : calmB l m bs = true) (hT : tailB l m bs n = true) (hF : F.tmps.size = a.tmps.size)
    (H : ∀ x, Calm O w x → wpQuiet P (eraseM m l).toArray (fun w' => ∃ y : Wx x, w' = y.val) (fun a' => a' = F) (eraseM m l) a)
    (T : tailW P O w (fun A u => Q .normal A u) ((marks l m).filterMap (l[·]?)) F w) :
    (Code.region id l.toArray true).wp P Q a w :=
  wp_region_tail_gen n m bs O F hm hB hT hF (fun x => Calm O w x) (Calm.refl _ _) (fun _ _ _ _ _ _ _ h _ => h) H T
/-- the marked ones all wait for all others: these see worlds that have only grown -/
theorem wp_region_tail_early {id : Nat} {l : List Oper} (n : Nat) (m : List Bool) (bs : List Tmp) (O : List Nat) {w : World} {a : Act} (F : Act) {Q : Exit → Act → World → Prop} (hm : P.follows .mixedOrders = true)
    (hB : calmB l m bs = true) (hT : tailB l m bs n = true) (hE : earlyB l m n = true) (hml : m.length ≤ l.length) (hF : F.tmps.size = a.tmps.size)
    (H : ∀ x, Ext w x → wpQuiet P (eraseM m l).toArray (fun w' => ∃ y : Wx x, w' = y.val) (fun a' => a' = F) (eraseM m l) a)
    (T : tailW P O w (fun A u => Q .normal A u) ((marks l m).filterMap (l[·]?)) F w) :
    (Code.region id l.toArray true).wp P Q a w :=
  wp_region_tail_gen n m bs O F hm hB hT hF (fun x => Ext w x) (Ext.refl _) (fun listed i u hmi hl hi hc _ hx => early_spec (O := O) hE hml listed i u hmi hl hi hc hx) H T
end
end Go.Proofs.Ytjohcngmoemmbaa
