/-
  DERIVED. Regions that draw their order whose last operation alone turns what the quiet ones read (x.f = append(x.f, g(y))): tail walks in two phases.
-/
import Derived.Test.YtjohcngmoemmbaaCalmTail
import Derived.Test.YtjohcngmoemmbaaGs
namespace Go.Proofs.Ytjohcngmoemmbaa
open Go.RowKit
set_option linter.unusedVariables false
variable {P : Program}
/-- the marked operations, one behind the other: but the last one they leave what is read as it is -/
def tailL (P : Program) (O1 O : List Nat) (w0 : World) (K : Act → World → Prop) : List Oper → Act → World → Prop
  | [], A, u => ∀ u', Ext u u' → Calm O w0 u' → K A u'
  | o :: r, A, u => ∀ u', Ext u u' → Calm O1 w0 u' → Gives P o A u' (fun v w' => Calm O w0 w' ∧ (r ≠ [] → Calm O1 w0 w') ∧ tailL P O1 O w0 K r (A.put o.dst v) w')
theorem tailL_ext {O1 O : List Nat} {w0 : World} {K : Act → World → Prop} {l : List Oper} {A : Act} {u u' : World} (h : tailL P O1 O w0 K l A u) (x : Ext u u') : tailL P O1 O w0 K l A u' := by
  cases l with
  | nil => exact fun u2 x2 => h u2 (x.trans x2)
  | cons o r => exact fun u2 x2 => h u2 (x.trans x2)
/-- each quiet operation is waited for by a marked one -/
def lateB (l : List Oper) (m : List Bool) (n : Nat) : Bool :=
  (List.range l.length).all fun i => m.getD i false || (marks l m).any fun j => befB l n i j

structure JLast (P : Program) (l : List Oper) (m : List Bool) (bs : List Tmp) (O1 O : List Nat) (w0 : World) (F : Act) (K : Act → World → Prop) (listed : Array Bool) (c : Act) (u : World) : Prop where
  closed : ∀ j oj, l[j]? = some oj → listed.getD j false = true → ∀ e ∈ oj.after, Region.binds .any e = true → listed.getD e.on false = true
  rest : ∃ (dn rem : List Nat) (A : Act), dn ++ rem = marks l m ∧ (∀ i ∈ dn, listed.getD i false = true) ∧ (∀ i ∈ rem, listed.getD i false = false) ∧ (rem ≠ [] → Calm O1 w0 u) ∧
    tailL P O1 O w0 K (rem.filterMap (l[·]?)) A u ∧ A.defers = F.defers ∧ A.tmps.size = F.tmps.size ∧ (∀ d, bs.contains d = false → slot A d = slot F d) ∧
    (∀ i ∈ dn, ∀ o d, l[i]? = some o → o.dst = some d → slot A d = slot c d)

theorem wp_region_last {id : Nat} {l : List Oper} (n : Nat) (m : List Bool) (bs : List Tmp) (O1 O : List Nat) {w : World} {a : Act} (F : Act) {Q : Exit → Act → World → Prop} (hm : P.follows .mixedOrders = true)
    (hB : calmB l m bs = true) (hT : tailB l m bs n = true) (hL : lateB l m n = true) (hF : F.tmps.size = a.tmps.size)
    (H : ∀ x, Calm O1 w x → wpQuiet P (eraseM m l).toArray (fun w' => ∃ y : Wx x, w' = y.val) (fun a' => a' = F) (eraseM m l) a)
    (T : tailL P O1 O w (fun A u => Q .normal A u) ((marks l m).filterMap (l[·]?)) F w) :
    (Code.region id l.toArray true).wp P Q a w := by
  simp only [tailB, Bool.and_eq_true, List.all_eq_true] at hT
  obtain ⟨⟨t1, t2⟩, t3⟩ := hT
  obtain ⟨hsel, hsp⟩ := calmB_spec hB
  have step : ∀ (listed : Array Bool) (i : Nat), i ∈ Region.ready .any l.toArray listed → (∀ j oj, l[j]? = some oj → listed.getD j false = true → ∀ e ∈ oj.after, Region.binds .any e = true → listed.getD e.on false = true) →
      ∀ j oj, l[j]? = some oj → (listed.setIfInBounds i true).getD j false = true → ∀ e ∈ oj.after, Region.binds .any e = true → (listed.setIfInBounds i true).getD e.on false = true := by
    intro listed i hr hc j oj hj hl e he hb
    obtain ⟨hun, oi, hoi, hall⟩ := mem_ready.1 hr
    rw [List.getElem?_toArray] at hoi
    by_cases hij : i = j
    · subst hij
      have : oj = oi := Option.some.inj (hj.symm.trans hoi)
      subst this
      exact getD_set_true (hall e he hb)
    · rw [getD_set_ne false hij] at hl
      exact getD_set_true (hc j oj hj hl e he hb)
  refine wp_region_calm_gen m bs O F (fun listed c u => JLast P l m bs O1 O w F (fun A u => Q .normal A u) listed c u) hm hB (fun x => Calm O1 w x) (Calm.refl _ _) (fun listed i u hmi hli hil hcl _ _ hJ => ?_) H ?_ ?_ ?_ ?_
  · obtain ⟨c, -, dn, rem, A, h1, h2, h3, h3', -⟩ := hJ
    refine h3' fun hr => ?_
    subst hr
    have k1 := List.all_eq_true.1 hL i (List.mem_range.2 hil)
    rw [hmi, Bool.false_or] at k1
    obtain ⟨j, hj, k2⟩ := List.any_eq_true.1 k1
    have hjl := (mem_marks.1 hj).1
    rw [← h1, List.append_nil] at hj
    have := befB_spec hcl n i j hjl k2 (h2 j hj)
    rw [hli] at this
    cases this
  · exact ⟨fun j oj _ hl => (by rw [rep_false] at hl; cases hl), [], marks l m, F, rfl, (fun i hi => by cases hi), (fun i _ => rep_false _ _), (fun _ => (Ext.refl w).drew.calm O1), tailL_ext T (Ext.refl w).drew, rfl, rfl, fun _ _ => rfl, fun i hi => by cases hi⟩
  · intro listed c u u' i o v hi hmi hr x hJ
    obtain ⟨hc, dn, rem, A, h1, h2, h3, h3', h4, h5, h6, h7, h8⟩ := hJ
    refine ⟨step listed i hr hc, dn, rem, A, h1, fun j hj => getD_set_true (h2 j hj), fun j hj => ?_, fun hr => (h3' hr).trans (x.calm O1), tailL_ext h4 x, h5, h6, h7, fun j hj oj d hoj hd => ?_⟩
    · have hne : i ≠ j := fun e => by
        subst e
        have := (mem_marks.1 (h1 ▸ List.mem_append_right dn hj)).2
        rw [hmi] at this
        cases this
      rw [getD_set_ne false hne]
      exact h3 j hj
    · have hne : i ≠ j := fun e => by
        subst e
        have := (mem_marks.1 (h1 ▸ List.mem_append_left rem hj)).2
        rw [hmi] at this
        cases this
      rw [slot_put_ne ((hsp j oj hoj).one i o d hi hne hd)]
      exact h8 j hj oj d hoj hd
  · intro listed c u i o hi hmi hr hw hJ hsz hlook
    obtain ⟨hc, dn, rem, A, h1, h2, h3, h3', h4, h5, h6, h7, h8⟩ := hJ
    obtain ⟨hun, oi, hoi, hall⟩ := mem_ready.1 hr
    obtain ⟨hunf, hlt⟩ := getD_f hun
    have hil : i < l.length := (List.getElem?_eq_some_iff.1 hi).1
    have hiM : i ∈ dn ++ rem := by rw [h1]; exact mem_marks.2 ⟨hil, hmi⟩
    have hirem : i ∈ rem := by
      rcases List.mem_append.1 hiM with h | h
      · have := h2 i h
        rw [hunf] at this
        cases this
      · exact h
    have hsort : (dn ++ rem).Pairwise (· < ·) := h1 ▸ marks_sorted l m
    obtain ⟨i0, r, rfl⟩ : ∃ i0 r, rem = i0 :: r := by
      cases rem with
      | nil => cases hirem
      | cons x y => exact ⟨x, y, rfl⟩
    have hs2 := List.pairwise_append.1 hsort
    have hi0M : i0 ∈ marks l m := by rw [← h1]; simp
    have e0 : i0 = i := by
      rcases List.mem_cons.1 hirem with h | h
      · exact h.symm
      · exfalso
        have hlt0 : i0 < i := (List.pairwise_cons.1 hs2.2.1).1 i h
        have hb := t1 i0 hi0M i (mem_marks.2 ⟨hil, hmi⟩)
        simp only [hlt0, decide_true, Bool.not_true, Bool.false_or] at hb
        have hl2 := befB_spec (step listed i hr hc) n i0 i hil hb (getD_at hlt)
        rw [getD_set_ne false (by omega)] at hl2
        have := h3 i0 (by simp)
        rw [hl2] at this
        cases this
    subst e0
    have hops : (i0 :: r).filterMap (l[·]?) = o :: r.filterMap (l[·]?) := by simp [hi]
    rw [hops] at h4
    have hsame : ∀ d ∈ o.looksAt l.toArray, slot c d = slot A d := by
      intro d hd
      cases hb : bs.contains d with
      | false => rw [hlook d hd hb, h7 d hb]
      | true =>
        have := t3 i0 hi0M
        rw [hi] at this
        have := List.all_eq_true.1 this d hd
        simp only [hb, Bool.not_true, Bool.false_or] at this
        obtain ⟨j, hjM, hj⟩ := List.any_eq_true.1 this
        simp only [Bool.and_eq_true, decide_eq_true_eq] at hj
        obtain ⟨oj, hoj, hjd⟩ := dst_of hj.2
        have hjdn : j ∈ dn := by
          rw [← h1] at hjM
          rcases List.mem_append.1 hjM with h | h
          · exact h
          · exfalso
            rcases List.mem_cons.1 h with h | h
            · omega
            · have := (List.pairwise_cons.1 hs2.2.1).1 j h
              omega
        exact (h8 j hjdn oj d hoj hjd).symm
    have hex : execOp c.eval o = execOp A.eval o := execOp_congr o (fun cs bb => Region.noSelect_spec hsel i0 o cs bb (by rw [List.getElem?_toArray]; exact hi)) fun x hx => by
      cases x with
      | tmp t => exact hsame t (List.mem_append_left _ (List.mem_filterMap.2 ⟨.tmp t, by simpa using hx, rfl⟩))
      | _ => rfl
    refine Oper.wp_mono (fun c' w' hh => ?_) (h4 u (Ext.refl u) (h3' (by simp)) c Q hex)
    obtain ⟨v, rfl, hcw, hcm, ht⟩ := hh
    refine ⟨v, rfl, hcw, step listed i0 hr hc, dn ++ [i0], r, A.put o.dst v, by rw [List.append_assoc]; exact h1, fun j hj => ?_, fun j hj => ?_, fun hr => hcm ?_, ht, by rw [defers_put, h5], by rw [size_put, h6], fun d hd => ?_, fun j hj oj d hoj hd => ?_⟩
    · rcases List.mem_append.1 hj with h | h
      · exact getD_set_true (h2 j h)
      · rw [List.mem_singleton.1 h]; exact getD_at hlt
    · have hne : i0 ≠ j := by
        have := (List.pairwise_cons.1 hs2.2.1).1 j hj
        omega
      rw [getD_set_ne false hne]
      exact h3 j (List.mem_cons_of_mem _ hj)
    · cases r with
      | nil => exact absurd rfl hr
      | cons j r' =>
        have hjM : j ∈ marks l m := by rw [← h1]; simp
        simp [List.getElem?_eq_getElem (mem_marks.1 hjM).1]
    · have hne : o.dst ≠ some d := fun hod => by
        have := (hsp i0 o hi).own d hod
        rw [hmi, hd] at this
        cases this
      rw [slot_put_ne hne]
      exact h7 d hd
    · rcases List.mem_append.1 hj with h | h
      · have hne : i0 ≠ j := fun e => by
          subst e
          have := hs2.2.2 i0 h i0 (by simp)
          omega
        have h9 := (hsp j oj hoj).one i0 o d hi hne hd
        rw [slot_put_ne h9, slot_put_ne h9]
        exact h8 j h oj d hoj hd
      · have ej := List.mem_singleton.1 h
        subst ej
        have : oj = o := Option.some.inj (hoj.symm.trans hi)
        subst this
        rw [hd]
        rcases Nat.lt_or_ge d c.tmps.size with k | k
        · rw [slot_put_eq k, slot_put_eq (by rw [h6, hF, ← hsz]; exact k)]
        · rw [slot_out (a := A.put (some d) v) (by rw [size_put, h6, hF, ← hsz]; exact k), slot_out (by rw [size_put]; exact k)]
  · intro c u hw hdf hsz hsl hJ
    obtain ⟨hc, dn, rem, A, h1, h2, h3, h3', h4, h5, h6, h7, h8⟩ := hJ
    have hrem : rem = [] := by
      cases rem with
      | nil => rfl
      | cons i r =>
        exfalso
        have hiM : i ∈ marks l m := by rw [← h1]; simp
        have := h3 i (by simp)
        simp [(mem_marks.1 hiM).1] at this
    subst hrem
    have hA : A = c := act_ext (h5.trans hdf.symm) (h6.trans hsz.symm) fun d hd => by
      cases hb : bs.contains d with
      | false => rw [h7 d hb, hsl d hb]
      | true =>
        obtain ⟨j, hjM, hj⟩ := List.any_eq_true.1 (t2 d (by simpa using hb))
        obtain ⟨oj, hoj, hjd⟩ := dst_of hj
        rw [List.append_nil] at h1
        exact h8 j (by rw [h1]; exact hjM) oj d hoj hjd
    subst hA
    exact h4 u (Ext.refl u) hw

/-- an append of one element, as a marked operation -/
theorem gives_append_g1 {α : Type} (L : Lay α) {o : Oper} {A : Act} {u : World} {R : Value → World → Prop} (s x : Operand) (ho : o.op = .call { callee := .builtin .append, args := #[s, x], argTypes := #[L.st, L.st] }) (base : Nat) (v : Value) (l : List α) (hs : A.eval s = v) (hown : OwnG L u base v l)
    (g c : Nat) (y : α) (hx : A.eval x = .slice (some ⟨g, 0, none⟩) 1 c) (hy : ∀ i t, (L.cells y)[i]? = some t → u.cell? ⟨g, i, none⟩ = some t) (hlen : l.length < 1000000) (hbase : base ≤ u.heap.size)
    (h : ∀ v' w', OwnG L w' base v' (l ++ [y]) → Calm v.ownBlock.toList u w' → (∀ k, v'.ownBlock = some k → v.ownBlock = some k ∨ k = u.heap.size) → R v' w') : Gives Try.prog o A u R := by
  obtain ⟨v', w', hr, h1, h2, h3⟩ := run_append_g L o.type base v l hown ⟨g, 0, none⟩ c [y] (fun j t hj => by
    rw [L.flat_single] at hj
    have := hy j t hj
    rcases Nat.eq_zero_or_pos j with h0 | h0
    · subst h0; simpa [Addr.add] using this
    · simpa [Addr.add, Nat.ne_of_gt h0] using this) (by simp; omega) hbase
  rw [List.length_singleton] at hr
  refine gives_value (u' := w') (v := v') ?_ (h v' w' h1 h2 h3)
  unfold execOp
  simp only [ho, resolve, invoke, builtin, Sem.run_bind, Sem.run_pure, Result.andThen_ok, List.map_toArray, List.map_cons, List.map_nil, hs, hx, hr]
end Go.Proofs.Ytjohcngmoemmbaa
