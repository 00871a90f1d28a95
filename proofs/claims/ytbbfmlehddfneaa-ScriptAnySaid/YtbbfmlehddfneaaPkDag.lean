/-
  DERIVED. Regions that draw their order whose marked operations make no chain: they are walked as a tree of the orders that may come (the quiet ones once, whatever their order).
-/
import Derived.Test.YtbbfmlehddfneaaPkGs
namespace Go.Proofs.Ytbbfmlehddfneaa
open Go.RowKit
set_option linter.unusedVariables false
variable {P : Program}
/-- the marked operations that may come next -/
def rdy (l : List Oper) (n : Nat) (rem : List Nat) : List Nat := rem.filter fun i => rem.all fun j => j == i || !befB l n j i
/-- the marked operations in whatever order may come -/
def tailD (P : Program) (l : List Oper) (n : Nat) (O1 O : List Nat) (w0 : World) (K : Act → World → Prop) : Nat → List Nat → Act → World → Prop
  | 0, _, A, u => ∀ u', Ext u u' → Calm O w0 u' → K A u'
  | k + 1, rem, A, u => ∀ i ∈ rdy l n rem, ∀ o, l[i]? = some o → ∀ u', Ext u u' → Calm O1 w0 u' → Gives P o A u' (fun v w' => Calm O w0 w' ∧ (k ≠ 0 → Calm O1 w0 w') ∧ tailD P l n O1 O w0 K k (rem.erase i) (A.put o.dst v) w')
theorem tailD_ext {l : List Oper} {n : Nat} {O1 O : List Nat} {w0 : World} {K : Act → World → Prop} {k : Nat} {rem : List Nat} {A : Act} {u u' : World} (h : tailD P l n O1 O w0 K k rem A u) (x : Ext u u') : tailD P l n O1 O w0 K k rem A u' := by
  cases k with
  | zero => exact fun u2 x2 => h u2 (x.trans x2)
  | succ k => exact fun i hi o ho u2 x2 => h i hi o ho u2 (x.trans x2)
theorem tailD_one {l : List Oper} {n : Nat} {O1 O : List Nat} {w0 : World} {K : Act → World → Prop} {k : Nat} {rem rem' : List Nat} {A : Act} {u : World} (i : Nat) (o : Oper) (hR : rdy l n rem = [i]) (ho : l[i]? = some o) (he : rem.erase i = rem')
    (h : ∀ u', Ext u u' → Calm O1 w0 u' → Gives P o A u' (fun v w' => Calm O w0 w' ∧ (k ≠ 0 → Calm O1 w0 w') ∧ tailD P l n O1 O w0 K k rem' (A.put o.dst v) w')) : tailD P l n O1 O w0 K (k + 1) rem A u := by
  intro j hj oj hoj
  rw [hR, List.mem_singleton] at hj
  subst hj
  have : oj = o := Option.some.inj (hoj.symm.trans ho)
  subst this
  rw [he]
  exact h
theorem tailD_two {l : List Oper} {n : Nat} {O1 O : List Nat} {w0 : World} {K : Act → World → Prop} {k : Nat} {rem r1 r2 : List Nat} {A : Act} {u : World} (i j : Nat) (o p : Oper) (hR : rdy l n rem = [i, j]) (ho : l[i]? = some o) (hp : l[j]? = some p) (he1 : rem.erase i = r1) (he2 : rem.erase j = r2)
    (h1 : ∀ u', Ext u u' → Calm O1 w0 u' → Gives P o A u' (fun v w' => Calm O w0 w' ∧ (k ≠ 0 → Calm O1 w0 w') ∧ tailD P l n O1 O w0 K k r1 (A.put o.dst v) w'))
    (h2 : ∀ u', Ext u u' → Calm O1 w0 u' → Gives P p A u' (fun v w' => Calm O w0 w' ∧ (k ≠ 0 → Calm O1 w0 w') ∧ tailD P l n O1 O w0 K k r2 (A.put p.dst v) w')) : tailD P l n O1 O w0 K (k + 1) rem A u := by
  intro x hx ox hox
  rw [hR] at hx
  rcases List.mem_cons.1 hx with h | h
  · subst h
    have : ox = o := Option.some.inj (hox.symm.trans ho)
    subst this
    rw [he1]
    exact h1
  · rw [List.mem_singleton] at h
    subst h
    have : ox = p := Option.some.inj (hox.symm.trans hp)
    subst this
    rw [he2]
    exact h2
/-- what a marked operation looks at is written by a marked one that it waits for -/
def dagB (l : List Oper) (m : List Bool) (bs : List Tmp) (n : Nat) : Bool :=
  (bs.all fun d => (marks l m).any fun i => (l[i]?).bind (·.dst) == some d) &&
  (marks l m).all fun j => match l[j]? with
    | some o => (o.looksAt l.toArray).all fun d => !bs.contains d || (marks l m).any fun i => decide (i ≠ j) && befB l n i j && (l[i]?).bind (·.dst) == some d
    | none => true

structure JDag (P : Program) (l : List Oper) (m : List Bool) (n : Nat) (bs : List Tmp) (O1 O : List Nat) (w0 : World) (F : Act) (K : Act → World → Prop) (listed : Array Bool) (c : Act) (u : World) : Prop where
  closed : ∀ j oj, l[j]? = some oj → listed.getD j false = true → ∀ e ∈ oj.after, Region.binds .any e = true → listed.getD e.on false = true
  rest : ∃ (rem : List Nat) (A : Act), rem.Nodup ∧ (∀ i ∈ marks l m, i ∉ rem → listed.getD i false = true) ∧ (∀ i ∈ rem, listed.getD i false = false ∧ i ∈ marks l m) ∧ (rem ≠ [] → Calm O1 w0 u) ∧
    tailD P l n O1 O w0 K rem.length rem A u ∧ A.defers = F.defers ∧ A.tmps.size = F.tmps.size ∧ (∀ d, bs.contains d = false → slot A d = slot F d) ∧
    (∀ i ∈ marks l m, i ∉ rem → ∀ o d, l[i]? = some o → o.dst = some d → slot A d = slot c d)

theorem wp_region_dag_gen {id : Nat} {l : List Oper} (n : Nat) (m : List Bool) (bs : List Tmp) (O1 O : List Nat) {w : World} {a : Act} (F : Act) {Q : Exit → Act → World → Prop} (M : List Nat) (k : Nat) (hm : P.follows .mixedOrders = true)
    (hB : calmB l m bs = true) (hT : dagB l m bs n = true) (hL : lateB l m n = true ∨ O1 = O) (hM : marks l m = M) (hk : M.length = k) (hF : F.tmps.size = a.tmps.size)
    (H : ∀ x, Calm O1 w x → wpQuiet P (eraseM m l).toArray (fun w' => ∃ y : Wx x, w' = y.val) (fun a' => a' = F) (eraseM m l) a)
    (T : tailD P l n O1 O w (fun A u => Q .normal A u) k M F w) :
    (Code.region id l.toArray true).wp P Q a w := by
  subst hk
  subst hM
  simp only [dagB, Bool.and_eq_true, List.all_eq_true] at hT
  obtain ⟨t2, t3⟩ := hT
  obtain ⟨hsel, hsp⟩ := calmB_spec hB
  have step : ∀ (listed : Array Bool) (i : Nat), i ∈ Region.ready .any l.toArray listed → (∀ j oj, l[j]? = some oj → listed.getD j false = true → ∀ e ∈ oj.after, Region.binds .any e = true → listed.getD e.on false = true) →
      ∀ j oj, l[j]? = some oj → (listed.setIfInBounds i true).getD j false = true → ∀ e ∈ oj.after, Region.binds .any e = true → (listed.setIfInBounds i true).getD e.on false = true := by
    intro listed i hr hc j oj hj hl e he hb
    obtain ⟨hun, oi, hoi, hall⟩ := mem_ready.1 hr
    rw [List.getElem?_toArray] at hoi
    by_cases hij : i = j
    · subst hij
      have : oj = oi := Option.some.inj (hj.symm.trans hoi)
      subst this
      exact getD_set_true (hall e he hb)
    · rw [getD_set_ne false hij] at hl
      exact getD_set_true (hc j oj hj hl e he hb)
  refine wp_region_calm_gen m bs O F (fun listed c u => JDag P l m n bs O1 O w F (fun A u => Q .normal A u) listed c u) hm hB (fun x => Calm O1 w x) (Calm.refl _ _) (fun listed i u hmi hli hil hcl hcw _ hJ => ?_) H ?_ ?_ ?_ ?_
  · rcases hL with hL | hL
    · obtain ⟨c, -, rem, A, h1, h2, h3, h3', -⟩ := hJ
      refine h3' fun hr => ?_
      subst hr
      have k1 := List.all_eq_true.1 hL i (List.mem_range.2 hil)
      rw [hmi, Bool.false_or] at k1
      obtain ⟨j, hj, k2⟩ := List.any_eq_true.1 k1
      have hjl := (mem_marks.1 hj).1
      have := befB_spec hcl n i j hjl k2 (h2 j hj (by simp))
      rw [hli] at this
      cases this
    · rw [hL]; exact hcw
  · exact ⟨fun j oj _ hl => (by rw [rep_false] at hl; cases hl), marks l m, F, (marks_sorted l m).imp (fun h => by omega), (fun i hi hn => absurd hi hn), (fun i hi => ⟨rep_false _ _, hi⟩), (fun _ => (Ext.refl w).drew.calm O1), tailD_ext T (Ext.refl w).drew, rfl, rfl, fun _ _ => rfl, fun i hi hn => absurd hi hn⟩
  · intro listed c u u' i o v hi hmi hr x hJ
    obtain ⟨hc, rem, A, h1, h2, h3, h3', h4, h5, h6, h7, h8⟩ := hJ
    have hnm : ∀ j ∈ marks l m, i ≠ j := fun j hj e => by
      subst e
      have := (mem_marks.1 hj).2
      rw [hmi] at this
      cases this
    refine ⟨step listed i hr hc, rem, A, h1, fun j hj hn => getD_set_true (h2 j hj hn), fun j hj => ?_, fun hr => (h3' hr).trans (x.calm O1), tailD_ext h4 x, h5, h6, h7, fun j hj hn oj d hoj hd => ?_⟩
    · have := h3 j hj
      rw [getD_set_ne false (hnm j this.2)]
      exact this
    · rw [slot_put_ne ((hsp j oj hoj).one i o d hi (hnm j hj) hd)]
      exact h8 j hj hn oj d hoj hd
  · intro listed c u i o hi hmi hr hw hJ hsz hlook
    obtain ⟨hc, rem, A, h1, h2, h3, h3', h4, h5, h6, h7, h8⟩ := hJ
    obtain ⟨hun, oi, hoi, hall⟩ := mem_ready.1 hr
    obtain ⟨hunf, hlt⟩ := getD_f hun
    have hil : i < l.length := (List.getElem?_eq_some_iff.1 hi).1
    have hiM : i ∈ marks l m := mem_marks.2 ⟨hil, hmi⟩
    have hirem : i ∈ rem := by
      by_cases h : i ∈ rem
      · exact h
      · have := h2 i hiM h
        rw [hunf] at this
        cases this
    have hbef : ∀ j, j ≠ i → befB l n j i = true → listed.getD j false = true := fun j hj hb => by
      have hl2 := befB_spec (step listed i hr hc) n j i hil hb (getD_at hlt)
      rw [getD_set_ne false (fun e => hj e.symm)] at hl2
      exact hl2
    have hrdy : i ∈ rdy l n rem := by
      refine List.mem_filter.2 ⟨hirem, List.all_eq_true.2 fun j hj => ?_⟩
      by_cases hji : j = i
      · subst hji; simp
      · cases hb : befB l n j i with
        | false => simp
        | true =>
          have := hbef j hji hb
          rw [(h3 j hj).1] at this
          cases this
    obtain ⟨k, hk⟩ : ∃ k, rem.length = k + 1 := ⟨rem.length - 1, by have := List.length_pos_of_mem hirem; omega⟩
    have hke : (rem.erase i).length = k := by rw [List.length_erase_of_mem hirem, hk]; rfl
    rw [hk] at h4
    have hsame : ∀ d ∈ o.looksAt l.toArray, slot c d = slot A d := by
      intro d hd
      cases hb : bs.contains d with
      | false => rw [hlook d hd hb, h7 d hb]
      | true =>
        have := t3 i hiM
        rw [hi] at this
        have := List.all_eq_true.1 this d hd
        simp only [hb, Bool.not_true, Bool.false_or] at this
        obtain ⟨j, hjM, hj⟩ := List.any_eq_true.1 this
        simp only [Bool.and_eq_true, decide_eq_true_eq] at hj
        obtain ⟨oj, hoj, hjd⟩ := dst_of hj.2
        have hjl := hbef j hj.1.1 hj.1.2
        refine (h8 j hjM (fun hin => ?_) oj d hoj hjd).symm
        rw [(h3 j hin).1] at hjl
        cases hjl
    have hex : execOp c.eval o = execOp A.eval o := execOp_congr o (fun cs bb => Region.noSelect_spec hsel i o cs bb (by rw [List.getElem?_toArray]; exact hi)) fun x hx => by
      cases x with
      | tmp t => exact hsame t (List.mem_append_left _ (List.mem_filterMap.2 ⟨.tmp t, by simpa using hx, rfl⟩))
      | _ => rfl
    refine Oper.wp_mono (fun c' w' hh => ?_) (h4 i hrdy o hi u (Ext.refl u) (h3' (fun h => by rw [h] at hirem; cases hirem)) c Q hex)
    obtain ⟨v, rfl, hcw, hcm, ht⟩ := hh
    refine ⟨v, rfl, hcw, step listed i hr hc, rem.erase i, A.put o.dst v, h1.erase i, fun j hj hn => ?_, fun j hj => ?_, fun hr => hcm (fun h0 => hr (List.eq_nil_of_length_eq_zero (hke.trans h0))), hke ▸ ht, by rw [defers_put, h5], by rw [size_put, h6], fun d hd => ?_, fun j hj hn oj d hoj hd => ?_⟩
    · by_cases hji : j = i
      · subst hji; exact getD_at hlt
      · exact getD_set_true (h2 j hj (fun h => hn ((List.mem_erase_of_ne hji).2 h)))
    · have hne : i ≠ j := fun e => by subst e; exact (List.Nodup.not_mem_erase h1) hj
      rw [getD_set_ne false hne]
      exact h3 j (List.mem_of_mem_erase hj)
    · have hne : o.dst ≠ some d := fun hod => by
        have := (hsp i o hi).own d hod
        rw [hmi, hd] at this
        cases this
      rw [slot_put_ne hne]
      exact h7 d hd
    · by_cases hji : j = i
      · subst hji
        have : oj = o := Option.some.inj (hoj.symm.trans hi)
        subst this
        rw [hd]
        rcases Nat.lt_or_ge d c.tmps.size with k | k
        · rw [slot_put_eq k, slot_put_eq (by rw [h6, hF, ← hsz]; exact k)]
        · rw [slot_out (a := A.put (some d) v) (by rw [size_put, h6, hF, ← hsz]; exact k), slot_out (by rw [size_put]; exact k)]
      · have h9 := (hsp j oj hoj).one i o d hi (fun e => hji e.symm) hd
        rw [slot_put_ne h9, slot_put_ne h9]
        exact h8 j hj (fun h => hn ((List.mem_erase_of_ne hji).2 h)) oj d hoj hd
  · intro c u hw hdf hsz hsl hJ
    obtain ⟨hc, rem, A, h1, h2, h3, h3', h4, h5, h6, h7, h8⟩ := hJ
    have hrem : rem = [] := by
      cases rem with
      | nil => rfl
      | cons i r =>
        exfalso
        have := h3 i (by simp)
        simp [(mem_marks.1 this.2).1] at this
    subst hrem
    have hA : A = c := act_ext (h5.trans hdf.symm) (h6.trans hsz.symm) fun d hd => by
      cases hb : bs.contains d with
      | false => rw [h7 d hb, hsl d hb]
      | true =>
        obtain ⟨j, hjM, hj⟩ := List.any_eq_true.1 (t2 d (by simpa using hb))
        obtain ⟨oj, hoj, hjd⟩ := dst_of hj
        exact h8 j hjM (by simp) oj d hoj hjd
    subst hA
    exact h4 u (Ext.refl u) hw
theorem wp_region_dag {id : Nat} {l : List Oper} (n : Nat) (m : List Bool) (bs : List Tmp) (O1 O : List Nat) {w : World} {a : Act} (F : Act) {Q : Exit → Act → World → Prop} (M : List Nat) (k : Nat) (hm : P.follows .mixedOrders = true)
    (hB : calmB l m bs = true) (hT : dagB l m bs n = true) (hL : lateB l m n = true) (hM : marks l m = M) (hk : M.length = k) (hF : F.tmps.size = a.tmps.size)
    (H : ∀ x, Calm O1 w x → wpQuiet P (eraseM m l).toArray (fun w' => ∃ y : Wx x, w' = y.val) (fun a' => a' = F) (eraseM m l) a)
    (T : tailD P l n O1 O w (fun A u => Q .normal A u) k M F w) :
    (Code.region id l.toArray true).wp P Q a w := wp_region_dag_gen n m bs O1 O F M k hm hB hT (.inl hL) hM hk hF H T
/-- the same, where what is read is never turned: what is read by no marked operation may come behind all of them -/
theorem wp_region_dag_all {id : Nat} {l : List Oper} (n : Nat) (m : List Bool) (bs : List Tmp) (O : List Nat) {w : World} {a : Act} (F : Act) {Q : Exit → Act → World → Prop} (M : List Nat) (k : Nat) (hm : P.follows .mixedOrders = true)
    (hB : calmB l m bs = true) (hT : dagB l m bs n = true) (hM : marks l m = M) (hk : M.length = k) (hF : F.tmps.size = a.tmps.size)
    (H : ∀ x, Calm O w x → wpQuiet P (eraseM m l).toArray (fun w' => ∃ y : Wx x, w' = y.val) (fun a' => a' = F) (eraseM m l) a)
    (T : tailD P l n O O w (fun A u => Q .normal A u) k M F w) :
    (Code.region id l.toArray true).wp P Q a w := wp_region_dag_gen n m bs O O F M k hm hB hT (.inr rfl) hM hk hF H T
end Go.Proofs.Ytbbfmlehddfneaa

