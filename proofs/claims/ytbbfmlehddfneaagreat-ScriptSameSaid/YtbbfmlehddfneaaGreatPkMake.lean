/-
  DERIVED. Regions that draw their order, in which some operations (G) make memory, whatever comes of them told by a fact that new memory leaves as it is (each in a range of blocks of its own), and some (L), one behind the other, wait for all others and store: no order is walked but L's.
-/
import Derived.Test.YtbbfmlehddfneaaGreatPkMix
namespace Go.Proofs.YtbbfmlehddfneaaGreat
open Go.RowKit
set_option linter.unusedVariables false
section
variable {P : Program}
def makeB (l : List Oper) (m : List Bool) (bs : List Tmp) (n : Nat) (G L : List Nat) : Bool :=
  calmB l m bs && ((List.range l.length).all fun i => !m.getD i false || G.contains i || L.contains i) && (L.all fun j => m.getD j false && decide (j < l.length)) && (G.all fun j => !L.contains j && m.getD j false && decide (j < l.length)) && decide (G.Pairwise (· < ·)) &&
  ((List.range l.length).all fun i => L.contains i || L.all fun j => befB l n i j) &&
  (L.all fun i => L.all fun j => !decide (i < j) || befB l n i j) &&
  (L.all fun j => match l[j]? with | some o => o.dst.isNone | none => false) &&
  (G.all fun i => match l[i]? with | some o => (o.looksAt l.toArray).all fun d => !bs.contains d | none => true) &&
  (bs.all fun d => G.any fun i => (l[i]?).bind (·.dst) == some d)
theorem inj_sorted {α : Type} : ∀ {G : List (Nat × α)}, (G.map (·.1)).Pairwise (· < ·) → ∀ q ∈ G, ∀ p ∈ G, q.1 = p.1 → q = p
  | [], _, q, hq, _, _, _ => by cases hq
  | x :: r, h, q, hq, p, hp, he => by
    rw [List.map_cons] at h
    obtain ⟨h1, h2⟩ := List.pairwise_cons.1 h
    rcases List.mem_cons.1 hq with rfl | hqr
    · rcases List.mem_cons.1 hp with rfl | hp
      · rfl
      · have := h1 p.1 (List.mem_map_of_mem hp)
        omega
    · rcases List.mem_cons.1 hp with rfl | hp
      · have := h1 q.1 (List.mem_map_of_mem hqr)
        omega
      · exact inj_sorted h2 q hqr p hp he
structure JMake (P : Program) (l : List Oper) (bs : List Tmp) (L : List Nat) (G : List (Nat × (Value → Nat → Nat → World → Prop))) (O : List Nat) (w0 : World) (F : Act) (K : Act → World → Prop) (listed : Array Bool) (c : Act) (u : World) : Prop where
  closed : ∀ j oj, l[j]? = some oj → listed.getD j false = true → ∀ e ∈ oj.after, Region.binds .any e = true → listed.getD e.on false = true
  phase : ((∀ j ∈ L, listed.getD j false = false) ∧ Ext w0 u ∧ ∃ lo hi : Nat → Nat, (∀ p ∈ G, listed.getD p.1 false = true → ∀ o d, l[p.1]? = some o → o.dst = some d → p.2 (slot c d) (lo p.1) (hi p.1) u) ∧ (∀ p ∈ G, listed.getD p.1 false = true → w0.heap.size ≤ lo p.1 ∧ lo p.1 ≤ hi p.1 ∧ hi p.1 ≤ u.heap.size) ∧ (∀ p ∈ G, ∀ q ∈ G, listed.getD p.1 false = true → listed.getD q.1 false = true → p.1 ≠ q.1 → hi p.1 ≤ lo q.1 ∨ hi q.1 ≤ lo p.1)) ∨
    ∃ (dn rem : List Nat) (A : Act), dn ++ rem = L ∧ dn ≠ [] ∧ (∀ i ∈ dn, listed.getD i false = true) ∧ (∀ i ∈ rem, listed.getD i false = false) ∧ tailW P O w0 K (rem.filterMap (l[·]?)) A u ∧ A.defers = F.defers ∧ A.tmps.size = F.tmps.size ∧ ∀ d, slot A d = if bs.contains d then slot c d else slot F d
theorem wp_region_make {id : Nat} {l : List Oper} (n : Nat) (m : List Bool) (bs : List Tmp) (G : List (Nat × (Value → Nat → Nat → World → Prop))) (L O : List Nat) {w : World} {a : Act} (F : Act) {Q : Exit → Act → World → Prop} (hm : P.follows .mixedOrders = true)
    (hB : makeB l m bs n (G.map (·.1)) L = true) (hs : bs.all (fun d => decide (d < a.tmps.size)) = true) (hsort : decide (L.Pairwise (· < ·)) = true) (hF : F.tmps.size = a.tmps.size)
    (hR : ∀ p ∈ G, ∀ v lo hi u u', p.2 v lo hi u → Ext u u' → p.2 v lo hi u')
    (H : ∀ x, Ext w x → wpQuiet P (eraseM m l).toArray (fun w' => ∃ y : Wx x, w' = y.val) (fun a' => a' = F) (eraseM m l) a)
    (hG : ∀ p ∈ G, ∀ o, l[p.1]? = some o → ∀ u, Ext w u → Gives P o F u (fun v w' => Ext u w' ∧ p.2 v u.heap.size w'.heap.size w'))
    (T : ∀ c u (lo hi : Nat → Nat), Ext w u → (∀ p ∈ G, ∀ o d, l[p.1]? = some o → o.dst = some d → p.2 (slot c d) (lo p.1) (hi p.1) u) → (∀ p ∈ G, w.heap.size ≤ lo p.1 ∧ lo p.1 ≤ hi p.1 ∧ hi p.1 ≤ u.heap.size) → (∀ p ∈ G, ∀ q ∈ G, p.1 ≠ q.1 → hi p.1 ≤ lo q.1 ∨ hi q.1 ≤ lo p.1) → tailW P O w (fun A u => Q .normal A u) (L.filterMap (l[·]?)) (bs.foldl (fun a d => a.put (some d) (slot c d)) F) u) :
    (Code.region id l.toArray true).wp P Q a w := by
  simp only [makeB, Bool.and_eq_true] at hB
  obtain ⟨⟨⟨⟨⟨⟨⟨⟨⟨hC, b1⟩, b2⟩, b3⟩, hnd⟩, b4⟩, b5⟩, b6⟩, b7⟩, b8⟩ := hB
  have hnd := of_decide_eq_true hnd
  obtain ⟨hsel, hsp⟩ := calmB_spec hC
  have hsort := of_decide_eq_true hsort
  have hbs : ∀ d, bs.contains d = true → d < F.tmps.size := fun d hd => by
    rw [hF]
    exact of_decide_eq_true (List.all_eq_true.1 hs d (by simpa using hd))
  have kL : ∀ j ∈ L, m.getD j false = true ∧ j < l.length := fun j hj => by
    have := List.all_eq_true.1 b2 j hj
    simp only [Bool.and_eq_true, decide_eq_true_eq] at this
    exact this
  have kd : ∀ j ∈ L, ∀ o, l[j]? = some o → o.dst = none := fun j hj o ho => by
    have := List.all_eq_true.1 b6 j hj
    rw [ho] at this
    simpa using this
  have kall : ∀ i, i < l.length → i ∉ L → ∀ j ∈ L, befB l n i j = true := fun i hi hn j hj => by
    have := List.all_eq_true.1 b4 i (List.mem_range.2 hi)
    simp only [Bool.or_eq_true] at this
    rcases this with h | h
    · exact absurd (by simpa using h) hn
    · exact List.all_eq_true.1 h j hj
  have kchain : ∀ i ∈ L, ∀ j ∈ L, i < j → befB l n i j = true := fun i hi j hj hlt => by
    have := List.all_eq_true.1 (List.all_eq_true.1 b5 i hi) j hj
    simp only [hlt, decide_true, Bool.not_true, Bool.false_or] at this
    exact this
  have kG : ∀ p ∈ G, p.1 ∉ L ∧ m.getD p.1 false = true := fun p hp => by
    have := List.all_eq_true.1 b3 p.1 (List.mem_map_of_mem hp)
    simp only [Bool.and_eq_true, Bool.not_eq_true'] at this
    have h1 := this.1.1
    have h2 := this.1.2
    exact ⟨fun hin => (by rw [List.contains_iff_mem.2 hin] at h1; cases h1), h2⟩
  have kGl : ∀ p ∈ G, p.1 < l.length := fun p hp => by
    have := List.all_eq_true.1 b3 p.1 (List.mem_map_of_mem hp)
    simp only [Bool.and_eq_true, decide_eq_true_eq] at this
    exact this.2
  have hinj := inj_sorted hnd
  have step : ∀ (listed : Array Bool) (i : Nat), i ∈ Region.ready .any l.toArray listed → (∀ j oj, l[j]? = some oj → listed.getD j false = true → ∀ e ∈ oj.after, Region.binds .any e = true → listed.getD e.on false = true) →
      ∀ j oj, l[j]? = some oj → (listed.setIfInBounds i true).getD j false = true → ∀ e ∈ oj.after, Region.binds .any e = true → (listed.setIfInBounds i true).getD e.on false = true := by
    intro listed i hr hc j oj hj hl e he hb
    obtain ⟨hun, oi, hoi, hall⟩ := mem_ready.1 hr
    rw [List.getElem?_toArray] at hoi
    by_cases hij : i = j
    · subst hij
      have : oj = oi := Option.some.inj (hj.symm.trans hoi)
      subst this
      exact getD_set_true (hall e he hb)
    · rw [getD_set_ne false hij] at hl
      exact getD_set_true (hc j oj hj hl e he hb)
  -- once one of L is listed, all but L are
  have late : ∀ (listed : Array Bool), (∀ j oj, l[j]? = some oj → listed.getD j false = true → ∀ e ∈ oj.after, Region.binds .any e = true → listed.getD e.on false = true) → ∀ j ∈ L, listed.getD j false = true → ∀ i, i < l.length → i ∉ L → listed.getD i false = true :=
    fun listed hc j hj hl i hi hn => befB_spec hc n i j (kL j hj).2 (kall i hi hn j hj) hl
  have hputs : ∀ (c : Act) (d : Tmp), slot (bs.foldl (fun a d => a.put (some d) (slot c d)) F) d = if bs.contains d then slot c d else slot F d := fun c d => by
    rw [slot_puts]
    cases hb : bs.contains d with
    | true => rw [if_pos ⟨by simpa using hb, hbs d hb⟩]; rfl
    | false => rw [if_neg (fun h => by rw [List.contains_iff_mem.2 h.1] at hb; cases hb)]; rfl
  refine wp_region_calm_gen m bs O F (fun listed c u => JMake P l bs L G O w F (fun A u => Q .normal A u) listed c u) hm hC (fun x => Ext w x) (Ext.refl _) (fun listed i u hmi hli hil hcl _ _ hJ => ?_) H ?_ ?_ ?_ ?_
  · obtain ⟨c, hc, hp⟩ := hJ
    rcases hp with ⟨-, h2, -⟩ | ⟨dn, rem, A, h1, h2, h3, -⟩
    · exact h2
    · exfalso
      obtain ⟨j, hj⟩ := List.exists_mem_of_ne_nil dn h2
      have hjL : j ∈ L := h1 ▸ List.mem_append_left _ hj
      have hiL : i ∉ L := fun h => by have := (kL i h).1; rw [hmi] at this; cases this
      have := late listed hcl j hjL (h3 j hj) i hil hiL
      rw [hli] at this
      cases this
  · exact ⟨fun j oj _ hl => (by rw [rep_false] at hl; cases hl), .inl ⟨fun j _ => rep_false _ _, (Ext.refl w).drew, fun _ => 0, fun _ => 0, (fun p _ hl => by rw [rep_false] at hl; cases hl), (fun p _ hl => by rw [rep_false] at hl; cases hl), (fun p _ q _ hl => by rw [rep_false] at hl; cases hl)⟩⟩
  · intro listed c u u' i o v hi hmi hr x hJ
    obtain ⟨hc, hp⟩ := hJ
    obtain ⟨hun, -⟩ := mem_ready.1 hr
    obtain ⟨hunf, hlt⟩ := getD_f hun
    have hil : i < l.length := (List.getElem?_eq_some_iff.1 hi).1
    have hiL : i ∉ L := fun h => by have := (kL i h).1; rw [hmi] at this; cases this
    refine ⟨step listed i hr hc, ?_⟩
    rcases hp with ⟨h1, h2, lo, hi', h3, h4, h5⟩ | ⟨dn, rem, A, h1, h2, h3, -⟩
    · have hne : ∀ p ∈ G, i ≠ p.1 := fun p hp e => by
        subst e
        have := (kG p hp).2
        rw [hmi] at this
        cases this
      refine .inl ⟨fun j hj => ?_, h2.trans x, lo, hi', fun p hp hl oj d hoj hd => ?_, fun p hp hl => ?_, fun p hp q hq hl hl' => ?_⟩
      · rw [getD_set_ne false (fun e => hiL (by rw [e]; exact hj))]
        exact h1 j hj
      · rw [getD_set_ne false (hne p hp)] at hl
        rw [slot_put_ne ((hsp p.1 oj hoj).one i o d hi (hne p hp) hd)]
        exact hR p hp _ _ _ _ _ (h3 p hp hl oj d hoj hd) x
      · rw [getD_set_ne false (hne p hp)] at hl
        have := h4 p hp hl
        exact ⟨this.1, this.2.1, Nat.le_trans this.2.2 x.size⟩
      · rw [getD_set_ne false (hne p hp)] at hl
        rw [getD_set_ne false (hne q hq)] at hl'
        exact h5 p hp q hq hl hl'
    · exfalso
      obtain ⟨j, hj⟩ := List.exists_mem_of_ne_nil dn h2
      have hjL : j ∈ L := h1 ▸ List.mem_append_left _ hj
      have := late listed hc j hjL (h3 j hj) i hil hiL
      rw [hunf] at this
      cases this
  · intro listed c u i o hi hmi hr hw hJ hsz hlook
    obtain ⟨hc, hp⟩ := hJ
    obtain ⟨hun, oi, hoi, hall⟩ := mem_ready.1 hr
    obtain ⟨hunf, hlt⟩ := getD_f hun
    have hil : i < l.length := (List.getElem?_eq_some_iff.1 hi).1
    have hexA : ∀ A : Act, (∀ d ∈ o.looksAt l.toArray, slot c d = slot A d) → execOp c.eval o = execOp A.eval o := fun A hsame => execOp_congr o (fun cs bb => Region.noSelect_spec hsel i o cs bb (by rw [List.getElem?_toArray]; exact hi)) fun x hx => by
      cases x with
      | tmp t => exact hsame t (List.mem_append_left _ (List.mem_filterMap.2 ⟨.tmp t, by simpa using hx, rfl⟩))
      | _ => rfl
    have hlookA : ∀ A : Act, (∀ d, slot A d = if bs.contains d then slot c d else slot F d) → ∀ d ∈ o.looksAt l.toArray, slot c d = slot A d := fun A hA d hd => by
      rw [hA]
      cases hb : bs.contains d with
      | false => exact hlook d hd hb
      | true => rfl
    by_cases hiL : i ∈ L
    · have hdn := kd i hiL o hi
      have fin : ∀ (dn rem : List Nat) (A : Act), dn ++ rem = L → (∀ j ∈ dn, listed.getD j false = true) → (∀ j ∈ rem, listed.getD j false = false) → tailW P O w (fun A u => Q .normal A u) (rem.filterMap (l[·]?)) A u → A.defers = F.defers → A.tmps.size = F.tmps.size → (∀ d, slot A d = if bs.contains d then slot c d else slot F d) →
          o.wp P c u (fun c' w' => ∃ v, c' = c.put o.dst v ∧ Calm O w w' ∧ JMake P l bs L G O w F (fun A u => Q .normal A u) (listed.setIfInBounds i true) c' w') Q := by
        intro dn rem A h1 h2 h3 h4 h5 h6 h7
        have hirem : i ∈ rem := by
          rcases List.mem_append.1 (h1 ▸ hiL : i ∈ dn ++ rem) with h | h
          · have := h2 i h
            rw [hunf] at this
            cases this
          · exact h
        have hs2 := List.pairwise_append.1 (h1 ▸ hsort : (dn ++ rem).Pairwise (· < ·))
        obtain ⟨i0, r, rfl⟩ : ∃ i0 r, rem = i0 :: r := by
          cases rem with
          | nil => cases hirem
          | cons x y => exact ⟨x, y, rfl⟩
        have hi0L : i0 ∈ L := by rw [← h1]; simp
        have e0 : i0 = i := by
          rcases List.mem_cons.1 hirem with h | h
          · exact h.symm
          · exfalso
            have hlt0 : i0 < i := (List.pairwise_cons.1 hs2.2.1).1 i h
            have hl2 := befB_spec (step listed i hr hc) n i0 i hil (kchain i0 hi0L i hiL hlt0) (getD_at hlt)
            rw [getD_set_ne false (by omega)] at hl2
            have := h3 i0 (by simp)
            rw [hl2] at this
            cases this
        subst e0
        have hops : (i0 :: r).filterMap (l[·]?) = o :: r.filterMap (l[·]?) := by simp [hi]
        rw [hops] at h4
        refine Oper.wp_mono (fun c' w' hh => ?_) (h4 u (Ext.refl u) hw c Q (hexA A (hlookA A h7)))
        obtain ⟨v, rfl, hcw, ht⟩ := hh
        rw [hdn] at ht ⊢
        refine ⟨v, rfl, hcw, step listed i0 hr hc, .inr ⟨dn ++ [i0], r, A, by rw [List.append_assoc]; exact h1, by simp, fun j hj => ?_, fun j hj => ?_, ht, h5, h6, h7⟩⟩
        · rcases List.mem_append.1 hj with h | h
          · exact getD_set_true (h2 j h)
          · rw [List.mem_singleton.1 h]; exact getD_at hlt
        · have hne : i0 ≠ j := by
            have := (List.pairwise_cons.1 hs2.2.1).1 j hj
            omega
          rw [getD_set_ne false hne]
          exact h3 j (List.mem_cons_of_mem _ hj)
      rcases hp with ⟨h1, h2, lo, hi', h3, h4, h5⟩ | ⟨dn, rem, A, h1, h2, h3, h4, h5, h6, h7, h8⟩
      · have hall2 : ∀ p ∈ G, listed.getD p.1 false = true := fun p hp => by
          have hpl : p.1 < l.length := kGl p hp
          have hl2 := befB_spec (step listed i hr hc) n p.1 i hil (kall p.1 hpl (kG p hp).1 i hiL) (getD_at hlt)
          rw [getD_set_ne false (fun e => (kG p hp).1 (by rw [← e]; exact hiL))] at hl2
          exact hl2
        exact fin [] L (bs.foldl (fun a d => a.put (some d) (slot c d)) F) rfl (fun j hj => by cases hj) h1 (T c u lo hi' h2 (fun p hp oj d hoj hd => h3 p hp (hall2 p hp) oj d hoj hd) (fun p hp => h4 p hp (hall2 p hp)) (fun p hp q hq => h5 p hp q hq (hall2 p hp) (hall2 q hq))) (size_puts c bs F).2 (size_puts c bs F).1 (hputs c)
      · exact fin dn rem A h1 h3 h4 h5 h6 h7 h8
    · obtain ⟨p, hpG, rfl⟩ : ∃ p ∈ G, p.1 = i := by
        have := List.all_eq_true.1 b1 i (List.mem_range.2 hil)
        simp only [hmi, Bool.not_true, Bool.false_or, Bool.or_eq_true, List.contains_iff_mem] at this
        rcases this with h | h
        · obtain ⟨p, hp, e⟩ := List.mem_map.1 h
          exact ⟨p, hp, e⟩
        · exact absurd h hiL
      rcases hp with ⟨h1, h2, lo, hi', h3, h4, h5⟩ | ⟨dn, rem, A, h1, h2, h3, -⟩
      · have hb7 := List.all_eq_true.1 b7 p.1 (List.mem_map_of_mem hpG)
        rw [hi] at hb7
        have hsame : ∀ d ∈ o.looksAt l.toArray, slot c d = slot F d := fun d hd => hlook d hd (by
          have := List.all_eq_true.1 hb7 d hd
          simpa using this)
        refine Oper.wp_mono (fun c' w' hh => ?_) (hG p hpG o hi u h2 c Q (hexA F hsame))
        obtain ⟨v, rfl, x, hRv⟩ := hh
        have hz := x.size
        have hz0 := h2.size
        obtain ⟨la, la1, la2⟩ : ∃ la : Nat → Nat, la p.1 = u.heap.size ∧ ∀ k, k ≠ p.1 → la k = lo k := ⟨fun k => if k = p.1 then u.heap.size else lo k, if_pos rfl, fun k hk => if_neg hk⟩
        obtain ⟨ha, ha1, ha2⟩ : ∃ ha : Nat → Nat, ha p.1 = w'.heap.size ∧ ∀ k, k ≠ p.1 → ha k = hi' k := ⟨fun k => if k = p.1 then w'.heap.size else hi' k, if_pos rfl, fun k hk => if_neg hk⟩
        refine ⟨v, rfl, (h2.trans x).calm O, step listed p.1 hr hc, .inl ⟨fun j hj => ?_, h2.trans x, la, ha, fun q hq hl oj d hoj hd => ?_, fun q hq hl => ?_, fun q hq r hr2 hl hl' hne => ?_⟩⟩
        · rw [getD_set_ne false (fun e => hiL (by rw [e]; exact hj))]
          exact h1 j hj
        · by_cases hqp : p.1 = q.1
          · have hpq : q = p := hinj q hq p hpG hqp.symm
            subst hpq
            have : oj = o := Option.some.inj (hoj.symm.trans hi)
            subst this
            have hb : bs.contains d = true := by
              have := (hsp q.1 oj hoj).own d hd
              rw [hmi] at this
              exact this.symm
            rw [hd, slot_put_eq (by rw [hsz, ← hF]; exact hbs d hb), la1, ha1]
            exact hRv
          · rw [getD_set_ne false hqp] at hl
            rw [slot_put_ne ((hsp q.1 oj hoj).one p.1 o d hi hqp hd), la2 _ (fun e => hqp e.symm), ha2 _ (fun e => hqp e.symm)]
            exact hR q hq _ _ _ _ _ (h3 q hq hl oj d hoj hd) x
        · by_cases hqp : p.1 = q.1
          · rw [← hqp, la1, ha1]
            exact ⟨hz0, hz, Nat.le_refl _⟩
          · rw [getD_set_ne false hqp] at hl
            rw [la2 _ (fun e => hqp e.symm), ha2 _ (fun e => hqp e.symm)]
            have := h4 q hq hl
            exact ⟨this.1, this.2.1, Nat.le_trans this.2.2 hz⟩
        · by_cases hqp : p.1 = q.1
          · have hrp : p.1 ≠ r.1 := fun e => hne (hqp.symm.trans e)
            rw [getD_set_ne false hrp] at hl'
            rw [← hqp, la1, ha1, la2 _ (fun e => hrp e.symm), ha2 _ (fun e => hrp e.symm)]
            exact .inr (h4 r hr2 hl').2.2
          · rw [getD_set_ne false hqp] at hl
            rw [la2 _ (fun e => hqp e.symm), ha2 _ (fun e => hqp e.symm)]
            by_cases hrp : p.1 = r.1
            · rw [← hrp, la1, ha1]
              exact .inl (h4 q hq hl).2.2
            · rw [getD_set_ne false hrp] at hl'
              rw [la2 _ (fun e => hrp e.symm), ha2 _ (fun e => hrp e.symm)]
              exact h5 q hq r hr2 hl hl' hne
      · exfalso
        obtain ⟨j, hj⟩ := List.exists_mem_of_ne_nil dn h2
        have hjL : j ∈ L := h1 ▸ List.mem_append_left _ hj
        have := late listed hc j hjL (h3 j hj) p.1 hil hiL
        rw [hunf] at this
        cases this
  · intro c u hw hdf hsz hsl hJ
    obtain ⟨hc, hp⟩ := hJ
    have hA : ∀ A : Act, A.defers = F.defers → A.tmps.size = F.tmps.size → (∀ d, slot A d = if bs.contains d then slot c d else slot F d) → A = c := fun A h1 h2 h3 => act_ext (h1.trans hdf.symm) (h2.trans hsz.symm) fun d hd => by
      rw [h3]
      cases hb : bs.contains d with
      | true => rfl
      | false => exact (hsl d hb).symm
    have ht : ∀ j, j < l.length → (Array.replicate l.length true).getD j false = true := fun j hj => by simp [hj]
    rcases hp with ⟨h1, h2, lo, hi', h3, h4, h5⟩ | ⟨dn, rem, A, h1, h2, h3, h4, h5, h6, h7, h8⟩
    · have hL : L = [] := by
        cases L with
        | nil => rfl
        | cons j r =>
          exfalso
          have := h1 j (by simp)
          rw [ht j (kL j (by simp)).2] at this
          cases this
      subst hL
      have := T c u lo hi' h2 (fun p hp oj d hoj hd => h3 p hp (ht _ (kGl p hp)) oj d hoj hd) (fun p hp => h4 p hp (ht _ (kGl p hp))) (fun p hp q hq => h5 p hp q hq (ht _ (kGl p hp)) (ht _ (kGl q hq)))
      rw [hA _ (size_puts c bs F).2 (size_puts c bs F).1 (hputs c)] at this
      exact this u (Ext.refl u) hw
    · have hrem : rem = [] := by
        cases rem with
        | nil => rfl
        | cons i r =>
          exfalso
          have := h4 i (by simp)
          rw [ht i (kL i (by rw [← h1]; simp)).2] at this
          cases this
      subst hrem
      rw [hA A h6 h7 h8] at h5
      exact h5 u (Ext.refl u) hw
end
end Go.Proofs.YtbbfmlehddfneaaGreat

