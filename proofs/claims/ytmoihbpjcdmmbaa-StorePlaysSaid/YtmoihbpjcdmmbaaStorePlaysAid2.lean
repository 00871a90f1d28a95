/-
  DERIVED. What the law StorePlays keeps from round to round: all of it.
-/
import Derived.Test.YtmoihbpjcdmmbaaStorePlaysAid
namespace Go.Proofs.Ytmoihbpjcdmmbaa
open Go.RowKit Go.Maps
set_option linter.unusedVariables false

structure PlayAt (w wr : World) (F R : List Nat) (bd bp bm bb : Nat) (sf sl : Value) (full fail : List Int) (bf : Int → Option Value) (rm : Nat) (fL : Int → Option Value) (st : DSt) (i : Nat) : Prop where
  dev : Dev wr F R bd st
  map : MapAt wr F bm fL st
  plan : PlanAt wr bp sf sl bb full fail bf
  off : PlanOff F bp sf sl bb
  offm : PlanOff [bm] bp sf sl bb
  bmF : bm ∉ F ∧ bm ∉ R
  low : w.heap.size ≤ bm ∧ ∀ x ∈ F, w.heap.size ≤ x
  ext : Ext w wr
  same : st.full = full ∧ st.fail = fail ∧ st.bends = bf ∧ st.room = rm
  top : ∀ x, st.bl x ≠ none → x ≤ (st.last : Int)
  le : st.s ≤ st.most
  cnt : st.puts ≤ i ∧ st.takes ≤ i ∧ st.last ≤ i

theorem PlanOff.step {F F' : List Nat} {w : World} {bp : Nat} {sf sl : Value} {bb : Nat} {full fail : List Int} {bf : Int → Option Value} (h : PlanOff F bp sf sl bb) (hp : PlanAt w bp sf sl bb full fail bf) (hF : ∀ k ∈ F', k ∈ F ∨ w.heap.size ≤ k) : PlanOff F' bp sf sl bb := by
  obtain ⟨l1, l2, l3, l4⟩ := hp.lt
  refine ⟨fun hk => ?_, fun hk => ?_, fun k hk hin => ?_, fun k hk hin => ?_⟩
  · rcases hF _ hk with h1 | h1
    · exact h.1 h1
    · omega
  · rcases hF _ hk with h1 | h1
    · exact h.2.1 h1
    · omega
  · rcases hF _ hin with h1 | h1
    · exact h.2.2.1 k hk h1
    · have := l3 k hk; omega
  · rcases hF _ hin with h1 | h1
    · exact h.2.2.2 k hk h1
    · have := l4 k hk; omega

section
variable {w wr : World} {F R : List Nat} {bd bp bm bb : Nat} {sf sl : Value} {full fail : List Int} {bf : Int → Option Value} {rm : Nat} {fL : Int → Option Value} {st : DSt} {i : Nat}

theorem PlayAt.grow (h : PlayAt w wr F R bd bp bm bb sf sl full fail bf rm fL st i) {w' : World} (hx : Ext wr w') : PlayAt w w' F R bd bp bm bb sf sl full fail bf rm fL st i :=
  ⟨h.dev.ext hx, h.map.calm (hx.calm []) (by simp) (by simp) (fun k hk => .inl hk) rfl rfl, h.plan.calm (hx.calm []) ⟨by simp, by simp, fun _ _ => by simp, fun _ _ => by simp⟩, h.off, h.offm, h.bmF, h.low, h.ext.trans hx, h.same, h.top, h.le, h.cnt⟩
theorem PlayAt.two (h : PlayAt w wr F R bd bp bm bb sf sl full fail bf rm fL st i) {F' : List Nat} {w1 w2 : World} {st' : DSt} {fL' : Int → Option Value} {i' : Nat} (hs : Step F F' wr w1) (hd : Dev w1 F' R bd st') (hb : Calm [bm] w1 w2) (hm : MapAt w2 F' bm fL' st')
    (hsame : st'.full = st.full ∧ st'.fail = st.fail ∧ st'.bends = st.bends ∧ st'.room = st.room) (htop : ∀ x, st'.bl x ≠ none → x ≤ (st'.last : Int)) (hle : st'.s ≤ st'.most) (hcnt : st'.puts ≤ i' ∧ st'.takes ≤ i' ∧ st'.last ≤ i') :
    PlayAt w w2 F' R bd bp bm bb sf sl full fail bf rm fL' st' i' := by
  have hbl : bm < wr.heap.size := h.map.map.lt
  have hbF : bm ∉ F' := fun hk => by
    rcases hs.2 _ hk with h1 | h1
    · exact h.bmF.1 h1
    · omega
  have e1 := Step.ext h.ext hs h.low.2
  refine ⟨hd.calm hb (fun k hk _ => ?_), hm, (h.plan.calm hs.1 h.off).calm hb h.offm, h.off.step h.plan hs.2, h.offm, ⟨hbF, h.bmF.2⟩, ⟨h.low.1, hs.above h.low.2 h.ext.size⟩, Ext.calm_trans e1 hb (by simpa using h.low.1), ?_, htop, hle, hcnt⟩
  · obtain rfl : k = bm := by simpa using hk
    exact ⟨hbF, h.bmF.2⟩
  · obtain ⟨a1, a2, a3, a4⟩ := hsame
    obtain ⟨b1, b2, b3, b4⟩ := h.same
    exact ⟨a1.trans b1, a2.trans b2, a3.trans b3, a4.trans b4⟩
/-- a put that found no room -/
theorem PlayAt.full' (h : PlayAt w wr F R bd bp bm bb sf sl full fail bf rm fL st i) {w1 : World} (hd : Dev w1 F R bd { st with puts := st.puts + 1 }) (hc : Calm F wr w1) : PlayAt w w1 F R bd bp bm bb sf sl full fail bf rm fL { st with puts := st.puts + 1 } (i + 1) :=
  h.two ⟨hc, fun _ hk => .inl hk⟩ hd (Calm.refl _ _) (h.map.calm hc h.bmF.1 (fun k hk => .inl hk) (fun k hk => .inl hk) rfl rfl) ⟨rfl, rfl, rfl, rfl⟩ h.top h.le ⟨Nat.succ_le_succ h.cnt.1, Nat.le_succ_of_le h.cnt.2.1, Nat.le_succ_of_le h.cnt.2.2⟩
/-- no call that changed anything -/
theorem PlayAt.idle (h : PlayAt w wr F R bd bp bm bb sf sl full fail bf rm fL st i) : PlayAt w wr F R bd bp bm bb sf sl full fail bf rm fL st (i + 1) :=
  { h with cnt := ⟨Nat.le_succ_of_le h.cnt.1, Nat.le_succ_of_le h.cnt.2.1, Nat.le_succ_of_le h.cnt.2.2⟩ }
theorem PlayAt.nextFree (h : PlayAt w wr F R bd bp bm bb sf sl full fail bf rm fL st i) : st.bl ((st.last + 1 : Nat) : Int) = none := by
  cases hb : st.bl ((st.last + 1 : Nat) : Int) with
  | none => rfl
  | some l =>
    have := h.top ((st.last + 1 : Nat) : Int) (by rw [hb]; simp)
    omega
theorem MapAt.free {F : List Nat} {fL : Int → Option Value} (h : MapAt wr F bm fL st) {x : Int} (hx : (Lit.int .i64 x).wf = true) (hb : st.bl x = none) : fL x = none := by
  cases hf : fL x with
  | none => rfl
  | some v =>
    obtain ⟨l, h1, _⟩ := h.rows x v hx hf
    rw [hb] at h1
    cases h1
theorem MapAt.held {F : List Nat} {fL : Int → Option Value} (h : MapAt wr F bm fL st) {x : Int} (hx : (Lit.int .i64 x).wf = true) {l : List Int} (hb : st.bl x = some l) : ∃ v, fL x = some v ∧ Own wr 0 v l ∧ l.length = 64 ∧ (∀ y ∈ l, 0 ≤ y ∧ y ≤ 255) ∧ ∀ k, v.ownBlock = some k → k ∉ F ∧ k ≠ bm := by
  cases hf : fL x with
  | none => rw [h.non x hx hf] at hb; cases hb
  | some v =>
    obtain ⟨l', h1, h2, h3, h4, h5⟩ := h.rows x v hx hf
    rw [hb] at h1
    cases h1
    exact ⟨v, rfl, h4, h2, h3, h5⟩
/-- a put that was taken, and the law's own store -/
theorem PlayAt.put (h : PlayAt w wr F R bd bp bm bb sf sl full fail bf rm fL st i) (hi : i ≤ 1000) {w1 w2 : World} {g : Nat} {l : List Int} (hl : l.length = 64) (hlb : ∀ y ∈ l, 0 ≤ y ∧ y ≤ 255) (hd : Dev w1 (g :: F) R bd (st.with_ l)) (hs : Step F (g :: F) wr w1) {v : Value} (ho : Own w1 0 v l) (hv : ∀ k, v.ownBlock = some k → k ∉ (g :: F) ∧ k ≠ bm)
    (hc : Calm [bm] w1 w2) (hM : Mp anyV w2 bm (fun y => if y = (st.last : Int) + 1 then some v else fL y) (if (fL ((st.last : Int) + 1)).isSome then st.s else st.s + 1)) :
    PlayAt w w2 (g :: F) R bd bp bm bb sf sl full fail bf rm (fun y => if y = (st.last : Int) + 1 then some v else fL y) (st.with_ l) (i + 1) := by
  have hcn := h.cnt
  have hfree : fL ((st.last : Int) + 1) = none := h.map.free (wfi (by omega)) (by simpa using h.nextFree)
  have hm1 : MapAt w1 (g :: F) bm fL st := h.map.calm hs.1 h.bmF.1 (fun k hk => .inl hk) hs.2 rfl rfl
  refine h.two hs hd hc (hm1.gain hc l hl hlb v ho hv hfree hM) ⟨rfl, rfl, rfl, rfl⟩ (fun x hx => ?_) (by show st.s + 1 ≤ max st.most (st.s + 1); omega) ⟨Nat.succ_le_succ h.cnt.1, Nat.le_succ_of_le h.cnt.2.1, Nat.succ_le_succ h.cnt.2.2⟩
  show x ≤ ((st.last + 1 : Nat) : Int)
  by_cases e : x = ((st.last + 1 : Nat) : Int)
  · omega
  · have hx' : st.bl x ≠ none := by
      simp only [DSt.with_, if_neg e] at hx
      exact hx
    have := h.top x hx'
    omega
/-- a block that has gone, and the law's own delete -/
theorem PlayAt.gone (h : PlayAt w wr F R bd bp bm bb sf sl full fail bf rm fL st i) {w1 w2 : World} {n : Int} {t : Nat} (ht : t ≤ i + 1) (hd : Dev w1 F R bd { st.without n with takes := t }) (hc1 : Calm F wr w1) {v : Value} (hv : fL n = some v)
    (hc : Calm [bm] w1 w2) (hM : Mp anyV w2 bm (fun y => if y = n then none else fL y) (if (fL n).isSome then st.s - 1 else st.s)) :
    PlayAt w w2 F R bd bp bm bb sf sl full fail bf rm (fun y => if y = n then none else fL y) { st.without n with takes := t } (i + 1) := by
  have hm1 : MapAt w1 F bm fL st := h.map.calm hc1 h.bmF.1 (fun k hk => .inl hk) (fun k hk => .inl hk) rfl rfl
  refine h.two ⟨hc1, fun _ hk => .inl hk⟩ hd hc (hm1.lose hc hM hv t) ⟨rfl, rfl, rfl, rfl⟩ (fun x hx => ?_) (Nat.le_trans (Nat.sub_le _ _) h.le) ⟨Nat.le_succ_of_le h.cnt.1, ht, Nat.le_succ_of_le h.cnt.2.2⟩
  apply h.top x
  by_cases e : x = n
  · simp [DSt.without, e] at hx
  · simp only [DSt.without, if_neg e] at hx
    exact hx
/-- a delete of what is not there -/
theorem PlayAt.noop (h : PlayAt w wr F R bd bp bm bb sf sl full fail bf rm fL st i) {w2 : World} {n : Int} (hv : fL n = none)
    (hc : Calm [bm] wr w2) (hM : Mp anyV w2 bm (fun y => if y = n then none else fL y) (if (fL n).isSome then st.s - 1 else st.s)) :
    PlayAt w w2 F R bd bp bm bb sf sl full fail bf rm (fun y => if y = n then none else fL y) st (i + 1) := by
  have e : (fun y => if y = n then none else fL y) = fL := by
    funext y
    by_cases e : y = n
    · rw [if_pos e, e, hv]
    · rw [if_neg e]
  rw [e] at hM ⊢
  rw [hv] at hM
  refine h.two (Step.refl _ _) h.dev hc ⟨hM, h.map.non, fun x u hx hu => ?_⟩ ⟨rfl, rfl, rfl, rfl⟩ h.top h.le ⟨Nat.le_succ_of_le h.cnt.1, Nat.le_succ_of_le h.cnt.2.1, Nat.le_succ_of_le h.cnt.2.2⟩
  obtain ⟨l, h1, h2, h3, h4, h5⟩ := h.map.rows x u hx hu
  exact ⟨l, h1, h2, h3, h4.calm hc (fun k hk hin => (h5 k hk).2 (by simpa using hin)), h5⟩
end
end Go.Proofs.Ytmoihbpjcdmmbaa
