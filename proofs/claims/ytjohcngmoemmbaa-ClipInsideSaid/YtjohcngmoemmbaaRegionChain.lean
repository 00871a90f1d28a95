/-
  DERIVED. A region that draws its order and calls what makes memory, whose result another call takes: steps by an invariant.
-/
import Derived.Test.YtjohcngmoemmbaaCalmMine
namespace Go.Proofs.Ytjohcngmoemmbaa
open Go.RowKit
set_option linter.unusedVariables false
/-- what has come up, one more -/
def upd (L : Nat → Bool) (k : Nat) : Nat → Bool := fun j => decide (k = j) || L j
theorem upd_eq {listed : Array Bool} {k : Nat} (hk : k < listed.size) : (fun j => (listed.setIfInBounds k true).getD j false) = upd (fun j => listed.getD j false) k := by
  funext j
  unfold upd
  by_cases h : k = j
  · subst h
    simp [hk]
  · simp [h, Array.getD_eq_getD_getElem?, Array.getElem?_setIfInBounds_ne h]
theorem wp_enter {P : Program} {o : Oper} {c : Act} {u : World} {K : Act → World → Prop} {Q : Exit → Act → World → Prop} {f : FuncId} {args : Array Value} {R : Ending → World → Prop}
    (ho : (execOp c.eval o).run P u = .ok (.enter f args) u) (h : Calls P f args u R) (hR : ∀ e w', R e w' → ∃ v, e = .returned v ∧ K (c.put o.dst v) w') : o.wp P c u K Q := by
  unfold Oper.wp
  rw [ho, Oper.upon_enter]
  refine h.mono fun e w' he => ?_
  obtain ⟨v, rfl, hk⟩ := hR e w' he
  exact hk
theorem wp_value {P : Program} {o : Oper} {c : Act} {u u' : World} {K : Act → World → Prop} {Q : Exit → Act → World → Prop} {v : Value}
    (ho : (execOp c.eval o).run P u = .ok (.value v) u') (h : K (c.put o.dst v) u') : o.wp P c u K Q := by
  unfold Oper.wp
  rw [ho, Oper.upon_value]
  exact h
theorem wp_skip {P : Program} {o : Oper} {c : Act} {u u' : World} {K : Act → World → Prop} {Q : Exit → Act → World → Prop}
    (ho : (execOp c.eval o).run P u = .ok .skip u') (h : K (c.put o.dst undef) u') : o.wp P c u K Q := by
  unfold Oper.wp
  rw [ho, Oper.upon_skip]
  exact h
theorem eval_slot (c : Act) (k : Tmp) : c.eval (.tmp k) = slot c k := by simp [Act.eval, slot]
theorem slot_puts (c : Act) : ∀ (bs : List Tmp) (F : Act) (d : Tmp), slot (bs.foldl (fun a d => a.put (some d) (slot c d)) F) d = if d ∈ bs ∧ d < F.tmps.size then slot c d else slot F d
  | [], F, d => by simp
  | b :: bs, F, d => by
    rw [List.foldl_cons, slot_puts c bs (F.put (some b) (slot c b)) d, size_put]
    by_cases h1 : d ∈ bs ∧ d < F.tmps.size
    · rw [if_pos h1, if_pos ⟨List.mem_cons_of_mem _ h1.1, h1.2⟩]
    · rw [if_neg h1]
      by_cases h2 : d = b
      · subst h2
        by_cases h3 : d < F.tmps.size
        · rw [if_pos ⟨List.mem_cons_self, h3⟩, slot_put_eq h3]
        · rw [if_neg (fun h => h3 h.2), slot_out (by rw [size_put]; exact Nat.le_of_not_lt h3), slot_out (Nat.le_of_not_lt h3)]
      · rw [slot_put_ne (fun e => h2 (Option.some.inj e).symm), if_neg (fun h => ?_)]
        rcases List.mem_cons.1 h.1 with e | e
        · exact h2 e
        · exact h1 ⟨e, h.2⟩
theorem size_puts (c : Act) : ∀ (bs : List Tmp) (F : Act), (bs.foldl (fun a d => a.put (some d) (slot c d)) F).tmps.size = F.tmps.size ∧ (bs.foldl (fun a d => a.put (some d) (slot c d)) F).defers = F.defers
  | [], F => ⟨rfl, rfl⟩
  | b :: bs, F => by
    obtain ⟨h1, h2⟩ := size_puts c bs (F.put (some b) (slot c b))
    rw [List.foldl_cons, h1, h2, size_put, defers_put]
    exact ⟨rfl, rfl⟩
/-- a frame that is F but for some slots -/
theorem act_puts (bs : List Tmp) {c F : Act} (hd : c.defers = F.defers) (hs : c.tmps.size = F.tmps.size) (h : ∀ d, bs.contains d = false → slot c d = slot F d) : c = bs.foldl (fun a d => a.put (some d) (slot c d)) F := by
  obtain ⟨h1, h2⟩ := size_puts c bs F
  refine act_ext (hd.trans h2.symm) (hs.trans h1.symm) (fun d hdd => ?_)
  rw [slot_puts]
  by_cases hb : d ∈ bs
  · rw [if_pos ⟨hb, by rw [h1] at hdd; exact hdd⟩]
  · rw [if_neg (fun e => hb e.1)]
    exact h d (by simpa using hb)
end Go.Proofs.Ytjohcngmoemmbaa
