/-
  DERIVED. slices.Clone of bytes: what comes back is the call's own.
-/
import Derived.Test.YtkdonkebnnjkkaaBytesArr
import Derived.Test.YtkdonkebnnjkkaaSteps
namespace Go.Proofs.Ytkdonkebnnjkkaa
open Go.RowKit
set_option linter.unusedVariables false

theorem bdu8 {y : Int} (h : (Lit.int .u8 y).wf = true) : 0 ≤ y ∧ y ≤ 255 := bounds_u8 h
theorem wfu8 {y : Int} (h : 0 ≤ y ∧ y ≤ 255) : (Lit.int .u8 y).wf = true := by
  have e1 : IntKind.u8.min = 0 := rfl
  have e2 : IntKind.u8.max = 255 := rfl
  simp [Lit.wf, e1, e2]
  omega

/-- a slice of the call's own can be read -/
theorem Own.arr {w : World} {base : Nat} {v : Value} {l : List Int} (h : Own w base v l) (hb : ∀ y ∈ l, 0 ≤ y ∧ y ≤ 255) : Arr w .u8 v l := by
  have hc := h
  rcases h.2 with ⟨rfl, h0⟩ | ⟨g, cap, cur, rfl, a1, a2, a3, a4, a5, a6⟩
  · have h0' : l = [] := List.eq_nil_of_length_eq_zero h0
    subst h0'
    exact ⟨⟨none, 0, rfl, Nat.le_refl _, fun h => absurd rfl h, fun _ => rfl⟩, Nat.zero_le _, fun n hn => by cases hn⟩
  · refine ⟨⟨_, cap, rfl, a3, fun _ => ⟨g, 0, rfl, fun j hj => ?_⟩, fun h => by cases h⟩, Nat.le_trans a3 a4, fun n hn => wfu8 (hb n hn)⟩
    rw [Nat.zero_add, hc.cell j (l.getD j 0) (by simp [hj])]
theorem Arr.bd {w : World} {v : Value} {l : List Int} (h : Arr w .u8 v l) : ∀ y ∈ l, 0 ≤ y ∧ y ≤ 255 := fun y hy => bdu8 (h.wf y hy)

set_option maxRecDepth 100000 in
theorem clone_any (w : World) (v : Value) (l : List Int) (h : Arr w .u8 v l) (hlen : l.length ≤ 1000000) :
    Calls Try.prog 24 #[v] w fun e w' => ∃ v', e = .returned v' ∧ Own w' w.heap.size v' l ∧ Ext w w' := by
  have h' := h
  obtain ⟨⟨ao, c, rfl, h1, h2, h3⟩, _, _⟩ := h
  have q : ∀ (w : World) (a : Option Addr) (n c n' c' : Nat), (binOp .eql 28 (.slice a n c) (.slice none n' c')).run Try.prog w = .ok (.bool a.isNone) w := fun w a n c n' c' => Lib.run_eql_slice_nil w _ _ a n c n' c' Try.underlying28
  cases ao with
  | none =>
    have hm : l = [] := by
      rcases l with _ | ⟨y, r⟩
      · rfl
      · obtain ⟨b, off, e, _⟩ := h2 (by simp)
        cases e
    subst hm
    go_enter Try.func24, Try.ntmps24
    go_wp2
    go_ret
    exact ⟨_, rfl, Own.nil _ _, Ext.refl _⟩
  | some ad =>
    have hA : Arr (w.alloc (.cells #[] 5)) .u8 (.slice (some ad) l.length c) l := h'.ext ((Ext.refl w).alloc _ _)
    clear h'
    go_enter Try.func24, Try.ntmps24
    go_wp2_with (at_builtin; refine wpList_append_arr rfl _ _ rfl w.heap.size _ [] rfl (World.ownsRow_made w #[] 0 (Nat.le_refl _) (Nat.zero_le _) rfl) _ l rfl hA (by simpa using hlen) (by simp) ?_)
    intro v' w' ho hc hk
    have hx' : Ext w w' := Ext.calm_trans ((Ext.refl w).alloc _ _) hc (fun g hg => by
      have := Option.mem_toList.1 hg
      simp [Value.ownBlock] at this
      omega)
    go_wp2
    go_ret
    exact ⟨v', rfl, by simpa using ho, hx'⟩
end Go.Proofs.Ytkdonkebnnjkkaa
