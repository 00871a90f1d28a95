/-
  DERIVED. Maps keyed by int: what they hold, as a function from numbers to values, and how many entries there are.
-/
import Derived.Test.YtcpgcealaomleaaSteps
import Derived.Maps.OwnSet
import Derived.Maps.OwnOps
import Derived.Maps.RangeWalk
import Derived.Maps.Ext
namespace Go.Proofs.Ytcpgcealaomleaa
open Go.RowKit Go.Maps
set_option linter.unusedVariables false

/-- an element is held as it is, if it has the shape g -/
def heldV (g : Value → Bool) (v : Value) : Option (DataW Value × List MemPlace) := if g v then some (.held v, []) else none
theorem heldV_mk {g : Value → Bool} {v : Value} (h : g v = true) : heldV g v = some (.held v, []) := by simp [heldV, h]
theorem heldV_inv {g : Value → Bool} {v : Value} {y : DataW Value × List MemPlace} (h : heldV g v = some y) : g v = true ∧ y = (.held v, []) := by
  unfold heldV at h
  split at h
  · rename_i hg
    cases h
    exact ⟨hg, rfl⟩
  · cases h
def anyV (_ : Value) : Bool := true

theorem int_law : Keyed Try.prog 3 := int_keyed Try.underlying3
theorem int_key {x : Int} (h : (Lit.int .i64 x).wf = true) : keyOf Try.prog 3 (.int .i64 x) = some (.int .i64 x) := keyOf_int_mk Try.underlying3 h
theorem wfi {x : Int} (h : -9223372036854775808 ≤ x ∧ x ≤ 9223372036854775807) : (Lit.int .i64 x).wf = true := WalkArith.wf_i64 (by omega)

/-- block b is a map of s entries: f says which -/
def Mp (g : Value → Bool) (w : World) (b : Nat) (f : Int → Option Value) (s : Nat) : Prop :=
  ∃ D : DataW Value, w.ownsMap Try.prog 3 (heldV g) b s D ∧ Maps.size D = s ∧
    ∀ x, (Lit.int .i64 x).wf = true → Maps.has D (.int .i64 x) = (f x).isSome ∧ ∀ v, f x = some v → ∀ z, D.atKey (.int .i64 x) z = .held v

theorem tight {g : Value → Bool} {w : World} {b n : Nat} {D : DataW Value} (h : w.ownsMap Try.prog 3 (heldV g) b n D) : w.ownsMap Try.prog 3 (heldV g) b (Maps.size D) D := by
  obtain ⟨es, clock, hb, F, hs, rfl⟩ := h
  exact ⟨es, clock, hb, F, by simp [Maps.size, length_sorted], rfl⟩

theorem Mp.lt {g : Value → Bool} {w : World} {b s : Nat} {f : Int → Option Value} (h : Mp g w b f s) : b < w.heap.size := by
  obtain ⟨D, h1, _⟩ := h
  exact h1.lt
theorem Mp.kept {g : Value → Bool} {w w' : World} {b s : Nat} {f : Int → Option Value} (h : Mp g w b f s) (hb : w'.heap[b]? = w.heap[b]?) : Mp g w' b f s := by
  obtain ⟨D, ⟨es, clock, h1, h2⟩, h3⟩ := h
  exact ⟨D, ⟨es, clock, hb.trans h1, h2⟩, h3⟩
theorem Mp.ext {g : Value → Bool} {w w' : World} {b s : Nat} {f : Int → Option Value} (h : Mp g w b f s) (hx : Ext w w') : Mp g w' b f s := h.kept (hx.block h.lt)
theorem Mp.calm {g : Value → Bool} {O : List Nat} {w w' : World} {b s : Nat} {f : Int → Option Value} (h : Mp g w b f s) (hx : Calm O w w') (hb : b ∉ O) : Mp g w' b f s := h.kept (hx.block b h.lt hb)
theorem Mp.made (g : Value → Bool) (w : World) : Mp g (w.alloc (.map #[] 0)) w.heap.size (fun _ => none) 0 :=
  ⟨.map [], World.ownsMap_made w _ _ _, rfl, fun x _ => ⟨rfl, fun v h => by cases h⟩⟩
theorem Mp.look {g : Value → Bool} {w : World} {b s : Nat} {f : Int → Option Value} (h : Mp g w b f s) (t e : TypeId) (ht : Try.prog.underlying t = some (.map 3 e)) (z : Value) (hz : (zeroValue e).run Try.prog w = .ok z w) (c : Bool) {x : Int} (hx : (Lit.int .i64 x).wf = true) :
    (Instr.lookup t (.map (some b)) (.int .i64 x) c).run Try.prog w = .ok (if c then .tuple #[(f x).getD z, .bool (f x).isSome] else (f x).getD z) w := by
  obtain ⟨D, h1, h2, h3⟩ := h
  obtain ⟨es, clock, hb, F, _, rfl⟩ := h1
  obtain ⟨h4, h5⟩ := h3 x hx
  rcases Maps.fit_look c int_law ht hz hb F (int_key hx) with ⟨hrun, _, ha⟩ | ⟨e0, y, _, _, hrun, hR, ha, _⟩
  · rw [hrun]
    rw [Maps.has_false_of_atKey ha] at h4
    cases hf : f x with
    | none => rfl
    | some v => rw [hf] at h4; cases h4
  · rw [hrun]
    rw [Maps.has_true_of_atKey ha] at h4
    cases hf : f x with
    | none => rw [hf] at h4; cases h4
    | some v =>
      have := h5 v hf .nil
      rw [ha .nil] at this
      obtain ⟨k1, rfl⟩ := heldV_inv hR
      cases this
      rfl

theorem Mp.len {g : Value → Bool} {w : World} {b s : Nat} {f : Int → Option Value} (h : Mp g w b f s) (t e : TypeId) (ht : Try.prog.underlying t = some (.map 3 e)) (ty : TypeId) :
    (Builtin.len_ #[t] ty #[.map (some b)]).run Try.prog w = .ok (.int .i64 s) w := by
  obtain ⟨D, h1, h2, h3⟩ := h
  rw [h1.len ht ty, h2]

theorem lit_ne {x y : Int} (h : y ≠ x) : (Lit.int .i64 y) ≠ Lit.int .i64 x := fun e => h (by cases e; rfl)

theorem Mp.store {g : Value → Bool} {w : World} {b s : Nat} {f : Int → Option Value} (h : Mp g w b f s) (t e : TypeId) (ht : Try.prog.underlying t = some (.map 3 e)) (hs : s < maxLen) {x : Int} (hx : (Lit.int .i64 x).wf = true) {v : Value} (hv : g v = true) :
    ∃ w', (Instr.mapUpdate t (.map (some b)) (.int .i64 x) v).run Try.prog w = .ok () w' ∧ Mp g w' b (fun y => if y = x then some v else f y) (if (f x).isSome then s else s + 1) ∧ Calm [b] w w' := by
  obtain ⟨D, h1, h2, h3⟩ := h
  obtain ⟨w', hrun, r1, r2⟩ := h1.store int_law ht hs (int_key hx) (heldV_mk hv)
  have hsz := Maps.size_put (k := Lit.int .i64 x) (h1.tidy int_law) (.held v)
  rw [(h3 x hx).1, h2] at hsz
  refine ⟨w', hrun, ⟨_, hsz ▸ tight r1, hsz, fun y hy => ?_⟩, calm_grownBy r2.grown⟩
  by_cases e : y = x
  · subst e
    simp only [if_true]
    exact ⟨Maps.has_put_same h1.isMap (int_law.key (int_key hy)) _, fun u hu z => by cases hu; exact Maps.atKey_put_same h1.isMap (int_law.key (int_key hy)) _ _⟩
  · simp only [if_neg e]
    exact ⟨(Maps.has_put_other (lit_ne e) _).trans (h3 y hy).1, fun u hu z => (Maps.atKey_put_other (lit_ne e) _ _).trans ((h3 y hy).2 u hu z)⟩

theorem Mp.drop {g : Value → Bool} {w : World} {b s : Nat} {f : Int → Option Value} (h : Mp g w b f s) (t e : TypeId) (ht : Try.prog.underlying t = some (.map 3 e)) {x : Int} (hx : (Lit.int .i64 x).wf = true) (ty : TypeId) :
    ∃ w', (Builtin.delete_ #[t, 3] ty #[.map (some b), .int .i64 x]).run Try.prog w = .ok (.tuple #[]) w' ∧ Mp g w' b (fun y => if y = x then none else f y) (if (f x).isSome then s - 1 else s) ∧ Calm [b] w w' := by
  obtain ⟨D, h1, h2, h3⟩ := h
  obtain ⟨w', hrun, r1, r2⟩ := h1.drop int_law ht (int_key hx) ty
  have hsz := Maps.size_del (k := Lit.int .i64 x) (h1.tidy int_law)
  rw [(h3 x hx).1, h2] at hsz
  have hsz' : Maps.size (D.del (Lit.int .i64 x)) = if (f x).isSome then s - 1 else s := by
    split at hsz
    · rename_i hh; rw [if_pos hh]; omega
    · rename_i hh; rw [if_neg hh]; omega
  refine ⟨w', hrun, ⟨_, hsz' ▸ tight r1, hsz', fun y hy => ?_⟩, calm_grownBy r2.grown⟩
  by_cases e : y = x
  · subst e
    simp only [if_true]
    exact ⟨Maps.has_del_same, fun u hu => by cases hu⟩
  · simp only [if_neg e]
    exact ⟨(Maps.has_del_other (lit_ne e)).trans (h3 y hy).1, fun u hu z => (Maps.atKey_del_other (lit_ne e) _).trans ((h3 y hy).2 u hu z)⟩

section
variable {w : World} {ops : Array Oper} {rest : List Oper} {o : Oper} {a : Act} {Q : Exit → Act → World → Prop}
/-- 'm[k] = v', at the operation -/
theorem wpList_store_mp (hg : o.guard = none) (m x v : Operand) (t : TypeId) (hop : o.op = Op.mapUpdate t m x v) (e : TypeId) (ht : Try.prog.underlying t = some (.map 3 e)) (g : Value → Bool) (b s : Nat) (f : Int → Option Value)
    (hm : a.eval m = .map (some b)) (h : Mp g w b f s) (hs : s < maxLen) (n : Int) (hn : (Lit.int .i64 n).wf = true) (u : Value) (hx : a.eval x = .int .i64 n) (hv : a.eval v = u) (hu : g u = true)
    (hK : ∀ w', Mp g w' b (fun y => if y = n then some u else f y) (if (f n).isSome then s else s + 1) → Calm [b] w w' → wpList Try.prog ops Q rest (a.put o.dst undef) w') :
    wpList Try.prog ops Q (o :: rest) a w := by
  refine wpList_plain hg fun K' hK' => ?_
  obtain ⟨w', hrun, r1, r2⟩ := h.store t e ht hs hn hu
  unfold Oper.wp
  simp [execOp, hop, hm, hx, hv, hrun, Result.andThen]
  exact hK' _ _ (hK w' r1 r2)
/-- 'delete(m, k)', at the operation -/
theorem wpList_drop_mp (hg : o.guard = none) (m x : Operand) (t : TypeId) (hop : o.op = Op.call { callee := Callee.builtin Builtin.delete, args := #[m, x], argTypes := #[t, 3] }) (e : TypeId) (ht : Try.prog.underlying t = some (.map 3 e)) (g : Value → Bool) (b s : Nat) (f : Int → Option Value)
    (hm : a.eval m = .map (some b)) (h : Mp g w b f s) (n : Int) (hn : (Lit.int .i64 n).wf = true) (hx : a.eval x = .int .i64 n)
    (hK : ∀ w', Mp g w' b (fun y => if y = n then none else f y) (if (f n).isSome then s - 1 else s) → Calm [b] w w' → wpList Try.prog ops Q rest (a.put o.dst (.tuple #[])) w') :
    wpList Try.prog ops Q (o :: rest) a w := by
  refine wpList_plain hg fun K' hK' => ?_
  obtain ⟨w', hrun, r1, r2⟩ := h.drop t e ht hn o.type
  unfold Oper.wp
  simp [execOp, hop, resolve, invoke, builtin, hm, hx, hrun, Result.andThen]
  exact hK' _ _ (hK w' r1 r2)
end
end Go.Proofs.Ytcpgcealaomleaa
