/-
  DERIVED. Loads and stores of whole variables of many cells, over a block that is known: one step, whatever the number of cells.
-/
import Derived.Test.YtjohcngmoemmbaaBlk
import Derived.Test.YtjohcngmoemmbaaCalmVars
import Derived.Deep.MidRow
namespace Go.Proofs.Ytjohcngmoemmbaa
open Go.RowKit
set_option linter.unusedVariables false

theorem Blk.range {w : World} {b : Nat} {z : Array Value} {T : TypeId} (h : Blk w b z T) : w.rangeAt b 0 z.toList := fun j v hv => by
  rw [Nat.zero_add, h.cell j]
  simpa using hv
theorem Blk.setRow {w : World} {b : Nat} {z : Array Value} {T : TypeId} (h : Blk w b z T) (cs : Array Value) : Blk (w.setRow b cs) b cs T := heap_setRow_eq cs h
theorem Blk.farRow {w : World} {b : Nat} {z : Array Value} {T : TypeId} (h : Blk w b z T) {g : Nat} (hg : b ≠ g) (cs : Array Value) : Blk (w.setRow g cs) b z T := (heap_setRow_ne w g b cs hg).trans h
theorem Ext.setRow {a w : World} (h : Ext a w) {g : Nat} (hg : a.heap.size ≤ g) (cs : Array Value) : Ext a (w.setRow g cs) :=
  ⟨⟨h.bel.os, h.bel.tape, h.bel.output, by rw [size_setRow]; exact h.size, fun k hk => (heap_setRow_ne _ _ _ _ (by omega)).trans (h.bel.block k hk)⟩⟩

theorem Blk.calm {O : List Nat} {w w' : World} {b : Nat} {z : Array Value} {T : TypeId} (h : Blk w b z T) (hw : Calm O w w') (hO : b ∉ O) : Blk w' b z T := (hw.block b h.lt hO).trans h
/-- a callee that makes memory, in a calm region -/
theorem calm_of {P : Program} {f : FuncId} {args : Array Value} {x : World} {y : Wx x} {v : Value} (h : Calls P f args y.val fun e w' => e = .returned v ∧ Ext y.val w') : Calls P f args y.val fun e w'' => e = .returned v ∧ ∃ z : Wx x, w'' = z.val :=
  h.mono fun _ w' ⟨he, hw⟩ => ⟨he, ⟨w', y.ext.trans hw⟩, rfl⟩
/-- .. that leaves the world alone -/
theorem calm_eq {P : Program} {f : FuncId} {args : Array Value} {x : World} {y : Wx x} {v : Value} (h : Calls P f args y.val fun e w' => e = .returned v ∧ y.val = w') : Calls P f args y.val fun e w'' => e = .returned v ∧ ∃ z : Wx x, w'' = z.val :=
  h.mono fun _ w' ⟨he, hw⟩ => ⟨he, y, hw.symm⟩
/-- .. that only draws -/
theorem calm_qt {P : Program} {f : FuncId} {args : Array Value} {x : World} {y : Wx x} {v : Value} (h : Calls P f args y.val fun e w' => e = .returned v ∧ Qt y.val w') : Calls P f args y.val fun e w'' => e = .returned v ∧ ∃ z : Wx x, w'' = z.val :=
  h.mono fun _ w' ⟨he, hw⟩ => ⟨he, ⟨w', y.ext.qt hw⟩, rfl⟩

section
variable {P : Program} {ops : Array Oper} {rest : List Oper} {op : Oper} {a : Act} {w : World}

theorem wpList_load_blk {Q : Exit → Act → World → Prop} (hgd : op.guard = none) (ty : TypeId) (x : Operand) (ho : op.op = .load ty x) (b : Nat) (hx : a.eval x = .pointer (some ⟨b, 0, none⟩)) {z : Array Value} {T : TypeId} (hB : Blk w b z T)
    {d : TypeDesc} (hu : P.underlying ty = some d) (hd : d.isRow = true) (hi : (P.info? ty).map (·.size) = some z.size) (h : wpList P ops Q rest (a.put op.dst (.agg z)) w) : wpList P ops Q (op :: rest) a w :=
  wpList_load_mid hgd ty x ho b 0 hx z.toList d hB.range hu hd (by simpa using hi) (by simpa using h)

theorem run_store_blk {ρ : Operand → Value} {T0 T : TypeId} {p x : Operand} {b : Nat} {cs z : Array Value} (ho : op.op = .store T0 p x) (hp : ρ p = .pointer (some ⟨b, 0, none⟩)) (hx : ρ x = .agg cs)
    (hi : (P.info? T0).map (·.size) = some cs.size) (h1 : cs.all (·.oneCell') = true) (hz : z.size = cs.size) (hB : Blk w b z T) : (execOp ρ op).run P w = .ok .skip (w.setRow b cs) := by
  have h := run_store_row (P := P) (off := 0) ho hp hx (by simpa [Value.cells] using hi) (by simpa [Value.cells] using h1) (by simp [Value.cells, hz]) hB
  rw [h]
  congr 2
  apply Array.toList_inj.1
  simp [Value.cells, ← hz]

theorem wpList_store_blk {Q : Exit → Act → World → Prop} (hgd : op.guard = none) (ty : TypeId) (x y : Operand) (ho : op.op = .store ty x y) (b : Nat) (hx : a.eval x = .pointer (some ⟨b, 0, none⟩)) {cs : Array Value} (hy : a.eval y = .agg cs) {z : Array Value} {T : TypeId} (hB : Blk w b z T)
    (hi : (P.info? ty).map (·.size) = some cs.size) (h1 : cs.all (·.oneCell') = true) (hz : z.size = cs.size) (h : wpList P ops Q rest (a.put op.dst undef) (w.setRow b cs)) : wpList P ops Q (op :: rest) a w :=
  wpList_plain hgd fun K hK => by
    unfold Oper.wp
    rw [run_store_blk ho hx hy hi h1 hz hB]
    exact hK _ _ h

/-- a result that lies in a block that is known -/
theorem results_blk {fn : Func} {t : Tmp} {ty : TypeId} (h : fn.results = #[.cell t ty]) {tmps : Array Value} {b : Nat} (ht : tmps.getD t undef = .pointer (some ⟨b, 0, none⟩)) {z : Array Value} {T : TypeId} (hB : Blk w b z T)
    {d : TypeDesc} (hu : P.underlying ty = some d) (hd : d.isRow = true) (hi : (P.info? ty).map (·.size) = some z.size) : (results fn tmps).run P w = .ok (.agg z) w := by
  have hl := run_loadVar_mid (P := P) w b 0 ty z.toList d hB.range hu hd (by simpa using hi)
  have ht' : tmps[t]?.getD undef = .pointer (some ⟨b, 0, none⟩) := by simpa using ht
  simp [results, h, ht', asAddr, hl]

/-- a load in a calm region -/
theorem quiet_load_blk {C : World → Prop} {K : Act → Prop} (ty : TypeId) (x : Operand) (ho : op.op = .load ty x) (b : Nat) (hx : a.eval x = .pointer (some ⟨b, 0, none⟩)) {z : Array Value} {T : TypeId} (hB : ∀ u, C u → Blk u b z T)
    {d : TypeDesc} (hu : P.underlying ty = some d) (hd : d.isRow = true) (hi : (P.info? ty).map (·.size) = some z.size) (h : K (a.put op.dst (.agg z))) : op.quiet P a C K := by
  refine ⟨.agg z, fun u hu' => ?_, h⟩
  have hl := run_loadVar_mid (P := P) u b 0 ty z.toList d (hB u hu').range hu hd (by simpa using hi)
  unfold Oper.quietAt execOp
  simp only [ho, hx, Instr.loadAt, Instr.sureAddr, Sem.run_bind, Sem.run_pure, Result.andThen_ok, hl]
  exact ⟨rfl, by simp⟩

/-- a region without marked operations, by the other check -/
theorem wp_region_reads2 {id : Nat} {l : List Oper} {Q : Exit → Act → World → Prop} (F : Act) (hm : P.follows .mixedOrders = true) (hB : calmB l [] [] = true)
    (H : ∀ x, Ext w x → wpQuiet P l.toArray (fun w' => ∃ y : Wx x, w' = y.val) (fun a' => a' = F) l a) (hfin : ∀ w', Ext w w' → Q .normal F w') : (Code.region id l.toArray true).wp P Q a w := by
  refine wp_region_calm [] [] [] F (fun _ _ _ => True) hm hB (fun x hx => H x hx.ext) trivial (fun _ _ _ _ _ _ _ _ _ _ _ _ => trivial) (fun _ _ _ i _ _ h => (by simp at h)) (fun c w' hw hd hs hsl _ => ?_)
  have e : c = F := act_ext hd hs fun d _ => hsl d rfl
  rw [e]
  exact hfin w' hw.ext

/-- a variable that the region makes and stores into, whole -/
theorem tgt_fresh {l : List Oper} {bs : List Tmp} {O : List Nat} {F : Act} {i j : Nat} {s x : Tmp} {T Ts : TypeId} {z z' : Array Value} {oa os : Oper} (hs : s < a.tmps.size) (ha : l[i]? = some oa) (hoa : oa.op = .alloc T)
    (hmk : ∀ u, (Instr.alloc T true (.tuple #[])).run P u = .ok (.pointer (some ⟨u.heap.size, 0, none⟩)) (u.alloc (.cells z T))) (hj : l[j]? = some os) (hos : os.op = .store Ts (.tmp s) (.tmp x)) (hxb : bs.contains x = false) (hx : slot F x = .agg z')
    (hi : (P.info? Ts).map (·.size) = some z'.size) (h1 : z'.all (·.oneCell') = true) (hz : z.size = z'.size) : TgtOk P l bs O w a F ⟨some i, s, 0, some j, T, z, z'⟩ := by
  refine ⟨fun k hk => ?_, fun h => (by cases h), fun k hk => ?_⟩
  · cases hk
    refine ⟨hs, oa, ha, fun c u => ?_⟩
    unfold execOp
    simp only [hoa, Sem.run_bind, hmk u, Result.andThen_ok, Sem.run_pure]
  · cases hk
    refine ⟨os, hj, fun c u bk hs' _ hl hg => ?_⟩
    refine run_store_blk hos (hs' rfl) ?_ hi h1 hz hg
    have hm : x ∈ os.looksAt l.toArray := List.mem_append_left _ (List.mem_filterMap.2 ⟨.tmp x, by simp [hos, Op.operands], rfl⟩)
    exact (hl x hm hxb).trans hx
end

end Go.Proofs.Ytjohcngmoemmbaa
