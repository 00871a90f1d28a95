/-
  DERIVED. Slices of int of the call's own (made by mkints.py from the bytes' texts). · Slices of int of the call's own, as slices of whatever elements. · Layer 11 (script): vertices, clears, draws, how they lie in memory; the law's own small ones. · Layer 11's rows: a small script that came in (made by mkrowscr.py). · Layer 11's law: a vertex by small numbers; is a script light?
-/
import Derived.Test.YtbbfmlehddfneaaPkWire
import Derived.Test.YtbbfmlehddfneaaPkGs
import Derived.Test.YtbbfmlehddfneaaPkTake
import Derived.Test.YtbbfmlehddfneaaPkIsa
import Derived.Test.YtbbfmlehddfneaaPkFix
import Derived.Deep.DeepCutAuto
namespace Go.Proofs.Ytbbfmlehddfneaa
open Go.RowKit
set_option linter.unusedVariables false


def intsV (l : List Int) : List Value := l.map (Value.int .i64)
theorem intsV_append (l m : List Int) : intsV (l ++ m) = intsV l ++ intsV m := List.map_append
theorem intsV_length (l : List Int) : (intsV l).length = l.length := List.length_map ..
theorem intsV_get (l : List Int) (j : Nat) (u : Value) (h : (intsV l)[j]? = some u) : ∃ y, l[j]? = some y ∧ u = .int .i64 y := by
  simp only [intsV, List.getElem?_map, Option.map_eq_some_iff] at h
  obtain ⟨y, h1, h2⟩ := h
  exact ⟨y, h1, h2.symm⟩
theorem intsV_one (l : List Int) : ∀ u ∈ intsV l, u.oneCell' = true := by
  intro u hu
  obtain ⟨y, _, rfl⟩ := List.mem_map.1 hu
  rfl

/-- v is a slice of the call's own (of a block from base on) and holds these bytes -/
def OwnI (w : World) (base : Nat) (v : Value) (l : List Int) : Prop := w.ownsRow base 3 1 v l.length (intsV l)

theorem OwnI.lt {w : World} {base : Nat} {v : Value} {l : List Int} (h : OwnI w base v l) : ∀ k, v.ownBlock = some k → base ≤ k ∧ k < w.heap.size := World.ownsRow.lt h
theorem OwnI.nil (w : World) (base : Nat) : OwnI w base (.slice none 0 0) [] := World.ownsRow_nil w base _ 1
theorem OwnI.kept {w w' : World} {base : Nat} {v : Value} {l : List Int} (h : OwnI w base v l) (hb : ∀ k, v.ownBlock = some k → w'.heap[k]? = w.heap[k]?) : OwnI w' base v l := by
  obtain ⟨h1, h2⟩ := h
  refine ⟨h1, ?_⟩
  rcases h2 with h2 | ⟨g, cap, cur, rfl, a1, a2, a3, a4, a5, a6⟩
  · exact .inl h2
  · exact .inr ⟨g, cap, cur, rfl, a1, (hb g rfl).trans a2, a3, a4, a5, a6⟩
theorem OwnI.ext {w w' : World} {base : Nat} {v : Value} {l : List Int} (h : OwnI w base v l) (hx : Ext w w') : OwnI w' base v l := h.kept fun k hk => hx.block (h.lt k hk).2
theorem OwnI.calm {O : List Nat} {w w' : World} {base : Nat} {v : Value} {l : List Int} (h : OwnI w base v l) (hx : Calm O w w') (hO : ∀ k, v.ownBlock = some k → k ∉ O) : OwnI w' base v l := h.kept fun k hk => hx.block k (h.lt k hk).2 (hO k hk)
theorem OwnI.mono {w : World} {base base' : Nat} {v : Value} {l : List Int} (h : OwnI w base v l) (hb : base' ≤ base) : OwnI w base' v l := by
  obtain ⟨h1, h2⟩ := h
  refine ⟨h1, ?_⟩
  rcases h2 with h2 | ⟨g, cap, cur, rfl, a1, a2⟩
  · exact .inl h2
  · exact .inr ⟨g, cap, cur, rfl, Nat.le_trans hb a1, a2⟩

theorem OwnI.slice {w : World} {base : Nat} {v : Value} {l : List Int} (h : OwnI w base v l) : ∃ (ao : Option Addr) (c : Nat), v = .slice ao l.length c ∧ (ao = none → l = [] ∧ c = 0) ∧ ∀ a, ao = some a → a = ⟨a.block, 0, none⟩ := by
  rcases h.2 with ⟨rfl, h0⟩ | ⟨g, cap, cur, rfl, _⟩
  · have h0' : l = [] := List.eq_nil_of_length_eq_zero h0
    subst h0'
    exact ⟨none, 0, rfl, (fun _ => ⟨rfl, rfl⟩), (fun a ha => by cases ha)⟩
  · exact ⟨_, cap, rfl, (fun h => by cases h), (fun a ha => by cases ha; rfl)⟩
theorem OwnI.cellA {w : World} {base : Nat} {l : List Int} {g c : Nat} (h : OwnI w base (.slice (some ⟨g, 0, none⟩) l.length c) l) : ∀ j y, l[j]? = some y → w.cell? ((⟨g, 0, none⟩ : Addr).add j) = some (.int .i64 y) :=
  fun j y hj => World.ownsRow.cells h (g := g) rfl j (.int .i64 y) (by simp [intsV, hj])
/-- the bytes where they lie -/
theorem OwnI.cell {w : World} {base : Nat} {l : List Int} {g c : Nat} (h : OwnI w base (.slice (some ⟨g, 0, none⟩) l.length c) l) : ∀ j y, l[j]? = some y → w.cell? ⟨g, j, none⟩ = some (.int .i64 y) := fun j y hj => by
  have := World.ownsRow.cells h (g := g) rfl j (.int .i64 y) (by simp [intsV, hj])
  rcases Nat.eq_zero_or_pos j with h0 | h0
  · subst h0; simpa [Addr.add] using this
  · simpa [Addr.add, Nat.ne_of_gt h0] using this

theorem info_i64 : (Try.prog.info? 3).map (fun i => (i.zero, i.size, i.bytes)) = some (some (.int .i64 0), 1, 8) := by kernel_rfl

/-- what appending bytes to a slice of the call's own comes to: it stays in its block, or moves to a new one -/
theorem run_append_ints {w : World} (ty : TypeId) (base : Nat) (v : Value) (l : List Int) (hown : OwnI w base v l) (ad : Addr) (c : Nat) (m : List Int) (hm : ∀ j y, m[j]? = some y → w.cell? (ad.add j) = some (.int .i64 y)) (hlen : l.length + m.length ≤ 1000000) (hbase : base ≤ w.heap.size) :
    ∃ v' w', (Builtin.append_ #[65, 65] ty #[v, .slice (some ad) m.length c]).run Try.prog w = .ok v' w' ∧ OwnI w' base v' (l ++ m) ∧ Calm v.ownBlock.toList w w' ∧ ∀ k, v'.ownBlock = some k → v.ownBlock = some k ∨ k = w.heap.size := by
  obtain ⟨i, hi, hz, h1, h2⟩ := info_parts info_i64
  have hm' : ∀ j u, (intsV m)[j]? = some u → w.cell? (ad.add j) = some u := fun j u hu => by
    obtain ⟨y, k1, rfl⟩ := intsV_get m j u hu
    exact hm j y k1
  have hl1 : (intsV m).length = m.length * i.size := by rw [intsV_length, h1, Nat.mul_one]
  obtain ⟨v', w', hr, a1, a2, a3⟩ := run_append_own (P := Try.prog) w base 65 ty 3 i (.int .i64 0) 1 8 Try.underlying65 hi hz h1 h2 rfl (by decide) v l.length (intsV l) hown ad m.length c (intsV m) (by rw [intsV_length, Nat.mul_one]) hm' (intsV_one m) (by simp only [maxLen]; omega) (by omega) hbase
  refine ⟨v', w', hr, by unfold OwnI; rw [List.length_append, intsV_append]; exact a1, calm_grownBy a2, fun k hk => ?_⟩
  rcases hown.2 with ⟨rfl, h0⟩ | ⟨g, cap, cur, rfl, b1, b2, b3, b4, b5, b6⟩
  · by_cases hm0 : m.length = 0
    · have : v' = .slice none 0 0 := a3.2 ⟨rfl, hm0⟩
      rw [this] at hk; cases hk
    · have e := run_append_nil (P := Try.prog) w 65 ty 3 i (.int .i64 0) Try.underlying65 hi hz ad m.length c (intsV m) hl1 hm' (by omega) (by omega) (by rw [h2]; omega)
      rw [hr] at e
      have e' := (Result.ok.inj e).1
      rw [e'] at hk
      exact .inr (Option.some.inj hk).symm
  · by_cases hroom : l.length + m.length ≤ cap
    · have e := run_append_room (P := Try.prog) w 65 ty 3 i Try.underlying65 hi g l.length cap cur b2 ad m.length c (intsV m) hl1 hm' (intsV_one m) hroom (by rw [h1, intsV_length, b5]; omega)
      rw [hr] at e
      have e' := (Result.ok.inj e).1
      rw [e'] at hk
      exact .inl hk
    · have e := run_append_grow (P := Try.prog) w 65 ty 3 i (.int .i64 0) Try.underlying65 hi hz ⟨g, 0, none⟩ l.length cap (intsV l) (by rw [intsV_length, h1, Nat.mul_one]) (World.ownsRow.cells hown (g := g) rfl) ad m.length c (intsV m) hl1 hm' (by omega) (by omega) (growslice_fits (by omega) (by rw [h2]; omega))
      rw [hr] at e
      have e' := (Result.ok.inj e).1
      rw [e'] at hk
      exact .inr (Option.some.inj hk).symm

/-- bytes are appended to a slice of the call's own -/
theorem wpList_append_ints {ops : Array Oper} {rest : List Oper} {o : Oper} {a : Act} {w : World} {Q : Exit → Act → World → Prop} (hgd : o.guard = none) (s x : Operand)
    (ho : o.op = .call { callee := .builtin .append, args := #[s, x], argTypes := #[65, 65] }) (base : Nat) (v : Value) (l : List Int) (hs : a.eval s = v) (hown : OwnI w base v l)
    (ad : Addr) (c : Nat) (m : List Int) (hx : a.eval x = .slice (some ad) m.length c) (hm : ∀ j y, m[j]? = some y → w.cell? (ad.add j) = some (.int .i64 y)) (hlen : l.length + m.length ≤ 1000000) (hbase : base ≤ w.heap.size)
    (h : ∀ v' w', OwnI w' base v' (l ++ m) → Calm v.ownBlock.toList w w' → (∀ k, v'.ownBlock = some k → v.ownBlock = some k ∨ k = w.heap.size) → wpList Try.prog ops Q rest (a.put o.dst v') w') : wpList Try.prog ops Q (o :: rest) a w :=
  wpList_plain hgd fun K hK => by
    obtain ⟨v', w', hr, h1, h2, h3⟩ := run_append_ints o.type base v l hown ad c m hm hlen hbase
    unfold Oper.wp execOp
    simp only [ho, resolve, invoke, builtin, Sem.run_bind, Sem.run_pure, Result.andThen_ok, List.map_toArray, List.map_cons, List.map_nil, hs, hx, hr]
    exact hK _ _ (h v' w' h1 h2 h3)
/-- one byte -/
theorem wpList_append_int {ops : Array Oper} {rest : List Oper} {o : Oper} {a : Act} {w : World} {Q : Exit → Act → World → Prop} (hgd : o.guard = none) (s x : Operand)
    (ho : o.op = .call { callee := .builtin .append, args := #[s, x], argTypes := #[65, 65] }) (base : Nat) (v : Value) (l : List Int) (hs : a.eval s = v) (hown : OwnI w base v l)
    (g c : Nat) (y : Int) (hx : a.eval x = .slice (some ⟨g, 0, none⟩) 1 c) (hy : w.cell? ⟨g, 0, none⟩ = some (.int .i64 y)) (hlen : l.length < 1000000) (hbase : base ≤ w.heap.size)
    (h : ∀ v' w', OwnI w' base v' (l ++ [y]) → Calm v.ownBlock.toList w w' → (∀ k, v'.ownBlock = some k → v.ownBlock = some k ∨ k = w.heap.size) → wpList Try.prog ops Q rest (a.put o.dst v') w') : wpList Try.prog ops Q (o :: rest) a w :=
  wpList_append_ints hgd s x ho base v l hs hown ⟨g, 0, none⟩ c [y] hx (fun j z hj => by
    match j, hj with
    | 0, hj => simp at hj; subst hj; exact hy
    | j + 1, hj => simp at hj) (by simp; omega) hbase h



theorem wpList_append_arri {ops : Array Oper} {rest : List Oper} {o : Oper} {a : Act} {w : World} {Q : Exit → Act → World → Prop} (hgd : o.guard = none) (s x : Operand)
    (ho : o.op = .call { callee := .builtin .append, args := #[s, x], argTypes := #[65, 65] }) (base : Nat) (v : Value) (l : List Int) (hs : a.eval s = v) (hown : OwnI w base v l)
    (vx : Value) (m : List Int) (hx : a.eval x = vx) (hm : Arr w .i64 vx m) (hlen : l.length + m.length ≤ 1000000) (hbase : base ≤ w.heap.size)
    (h : ∀ v' w', OwnI w' base v' (l ++ m) → Calm v.ownBlock.toList w w' → (∀ k, v'.ownBlock = some k → v.ownBlock = some k ∨ k = w.heap.size) → wpList Try.prog ops Q rest (a.put o.dst v') w') : wpList Try.prog ops Q (o :: rest) a w := by
  obtain ⟨⟨ao, c, rfl, h1, h2, h3⟩, _, _⟩ := hm
  cases ao with
  | none =>
    have hm : m = [] := by
      rcases m with _ | ⟨y, r⟩
      · rfl
      · obtain ⟨b, off, e, _⟩ := h2 (by simp)
        cases e
    subst hm
    have hc : c = 0 := h3 rfl
    subst hc
    obtain ⟨i, hi, _, _, _⟩ := info_parts info_i64
    refine wpList_append_own_none hgd s x 65 ho base 3 i 1 Try.underlying65 hi v l.length (intsV l) hs hown hx (h v w (by simpa using hown) (Calm.refl _ _) fun k hk => .inl hk)
  | some ad =>
    refine wpList_append_ints hgd s x ho base v l hs hown ad c m hx (fun j y hj => ?_) hlen hbase h
    have hjl : j < m.length := (List.getElem?_eq_some_iff.1 hj).1
    obtain ⟨b, off, e, hc⟩ := h2 (by intro hh; rw [hh] at hjl; simp at hjl)
    cases e
    rw [Go.WideShapes.add_plain, hc j hjl]
    simp [List.getD, hj]
/-- a slice of the call's own can be read -/
theorem OwnI.arr {w : World} {base : Nat} {v : Value} {l : List Int} (h : OwnI w base v l) (hb : ∀ y ∈ l, (Lit.int .i64 y).wf = true) : Arr w .i64 v l := by
  have hc := h
  rcases h.2 with ⟨rfl, h0⟩ | ⟨g, cap, cur, rfl, a1, a2, a3, a4, a5, a6⟩
  · have h0' : l = [] := List.eq_nil_of_length_eq_zero h0
    subst h0'
    exact ⟨⟨none, 0, rfl, Nat.le_refl _, fun h => absurd rfl h, fun _ => rfl⟩, Nat.zero_le _, fun n hn => by cases hn⟩
  · refine ⟨⟨_, cap, rfl, a3, fun _ => ⟨g, 0, rfl, fun j hj => ?_⟩, fun h => by cases h⟩, Nat.le_trans a3 a4, fun n hn => hb n hn⟩
    rw [Nat.zero_add, hc.cell j (l.getD j 0) (by simp [hj])]

end Go.Proofs.Ytbbfmlehddfneaa

namespace Go.Proofs.Ytbbfmlehddfneaa
open Go.RowKit
set_option linter.unusedVariables false
def LI : Lay Int where
  st := 65
  et := 3
  n := 1
  bytes := 8
  zero := .int .i64 0
  cells := fun y => [.int .i64 y]
  len := fun _ => rfl
  one := fun x u hu => by
    simp at hu
    subst hu
    rfl
  pos := by decide
  small := by decide
  und := Try.underlying65
  info := info_i64
  zcells := rfl
theorem flat_LI (l : List Int) : LI.flat l = intsV l := by
  induction l with
  | nil => rfl
  | cons y r ih =>
    show LI.cells y ++ LI.flat r = _
    rw [ih]
    rfl
theorem OwnG.ownI {w : World} {base : Nat} {v : Value} {l : List Int} (h : OwnG LI w base v l) : OwnI w base v l := by
  unfold OwnG at h
  rw [flat_LI] at h
  exact h
theorem OwnI.ownG {w : World} {base : Nat} {v : Value} {l : List Int} (h : OwnI w base v l) : OwnG LI w base v l := by
  unfold OwnG
  rw [flat_LI]
  exact h
end Go.Proofs.Ytbbfmlehddfneaa

namespace Go.Proofs.Ytbbfmlehddfneaa
open Go.ChangeShapes Go.WideShapes Go.RowKit Go.Deep
set_option linter.unusedVariables false

/-- a vertex: its place, its colour -/
structure V8 where
  (p0 p1 p2 p3 c0 c1 c2 c3 : Int)
  deriving DecidableEq
instance : Inhabited V8 := ⟨⟨0, 0, 0, 0, 0, 0, 0, 0⟩⟩
abbrev V8.l (v : V8) : List Value := [.int .i64 v.p0, .int .i64 v.p1, .int .i64 v.p2, .int .i64 v.p3, .int .i64 v.c0, .int .i64 v.c1, .int .i64 v.c2, .int .i64 v.c3]
/-- what pixels become -/
structure Clr where
  (r g b a dep sten want : Int)
  deriving DecidableEq
abbrev Clr.l (c : Clr) : List Value := [.int .u8 c.r, .int .u8 c.g, .int .u8 c.b, .int .u8 c.a, .int .i64 c.dep, .int .u8 c.sten, .int .u8 c.want]
/-- a draw, as it lies: its indices are somewhere -/
structure DrM where
  st : Stt
  clears : Bool
  cl : Clr
  vx : Int
  fr : Int
  kind : Int
  ix : SlV
abbrev DrM.l (d : DrM) : List Value := d.st.v.toList ++ [.bool d.clears] ++ d.cl.l ++ [.int .i64 d.vx, .int .i64 d.fr, .int .u8 d.kind, d.ix.v]

set_option maxRecDepth 100000 in
theorem info_v8 : (Try.prog.info? 69).map (fun i => (i.zero, i.size, i.bytes)) = some (some (.agg (V8.l ⟨0, 0, 0, 0, 0, 0, 0, 0⟩).toArray), 8, 64) := by kernel_rfl
def LV : Lay V8 where
  st := 38
  et := 69
  n := 8
  bytes := 64
  zero := .agg (V8.l ⟨0, 0, 0, 0, 0, 0, 0, 0⟩).toArray
  cells := V8.l
  len := fun _ => rfl
  one := fun x u hu => by
    simp at hu
    rcases hu with rfl | rfl | rfl | rfl | rfl | rfl | rfl | rfl <;> rfl
  pos := by decide
  small := by decide
  und := Try.underlying38
  info := info_v8
  zcells := rfl
set_option maxRecDepth 100000 in
theorem info_pr : (Try.prog.info? 74).map (fun i => (i.zero, i.size, i.bytes)) = some (some (.slice none 0 0), 1, 24) := by kernel_rfl
def LP : Lay SlV where
  st := 39
  et := 74
  n := 1
  bytes := 24
  zero := .slice none 0 0
  cells := fun s => [s.v]
  len := fun _ => rfl
  one := fun x u hu => by
    simp at hu
    subst hu
    rfl
  pos := by decide
  small := by decide
  und := Try.underlying39
  info := info_pr
  zcells := rfl
set_option maxRecDepth 100000 in
theorem info_dr : (Try.prog.info? 67).map (fun i => (i.zero, i.size, i.bytes)) = some (some (.agg (DrM.l ⟨Stt.nul, false, ⟨0, 0, 0, 0, 0, 0, 0⟩, 0, 0, 0, SlV.nil⟩).toArray), 27, 128) := by kernel_rfl
def LD : Lay DrM where
  st := 40
  et := 67
  n := 27
  bytes := 128
  zero := .agg (DrM.l ⟨Stt.nul, false, ⟨0, 0, 0, 0, 0, 0, 0⟩, 0, 0, 0, SlV.nil⟩).toArray
  cells := DrM.l
  len := fun _ => rfl
  one := fun x u hu => by
    simp [DrM.l] at hu
    rcases hu with rfl | rfl | rfl | rfl | rfl | rfl | rfl | rfl | rfl | rfl | rfl | rfl | rfl | rfl | rfl | rfl | rfl | rfl | rfl | rfl | rfl | rfl | rfl | rfl | rfl | rfl | rfl <;> rfl
  pos := by decide
  small := by decide
  und := Try.underlying40
  info := info_dr
  zcells := rfl

/-- the law's vertex, by small numbers -/
structure VSm where
  (x y z w r g b a : Int)
  far : Bool
instance : Inhabited VSm := ⟨⟨0, 0, 0, 0, 0, 0, 0, 0, false⟩⟩
abbrev VSm.l (v : VSm) : List Value := [.int .i16 v.x, .int .i16 v.y, .int .i16 v.z, .int .i16 v.w, .int .u8 v.r, .int .u8 v.g, .int .u8 v.b, .int .u8 v.a, .bool v.far]
def VSm.ok (v : VSm) : Prop := (-32768 ≤ v.x ∧ v.x ≤ 32767) ∧ (-32768 ≤ v.y ∧ v.y ≤ 32767) ∧ (-32768 ≤ v.z ∧ v.z ≤ 32767) ∧ (-32768 ≤ v.w ∧ v.w ≤ 32767) ∧ (0 ≤ v.r ∧ v.r ≤ 255) ∧ (0 ≤ v.g ∧ v.g ≤ 255) ∧ (0 ≤ v.b ∧ v.b ≤ 255) ∧ (0 ≤ v.a ∧ v.a ≤ 255)
/-- the law's draw, by small numbers, as it lies -/
structure DSm where
  s : Sm9
  (kind vx fr : Int)
  ix : SlV
  (r g b a dep : Int)
  plain : Bool
instance : Inhabited Sm9 := ⟨⟨0, 0, 0, 0, 0, 0, 0, 0, 0, 0, false, false, 0, 0, 0, 0⟩⟩
instance : Inhabited SlV := ⟨SlV.nil⟩
instance : Inhabited DSm := ⟨⟨default, 0, 0, 0, SlV.nil, 0, 0, 0, 0, 0, false⟩⟩
abbrev DSm.l (d : DSm) : List Value := d.s.v.toList ++ [.int .u8 d.kind, .int .u8 d.vx, .int .u8 d.fr, d.ix.v, .int .u8 d.r, .int .u8 d.g, .int .u8 d.b, .int .u8 d.a, .int .u16 d.dep, .bool d.plain]
def DSm.ok (d : DSm) : Prop := d.s.ok ∧ (0 ≤ d.kind ∧ d.kind ≤ 255) ∧ (0 ≤ d.vx ∧ d.vx ≤ 255) ∧ (0 ≤ d.fr ∧ d.fr ≤ 255) ∧ (0 ≤ d.r ∧ d.r ≤ 255) ∧ (0 ≤ d.g ∧ d.g ≤ 255) ∧ (0 ≤ d.b ∧ d.b ≤ 255) ∧ (0 ≤ d.a ∧ d.a ≤ 255) ∧ (0 ≤ d.dep ∧ d.dep ≤ 65535)
set_option maxRecDepth 100000 in
theorem info_vs : (Try.prog.info? 82).map (fun i => (i.zero, i.size, i.bytes)) = some (some (.agg (VSm.l ⟨0, 0, 0, 0, 0, 0, 0, 0, false⟩).toArray), 9, 14) := by kernel_rfl
def LVS : Lay VSm where
  st := 24
  et := 82
  n := 9
  bytes := 14
  zero := .agg (VSm.l ⟨0, 0, 0, 0, 0, 0, 0, 0, false⟩).toArray
  cells := VSm.l
  len := fun _ => rfl
  one := fun x u hu => by
    simp at hu
    rcases hu with rfl | rfl | rfl | rfl | rfl | rfl | rfl | rfl | rfl <;> rfl
  pos := by decide
  small := by decide
  und := Try.underlying24
  info := info_vs
  zcells := rfl
set_option maxRecDepth 100000 in
theorem info_ls : (Try.prog.info? 77).map (fun i => (i.zero, i.size, i.bytes)) = some (some (.slice none 0 0), 1, 24) := by kernel_rfl
def LLS : Lay SlV where
  st := 25
  et := 77
  n := 1
  bytes := 24
  zero := .slice none 0 0
  cells := fun s => [s.v]
  len := fun _ => rfl
  one := fun x u hu => by
    simp at hu
    subst hu
    rfl
  pos := by decide
  small := by decide
  und := Try.underlying25
  info := info_ls
  zcells := rfl
set_option maxRecDepth 100000 in
theorem info_ds : (Try.prog.info? 79).map (fun i => (i.zero, i.size, i.bytes)) = some (some (.agg (DSm.l default).toArray), 26, 56) := by kernel_rfl
def LDS : Lay DSm where
  st := 26
  et := 79
  n := 26
  bytes := 56
  zero := .agg (DSm.l default).toArray
  cells := DSm.l
  len := fun _ => rfl
  one := fun x u hu => by
    simp [DSm.l] at hu
    rcases hu with rfl | rfl | rfl | rfl | rfl | rfl | rfl | rfl | rfl | rfl | rfl | rfl | rfl | rfl | rfl | rfl | rfl | rfl | rfl | rfl | rfl | rfl | rfl | rfl | rfl | rfl <;> rfl
  pos := by decide
  small := by decide
  und := Try.underlying26
  info := info_ds
  zcells := rfl
end Go.Proofs.Ytbbfmlehddfneaa

namespace Go.Proofs.Ytbbfmlehddfneaa
open Go.ChangeShapes Go.WideShapes Go.RowKit Go.Deep
set_option linter.unusedVariables false
set_option maxRecDepth 100000 in
theorem vs_cells {H : Type} {enc : TypeId × Value → H} {w : World} {base : Nat} {spare : Nat → Bool} {held : Bool} {fuel : Nat} {cs : List Value} {x0 : DataW H × List MemPlace} (h : DataW.trod enc Try.prog w base spare held fuel 82 cs = some x0) :
    ∃ (x : Int) (y : Int) (z : Int) (ww : Int) (r : Int) (g : Int) (b : Int) (a : Int) (far : Bool), cs = [.int .i16 x, .int .i16 y, .int .i16 z, .int .i16 ww, .int .u8 r, .int .u8 g, .int .u8 b, .int .u8 a, .bool far] ∧ (-32768 ≤ x ∧ x ≤ 32767) ∧ (-32768 ≤ y ∧ y ≤ 32767) ∧ (-32768 ≤ z ∧ z ≤ 32767) ∧ (-32768 ≤ ww ∧ ww ≤ 32767) ∧ (0 ≤ r ∧ r ≤ 255) ∧ (0 ≤ g ∧ g ≤ 255) ∧ (0 ≤ b ∧ b ≤ 255) ∧ (0 ≤ a ∧ a ≤ 255) := by
  obtain ⟨xs, n, _, _, hl, hlen, hf⟩ := DataW.trod_struct Try.underlying82 h
  have hl2 : cs.length = 9 := hl.trans (by kernel_rfl)
  have hlen2 : xs.length = 6 := hlen
  match cs, hl2, xs, hlen2 with
  | [cx, cy, cz, cww, cr, cg, cb, ca, cfar], _, [y0, y1, y2, y3, y4, y5], _ =>
    have h0 : DataW.trod enc Try.prog w base spare held n 22 [cx] = some y0 := hf 0 _ rfl
    have h1 : DataW.trod enc Try.prog w base spare held n 22 [cy] = some y1 := hf 1 _ rfl
    have h2 : DataW.trod enc Try.prog w base spare held n 22 [cz] = some y2 := hf 2 _ rfl
    have h3 : DataW.trod enc Try.prog w base spare held n 22 [cww] = some y3 := hf 3 _ rfl
    have h4 : DataW.trod enc Try.prog w base spare held n 58 [cr, cg, cb, ca] = some y4 := hf 4 _ rfl
    have h5 : DataW.trod enc Try.prog w base spare held n 4 [cfar] = some y5 := hf 5 _ rfl
    obtain ⟨x, rfl, wx⟩ := g_int Try.underlying22 h0
    obtain ⟨y, rfl, wy⟩ := g_int Try.underlying22 h1
    obtain ⟨z, rfl, wz⟩ := g_int Try.underlying22 h2
    obtain ⟨ww, rfl, www⟩ := g_int Try.underlying22 h3
    obtain ⟨r, rfl, wr⟩ := intsAt_cells (k := .u8) 3 58 n _ _ (by kernel_rfl) h4 cr (by simp)
    obtain ⟨g, rfl, wg⟩ := intsAt_cells (k := .u8) 3 58 n _ _ (by kernel_rfl) h4 cg (by simp)
    obtain ⟨b, rfl, wb⟩ := intsAt_cells (k := .u8) 3 58 n _ _ (by kernel_rfl) h4 cb (by simp)
    obtain ⟨a, rfl, wa⟩ := intsAt_cells (k := .u8) 3 58 n _ _ (by kernel_rfl) h4 ca (by simp)
    obtain ⟨far, rfl⟩ := g_bool Try.underlying4 h5
    exact ⟨x, y, z, ww, r, g, b, a, far, rfl, bounds_i16 wx, bounds_i16 wy, bounds_i16 wz, bounds_i16 www, bounds_u8 wr, bounds_u8 wg, bounds_u8 wb, bounds_u8 wa⟩
set_option maxRecDepth 100000 in
theorem info_lsm : (Try.prog.info? 118).map (fun i => (i.zero, i.size, i.bytes)) = some (some (.agg #[.int .u8 0, .int .u8 0, .int .u8 0, .int .u8 0, .int .i16 0, .bool false]), 6, 8) := by kernel_rfl
def LSm : Lay Sm where
  st := 77
  et := 118
  n := 6
  bytes := 8
  zero := .agg #[.int .u8 0, .int .u8 0, .int .u8 0, .int .u8 0, .int .i16 0, .bool false]
  cells := fun p => [.int .u8 p.op, .int .u8 p.dst, .int .u8 p.a, .int .u8 p.b, .int .i16 p.imm, .bool p.raw]
  len := fun _ => rfl
  one := fun x u hu => by
    simp at hu
    rcases hu with rfl | rfl | rfl | rfl | rfl | rfl <;> rfl
  pos := by decide
  small := by decide
  und := Try.underlying77
  info := info_lsm
  zcells := rfl
theorem PArrG.sarr {w : World} {v : Value} {xs : List Sm} (h : PArrG LSm w v xs) (hq : ∀ p ∈ xs, p.ok) (hl : xs.length ≤ maxLen) : SArr w v xs := by
  obtain ⟨ao, cap, rfl, h1⟩ := h
  refine ⟨⟨ao, cap, rfl, fun hne => ?_⟩, hl, hq⟩
  obtain ⟨b, off, rfl, hc⟩ := h1 hne
  exact ⟨b, off, rfl, fun j p hj => ⟨hc j p hj 0 _ rfl, hc j p hj 1 _ rfl, hc j p hj 2 _ rfl, hc j p hj 3 _ rfl, hc j p hj 4 _ rfl, hc j p hj 5 _ rfl⟩⟩
section
variable {H : Type} {enc : TypeId × Value → H} {w : World} {base : Nat} {spare : Nat → Bool} {held : Bool}
/-- slices of small instructions lie behind it -/
def smQ (w : World) (s : SlV) : Prop := ∃ xs, SArr w s.v xs
set_option maxRecDepth 100000 in
theorem sm_slice {fuel : Nat} {cs : List Value} {x : DataW H × List MemPlace} (h : DataW.trod enc Try.prog w base spare held fuel 77 cs = some x) : ∃ s : SlV, cs = [s.v] ∧ smQ w s := by
  obtain ⟨s, xs, e, h1, h2, h3⟩ := cells_g LSm Sm.ok (by kernel_rfl) (fun fuel cs x h => sm_cells h) h
  exact ⟨s, e, xs, h1.sarr h2 h3⟩
set_option maxRecDepth 100000 in
theorem sms_slice {fuel : Nat} {cs : List Value} {x : DataW H × List MemPlace} (h : DataW.trod enc Try.prog w base spare held fuel 25 cs = some x) : ∃ (s : SlV) (xs : List SlV), cs = [s.v] ∧ PArrG LLS w s.v xs ∧ (∀ a ∈ xs, smQ w a) ∧ xs.length ≤ maxLen :=
  cells_g LLS (smQ w) (by kernel_rfl) (fun fuel cs x h => sm_slice h) h
/-- what lies behind a draw's indices -/
def DSm.Q (w : World) (d : DSm) : Prop := d.ok ∧ ∃ xs, Arr w .u8 d.ix.v xs
set_option maxRecDepth 100000 in
theorem ds_cells {fuel : Nat} {cs : List Value} {x : DataW H × List MemPlace} (h : DataW.trod enc Try.prog w base spare held fuel 79 cs = some x) : ∃ d : DSm, cs = d.l ∧ d.Q w := by
  obtain ⟨xs, n, _, _, hl, hlen, hf⟩ := DataW.trod_struct Try.underlying79 h
  have hl2 : cs.length = 26 := hl.trans (by kernel_rfl)
  have hlen2 : xs.length = 8 := hlen
  match cs, hl2, xs, hlen2 with
  | [cdep, cste, cref, cmsk, cfai, chid, cpas, cble, ccha, ccul, cwr, cez, cq0, cq1, cq2, cq3, ckind, cvx, cfr, cix, cr, cg, cb, ca, cdpt, cpl], _, [y0, y1, y2, y3, y4, y5, y6, y7], _ =>
    have h0 : DataW.trod enc Try.prog w base spare held n 60 [cdep, cste, cref, cmsk, cfai, chid, cpas, cble, ccha, ccul, cwr, cez, cq0, cq1, cq2, cq3] = some y0 := hf 0 _ rfl
    have h1 : DataW.trod enc Try.prog w base spare held n 5 [ckind] = some y1 := hf 1 _ rfl
    have h2 : DataW.trod enc Try.prog w base spare held n 5 [cvx] = some y2 := hf 2 _ rfl
    have h3 : DataW.trod enc Try.prog w base spare held n 5 [cfr] = some y3 := hf 3 _ rfl
    have h4 : DataW.trod enc Try.prog w base spare held n 29 [cix] = some y4 := hf 4 _ rfl
    have h5 : DataW.trod enc Try.prog w base spare held n 58 [cr, cg, cb, ca] = some y5 := hf 5 _ rfl
    have h6 : DataW.trod enc Try.prog w base spare held n 30 [cdpt] = some y6 := hf 6 _ rfl
    have h7 : DataW.trod enc Try.prog w base spare held n 4 [cpl] = some y7 := hf 7 _ rfl
    obtain ⟨dep, ste, ref, msk, fai, hid, pas, ble, cha, cul, wr, ez, q0, q1, q2, q3, e0, b0⟩ := sm9_cells h0
    obtain ⟨kind, rfl, wkind⟩ := g_int Try.underlying5 h1
    obtain ⟨vx, rfl, wvx⟩ := g_int Try.underlying5 h2
    obtain ⟨fr, rfl, wfr⟩ := g_int Try.underlying5 h3
    obtain ⟨ix, zs, e4, A4⟩ := cells_arr Try.underlying29 Try.underlying5 (by kernel_rfl) h4
    obtain ⟨r, rfl, wr5⟩ := intsAt_cells (k := .u8) 3 58 n _ _ (by kernel_rfl) h5 cr (by simp)
    obtain ⟨g, rfl, wg5⟩ := intsAt_cells (k := .u8) 3 58 n _ _ (by kernel_rfl) h5 cg (by simp)
    obtain ⟨b, rfl, wb5⟩ := intsAt_cells (k := .u8) 3 58 n _ _ (by kernel_rfl) h5 cb (by simp)
    obtain ⟨a, rfl, wa5⟩ := intsAt_cells (k := .u8) 3 58 n _ _ (by kernel_rfl) h5 ca (by simp)
    obtain ⟨dpt, rfl, wdpt⟩ := g_int Try.underlying30 h6
    obtain ⟨pl, rfl⟩ := g_bool Try.underlying4 h7
    cases e0
    cases e4
    exact ⟨⟨⟨dep, ste, ref, msk, fai, hid, pas, ble, cha, cul, wr, ez, q0, q1, q2, q3⟩, kind, vx, fr, ix, r, g, b, a, dpt, pl⟩, rfl, ⟨b0, bounds_u8 wkind, bounds_u8 wvx, bounds_u8 wfr, bounds_u8 wr5, bounds_u8 wg5, bounds_u8 wb5, bounds_u8 wa5, bounds_u16 wdpt⟩, zs, A4⟩
set_option maxRecDepth 100000 in
theorem vss_slice {fuel : Nat} {cs : List Value} {x : DataW H × List MemPlace} (h : DataW.trod enc Try.prog w base spare held fuel 24 cs = some x) : ∃ (s : SlV) (xs : List VSm), cs = [s.v] ∧ PArrG LVS w s.v xs ∧ (∀ a ∈ xs, a.ok) ∧ xs.length ≤ maxLen :=
  cells_g LVS VSm.ok (by kernel_rfl) (fun fuel cs x h => by
    obtain ⟨x, y, z, ww, r, g, b, a, far, e, hb⟩ := vs_cells h
    exact ⟨⟨x, y, z, ww, r, g, b, a, far⟩, e, hb⟩) h
set_option maxRecDepth 100000 in
theorem dss_slice {fuel : Nat} {cs : List Value} {x : DataW H × List MemPlace} (h : DataW.trod enc Try.prog w base spare held fuel 26 cs = some x) : ∃ (s : SlV) (xs : List DSm), cs = [s.v] ∧ PArrG LDS w s.v xs ∧ (∀ a ∈ xs, a.Q w) ∧ xs.length ≤ maxLen :=
  cells_g LDS (DSm.Q w) (by kernel_rfl) (fun fuel cs x h => ds_cells h) h
end
/-- the small script: its numbers, its slices -/
structure SScr where
  (wd ht t0 t1 t2 t3 : Int)
  (vs sh pa ds : SlV)
abbrev SScr.v (s : SScr) : Array Value := #[.int .u8 s.wd, .int .u8 s.ht, .int .i16 s.t0, .int .i16 s.t1, .int .i16 s.t2, .int .i16 s.t3, s.vs.v, s.sh.v, s.pa.v, s.ds.v]
/-- what lies behind a small script -/
structure SScrQ (w : World) (s : SScr) (vs : List VSm) (sh pa : List SlV) (ds : List DSm) : Prop where
  bd : (0 ≤ s.wd ∧ s.wd ≤ 255) ∧ (0 ≤ s.ht ∧ s.ht ≤ 255) ∧ (-32768 ≤ s.t0 ∧ s.t0 ≤ 32767) ∧ (-32768 ≤ s.t1 ∧ s.t1 ≤ 32767) ∧ (-32768 ≤ s.t2 ∧ s.t2 ≤ 32767) ∧ (-32768 ≤ s.t3 ∧ s.t3 ≤ 32767)
  V : PArrG LVS w s.vs.v vs
  vok : ∀ a ∈ vs, a.ok
  vmost : vs.length ≤ maxLen
  Sh : PArrG LLS w s.sh.v sh
  sq : ∀ a ∈ sh, smQ w a
  smost : sh.length ≤ maxLen
  P : PArrG LLS w s.pa.v pa
  pq : ∀ a ∈ pa, smQ w a
  pmost : pa.length ≤ maxLen
  D : PArrG LDS w s.ds.v ds
  dq : ∀ a ∈ ds, a.Q w
  dmost : ds.length ≤ maxLen
theorem smQ.ext {w w' : World} {s : SlV} (h : smQ w s) (x : Ext w w') : smQ w' s := by
  obtain ⟨xs, h1⟩ := h
  exact ⟨xs, h1.ext x⟩
theorem DSm.Q.ext {w w' : World} {d : DSm} (h : d.Q w) (x : Ext w w') : d.Q w' := by
  obtain ⟨h0, xs, h1⟩ := h
  exact ⟨h0, xs, h1.ext x⟩
theorem SScrQ.ext {w w' : World} {s : SScr} {vs : List VSm} {sh pa : List SlV} {ds : List DSm} (h : SScrQ w s vs sh pa ds) (x : Ext w w') : SScrQ w' s vs sh pa ds :=
  ⟨h.bd, h.V.ext x, h.vok, h.vmost, h.Sh.ext x, fun a ha => (h.sq a ha).ext x, h.smost, h.P.ext x, fun a ha => (h.pq a ha).ext x, h.pmost, h.D.ext x, fun a ha => (h.dq a ha).ext x, h.dmost⟩
set_option maxRecDepth 100000 in
theorem openScr {H : Type} {enc : TypeId × Value → H} {w : World} {base : Nat} {spare : Nat → Bool} {held : Bool} {r : Reach} {b0 : Nat} {v : Value} {dt : DataW H} {p : List MemPlace} (hv : Value.okWide Try.prog w r b0 28 v) (h : DataW.Trod enc Try.prog w base spare held 28 v dt p) :
    ∃ (s : SScr) (vs : List VSm) (sh pa : List SlV) (ds : List DSm), v = .agg s.v ∧ SScrQ w s vs sh pa ds := by
  obtain ⟨cs0, rfl, hs⟩ := okWide_struct Try.underlying28 hv
  obtain ⟨fuel, hf0⟩ := h
  have h : DataW.trod enc Try.prog w base spare held fuel 28 cs0.toList = some _ := hf0
  obtain ⟨xs, n, _, _, hl, hlen, hf⟩ := DataW.trod_struct Try.underlying28 h
  have hl2 : cs0.toList.length = 10 := hl.trans (by kernel_rfl)
  have hlen2 : xs.length = 7 := hlen
  obtain ⟨cs, hcs⟩ : ∃ cs, cs0.toList = cs := ⟨_, rfl⟩
  have e0 : cs0 = cs.toArray := by rw [← hcs]
  subst e0
  dsimp only at hl2 hf
  match cs, hl2, xs, hlen2 with
  | [c0, c1, c2, c3, c4, c5, c6, c7, c8, c9], _, [y0, y1, y2, y3, y4, y5, y6], _ =>
    have h0 : DataW.trod enc Try.prog w base spare held n 5 [c0] = some y0 := hf 0 _ rfl
    have h1 : DataW.trod enc Try.prog w base spare held n 5 [c1] = some y1 := hf 1 _ rfl
    have h2 : DataW.trod enc Try.prog w base spare held n 23 [c2, c3, c4, c5] = some y2 := hf 2 _ rfl
    have h3 : DataW.trod enc Try.prog w base spare held n 24 [c6] = some y3 := hf 3 _ rfl
    have h4 : DataW.trod enc Try.prog w base spare held n 25 [c7] = some y4 := hf 4 _ rfl
    have h5 : DataW.trod enc Try.prog w base spare held n 25 [c8] = some y5 := hf 5 _ rfl
    have h6 : DataW.trod enc Try.prog w base spare held n 26 [c9] = some y6 := hf 6 _ rfl
    obtain ⟨z0, rfl, w0⟩ := g_int Try.underlying5 h0
    obtain ⟨z1, rfl, w1⟩ := g_int Try.underlying5 h1
    obtain ⟨t0, rfl, wt0⟩ := intsAt_cells (k := .i16) 3 23 n _ _ (by kernel_rfl) h2 c2 (by simp)
    obtain ⟨t1, rfl, wt1⟩ := intsAt_cells (k := .i16) 3 23 n _ _ (by kernel_rfl) h2 c3 (by simp)
    obtain ⟨t2, rfl, wt2⟩ := intsAt_cells (k := .i16) 3 23 n _ _ (by kernel_rfl) h2 c4 (by simp)
    obtain ⟨t3, rfl, wt3⟩ := intsAt_cells (k := .i16) 3 23 n _ _ (by kernel_rfl) h2 c5 (by simp)
    obtain ⟨vs, lvs, e3, V1, V2, V3⟩ := vss_slice h3
    obtain ⟨sh, lsh, e4, S1, S2, S3⟩ := sms_slice h4
    obtain ⟨pa, lpa, e5, P1, P2, P3⟩ := sms_slice h5
    obtain ⟨ds, lds, e6, D1, D2, D3⟩ := dss_slice h6
    cases e3
    cases e4
    cases e5
    cases e6
    exact ⟨⟨z0, z1, t0, t1, t2, t3, vs, sh, pa, ds⟩, lvs, lsh, lpa, lds, rfl, ⟨⟨bounds_u8 w0, bounds_u8 w1, bounds_i16 wt0, bounds_i16 wt1, bounds_i16 wt2, bounds_i16 wt3⟩, V1, V2, V3, S1, S2, S3, P1, P2, P3, D1, D2, D3⟩⟩
end Go.Proofs.Ytbbfmlehddfneaa

namespace Go.Proofs.Ytbbfmlehddfneaa
open Go.RowKit
set_option linter.unusedVariables false

def vxF (v : VSm) : V8 := ⟨v.x * 3, v.y * 3, max (v.z * 2) (-9000), if v.far then v.w * 4 else 65536 + v.w, v.r * 257, v.g * 257, v.b * 257, v.a * 257⟩
theorem idx4u (x0 x1 x2 x3 : Value) (w : World) :
    (Instr.index 58 (.agg #[x0, x1, x2, x3]) (.int .i64 0)).run Try.prog w = .ok x0 w ∧ (Instr.index 58 (.agg #[x0, x1, x2, x3]) (.int .i64 1)).run Try.prog w = .ok x1 w ∧
    (Instr.index 58 (.agg #[x0, x1, x2, x3]) (.int .i64 2)).run Try.prog w = .ok x2 w ∧ (Instr.index 58 (.agg #[x0, x1, x2, x3]) (.int .i64 3)).run Try.prog w = .ok x3 w := by
  refine ⟨?_, ?_, ?_, ?_⟩ <;> simp [Instr.index, asIntOf, run_underlying Try.underlying58, go_sem, part]

set_option maxRecDepth 100000 in
set_option maxHeartbeats 1000000 in
theorem vertex11_any (v : VSm) (hv : v.ok) (w : World) : Calls Try.prog 14 #[.agg v.l.toArray] w fun e w' => e = .returned (.agg (vxF v).l.toArray) ∧ Ext w w' := by
  obtain ⟨x, y, z, ww, r, g, b, a, far⟩ := v
  obtain ⟨h0, h1, h2, h3, h4, h5, h6, h7⟩ := hv
  simp only at h0 h1 h2 h3 h4 h5 h6 h7
  have hmx := maxI_fold
  have hix := idx4u (.int .u8 r) (.int .u8 g) (.int .u8 b) (.int .u8 a)
  cases far
  · have hF : (vxF ⟨x, y, z, ww, r, g, b, a, false⟩).l.toArray = #[.int .i64 (x * 3), .int .i64 (y * 3), .int .i64 (maxI (z * 2) (-9000)), .int .i64 (65536 + ww), .int .i64 (r * 257), .int .i64 (g * 257), .int .i64 (b * 257), .int .i64 (a * 257)] := by simp [vxF, maxI_eq]
    rw [hF]
    clear hF
    go_enter Try.func14, Try.ntmps14
    go_wp2_with fail
    refine wp_loop_rounds 5 ?_
    rw [rounds_succ]
    go_wp2
    rw [rounds_succ]
    go_wp2
    rw [rounds_succ]
    go_wp2
    rw [rounds_succ]
    go_wp2
    rw [rounds_succ]
    go_wp2
    exact bodyPost_ret (v := .agg #[.int .i64 (x * 3), .int .i64 (y * 3), .int .i64 (maxI (z * 2) (-9000)), .int .i64 (65536 + ww), .int .i64 (r * 257), .int .i64 (g * 257), .int .i64 (b * 257), .int .i64 (a * 257)]) (results_blk (b := w.heap.size + 1) (t := 2) (ty := 69) rfl rfl ((Blk.new' (by simp) _ _).alloc _) Try.underlying69 rfl (by kernel_rfl)) rfl ⟨rfl, (((Ext.refl w).alloc _ _).alloc _ _).alloc _ _⟩
  · have hF : (vxF ⟨x, y, z, ww, r, g, b, a, true⟩).l.toArray = #[.int .i64 (x * 3), .int .i64 (y * 3), .int .i64 (maxI (z * 2) (-9000)), .int .i64 (ww * 4), .int .i64 (r * 257), .int .i64 (g * 257), .int .i64 (b * 257), .int .i64 (a * 257)] := by simp [vxF, maxI_eq]
    rw [hF]
    clear hF
    go_enter Try.func14, Try.ntmps14
    go_wp2_with fail
    refine wp_loop_rounds 5 ?_
    rw [rounds_succ]
    go_wp2
    rw [rounds_succ]
    go_wp2
    rw [rounds_succ]
    go_wp2
    rw [rounds_succ]
    go_wp2
    rw [rounds_succ]
    go_wp2
    exact bodyPost_ret (v := .agg #[.int .i64 (x * 3), .int .i64 (y * 3), .int .i64 (maxI (z * 2) (-9000)), .int .i64 (ww * 4), .int .i64 (r * 257), .int .i64 (g * 257), .int .i64 (b * 257), .int .i64 (a * 257)]) (results_blk (b := w.heap.size + 1) (t := 2) (ty := 69) rfl rfl ((Blk.new' (by simp) _ _).alloc _) Try.underlying69 rfl (by kernel_rfl)) rfl ⟨rfl, (((Ext.refl w).alloc _ _).alloc _ _).alloc _ _⟩

def le30 (s : SlV) : Bool := decide (s.n ≤ 30)
def le60 (d : DSm) : Bool := decide (d.ix.n ≤ 60)
def lightB (vs : List VSm) (sh pa : List SlV) (ds : List DSm) : Bool := sh.all le30 && (pa.all le30 && (ds.all le60 && (decide (vs.length ≤ 40) && (decide (sh.length ≤ 6) && (decide (pa.length ≤ 6) && decide (ds.length ≤ 20))))))
theorem all_snocG {α : Type} {l : List α} {j : Nat} {x : α} (p : α → Bool) (h : l[j]? = some x) : (l.take (j + 1)).all p = ((l.take j).all p && p x) := by
  rw [List.take_add_one, h, List.all_append]
  simp
theorem all_badG {α : Type} {l : List α} {j : Nat} {x : α} (p : α → Bool) (h : l[j]? = some x) (hp : p x = false) : l.all p = false := by
  rw [List.all_eq_false]
  exact ⟨x, List.mem_of_getElem? h, by rw [hp]; simp⟩
set_option maxRecDepth 100000 in
set_option maxHeartbeats 1000000 in
theorem light_any (w : World) (s : SScr) (vs : List VSm) (sh pa : List SlV) (ds : List DSm) (Q : SScrQ w s vs sh pa ds) : Calls Try.prog 7 #[.agg s.v] w fun e w' => e = .returned (.bool (lightB vs sh pa ds)) ∧ Ext w w' := by
  obtain ⟨wd, ht, t0, t1, t2, t3, ⟨va, vn, vc⟩, ⟨sa, sn, sc⟩, ⟨pa', pn, pc⟩, ⟨da, dn, dc⟩⟩ := s
  have QV := Q.V
  have QS := Q.Sh
  have QP := Q.P
  have QD := Q.D
  have hv0 := Q.vmost
  have hs0 := Q.smost
  have hp0 := Q.pmost
  have hd0 := Q.dmost
  obtain ⟨_, _, e, -, -⟩ := QV.slice
  cases e
  obtain ⟨_, _, e, -, -⟩ := QS.slice
  cases e
  obtain ⟨_, _, e, -, -⟩ := QP.slice
  cases e
  obtain ⟨_, _, e, -, -⟩ := QD.slice
  cases e
  simp only [maxLen] at hv0 hs0 hp0 hd0
  unfold lightB
  dsimp only [SScr.v, SlV.v] at QV QS QP QD ⊢
  have B1 := Blk.new w #[.int .u8 wd, .int .u8 ht, .int .i16 t0, .int .i16 t1, .int .i16 t2, .int .i16 t3, .slice va vs.length vc, .slice sa sh.length sc, .slice pa' pa.length pc, .slice da ds.length dc] 28
  have x1 := (Ext.refl w).alloc #[.int .u8 wd, .int .u8 ht, .int .i16 t0, .int .i16 t1, .int .i16 t2, .int .i16 t3, .slice va vs.length vc, .slice sa sh.length sc, .slice pa' pa.length pc, .slice da ds.length dc] 28
  go_enter Try.func7, Try.ntmps7
  go_wp2_with fail
  generalize w.alloc (.cells #[.int .u8 wd, .int .u8 ht, .int .i16 t0, .int .i16 t1, .int .i16 t2, .int .i16 t3, .slice va vs.length vc, .slice sa sh.length sc, .slice pa' pa.length pc, .slice da ds.length dc] 28) = w1 at *
  generalize w.heap.size = b1 at *
  go_loopg [12] sh.length (fun n0 iv wx => ∃ (j : Nat), j + n0 = sh.length ∧ iv = .int .i64 j ∧ Ext w1 wx ∧ (sh.take j).all le30 = true)
  case atStart => exact ⟨0, by omega, by simp, Ext.refl _, by simp⟩
  case round =>
    generalize wr = wz at *
    obtain ⟨j, hjk, rfl, q1, hall⟩ := hrel
    by_cases hj : j < sh.length
    · have hjI : (j : Int) < (sh.length : Int) := by omega
      obtain ⟨g, off, x, e0, -, hx, hc⟩ := (QS.ext (x1.trans q1)).nth j hj
      cases e0
      have c0 := hc 0 _ rfl
      obtain ⟨xa, xn, xc⟩ := x
      simp only [LLS, SlV.v, Nat.mul_one, Nat.add_zero] at c0
      have hs := all_snocG le30 hx
      have hbad := all_badG le30 hx
      rw [hall, Bool.true_and] at hs
      clear hc hx hall
      by_cases h30 : 30 < xn
      · have hI : 30 < (xn : Int) := by omega
        have HB := Lib.hid (hbad (by simp [le30]; omega))
        clear hbad hs
        go_wp2
        go_ret
        exact ⟨by rw [HB.out]; simp, x1.trans q1⟩
      · have hI : ¬ 30 < (xn : Int) := by omega
        have HS := Lib.hid (hs.trans (show le30 _ = true by simp [le30]; omega))
        clear hbad hs
        go_wp2
        go_roundg (gk - 1)
        case measure => omega
        case rel => exact ⟨j + 1, by omega, by simp, q1, HS.out⟩
    · obtain rfl : j = sh.length := by omega
      rw [List.take_length] at hall
      have HA1 := Lib.hid hall
      clear hall
      have B2 := B1.ext q1
      have cB2 := B2.cell
      go_wp2_with fail
      go_loopg [23] pa.length (fun n0 iv wx => ∃ (j : Nat), j + n0 = pa.length ∧ iv = .int .i64 j ∧ Ext w1 wx ∧ (pa.take j).all le30 = true)
      case atStart => exact ⟨0, by omega, by simp, q1, by simp⟩
      case round =>
        generalize wr = wz at *
        obtain ⟨j, hjk, rfl, q1, hall⟩ := hrel
        by_cases hj : j < pa.length
        · have hjI : (j : Int) < (pa.length : Int) := by omega
          obtain ⟨g, off, x, e0, -, hx, hc⟩ := (QP.ext (x1.trans q1)).nth j hj
          cases e0
          have c0 := hc 0 _ rfl
          obtain ⟨xa, xn, xc⟩ := x
          simp only [LLS, SlV.v, Nat.mul_one, Nat.add_zero] at c0
          have hs := all_snocG le30 hx
          have hbad := all_badG le30 hx
          rw [hall, Bool.true_and] at hs
          clear hc hx hall
          by_cases h30 : 30 < xn
          · have hI : 30 < (xn : Int) := by omega
            have HB := Lib.hid (hbad (by simp [le30]; omega))
            clear hbad hs
            go_wp2
            go_ret
            exact ⟨by rw [HB.out]; simp, x1.trans q1⟩
          · have hI : ¬ 30 < (xn : Int) := by omega
            have HS := Lib.hid (hs.trans (show le30 _ = true by simp [le30]; omega))
            clear hbad hs
            go_wp2
            go_roundg (gk - 1)
            case measure => omega
            case rel => exact ⟨j + 1, by omega, by simp, q1, HS.out⟩
        · obtain rfl : j = pa.length := by omega
          rw [List.take_length] at hall
          have HA2 := Lib.hid hall
          clear hall B2 cB2
          have B2 := B1.ext q1
          have cB2 := B2.cell
          go_wp2_with fail
          go_loopg [34] ds.length (fun n0 iv wx => ∃ (j : Nat), j + n0 = ds.length ∧ iv = .int .i64 j ∧ Ext w1 wx ∧ (ds.take j).all le60 = true)
          case atStart => exact ⟨0, by omega, by simp, q1, by simp⟩
          case round =>
            generalize wr = wy at *
            obtain ⟨j, hjk, rfl, q2, hall⟩ := hrel
            by_cases hj : j < ds.length
            · have hjI : (j : Int) < (ds.length : Int) := by omega
              obtain ⟨g, off, x, e0, -, hx, hc⟩ := (QD.ext (x1.trans q2)).nth j hj
              cases e0
              have R3 : wy.rangeAt g (off + j * 26) x.l := hc
              have hs := all_snocG le60 hx
              have hbad := all_badG le60 hx
              rw [hall, Bool.true_and] at hs
              clear hc hx hall
              obtain ⟨xs0, xk, xv, xf, ⟨xa, xn, xc⟩, xr, xg, xb, xaa, xd, xp⟩ := x
              have Bz := Blk.new wy #[.int .u8 0, .int .u8 0, .int .u8 0, .int .u8 0, .int .u8 0, .int .u8 0, .int .u8 0, .int .u8 0, .int .u8 0, .int .u8 0, .bool false, .bool false, .int .u8 0, .int .u8 0, .int .u8 0, .int .u8 0, .int .u8 0, .int .u8 0, .int .u8 0, .slice none 0 0, .int .u8 0, .int .u8 0, .int .u8 0, .int .u8 0, .int .u16 0, .bool false] 79
              have Bs := Bz.setRow (DSm.l ⟨xs0, xk, xv, xf, ⟨xa, xn, xc⟩, xr, xg, xb, xaa, xd, xp⟩).toArray
              have x2 : Ext w1 ((wy.alloc (.cells #[.int .u8 0, .int .u8 0, .int .u8 0, .int .u8 0, .int .u8 0, .int .u8 0, .int .u8 0, .int .u8 0, .int .u8 0, .int .u8 0, .bool false, .bool false, .int .u8 0, .int .u8 0, .int .u8 0, .int .u8 0, .int .u8 0, .int .u8 0, .int .u8 0, .slice none 0 0, .int .u8 0, .int .u8 0, .int .u8 0, .int .u8 0, .int .u16 0, .bool false] 79)).setRow wy.heap.size (DSm.l ⟨xs0, xk, xv, xf, ⟨xa, xn, xc⟩, xr, xg, xb, xaa, xd, xp⟩).toArray) := (q2.alloc _ _).setRow q2.size _
              have c19 := Bs.cell 19
              have ct : (DSm.l ⟨xs0, xk, xv, xf, ⟨xa, xn, xc⟩, xr, xg, xb, xaa, xd, xp⟩).toArray[19]? = some (.slice xa xn xc) := rfl
              rw [ct] at c19
              have hone : (DSm.l ⟨xs0, xk, xv, xf, ⟨xa, xn, xc⟩, xr, xg, xb, xaa, xd, xp⟩).toArray.all (·.oneCell') = true := by
                simp only [List.all_toArray, List.all_eq_true]
                exact LDS.one _
              have hzl : (DSm.l ⟨xs0, xk, xv, xf, ⟨xa, xn, xc⟩, xr, xg, xb, xaa, xd, xp⟩).length = 26 := rfl
              clear ct Bs
              generalize DSm.l ⟨xs0, xk, xv, xf, ⟨xa, xn, xc⟩, xr, xg, xb, xaa, xd, xp⟩ = lx at *
              by_cases h60 : 60 < xn
              · have hI : 60 < (xn : Int) := by omega
                have HB := Lib.hid (hbad (by simp [le60]; omega))
                clear hbad hs
                go_wp2_with (first
                  | refine wpList_load_mid rfl 79 (.tmp 36) rfl g (off + j * 26) rfl lx _ R3 Try.underlying79 rfl (by rw [hzl]; kernel_rfl) ?_
                  | ((with_reducible refine wpList_store_blk (op := ⟨none, .store 79 (.tmp 8) (.tmp 37), _, _, _, _⟩) ?_ 79 (.tmp 8) (.tmp 37) ?_ wy.heap.size ?_ (cs := lx.toArray) ?_ (z := #[.int .u8 0, .int .u8 0, .int .u8 0, .int .u8 0, .int .u8 0, .int .u8 0, .int .u8 0, .int .u8 0, .int .u8 0, .int .u8 0, .bool false, .bool false, .int .u8 0, .int .u8 0, .int .u8 0, .int .u8 0, .int .u8 0, .int .u8 0, .int .u8 0, .slice none 0 0, .int .u8 0, .int .u8 0, .int .u8 0, .int .u8 0, .int .u16 0, .bool false]) (T := 79) ?_ ?_ ?_ ?_ ?_); rfl; rfl; rfl; rfl; exact Bz; (rw [List.size_toArray, hzl]; kernel_rfl); exact hone; (simp [hzl]))
                  | fail)
                go_ret
                exact ⟨by rw [HB.out]; simp, x1.trans x2⟩
              · have hI : ¬ 60 < (xn : Int) := by omega
                have HS := Lib.hid (hs.trans (show le60 _ = true by simp [le60]; omega))
                clear hbad hs
                go_wp2_with (first
                  | refine wpList_load_mid rfl 79 (.tmp 36) rfl g (off + j * 26) rfl lx _ R3 Try.underlying79 rfl (by rw [hzl]; kernel_rfl) ?_
                  | ((with_reducible refine wpList_store_blk (op := ⟨none, .store 79 (.tmp 8) (.tmp 37), _, _, _, _⟩) ?_ 79 (.tmp 8) (.tmp 37) ?_ wy.heap.size ?_ (cs := lx.toArray) ?_ (z := #[.int .u8 0, .int .u8 0, .int .u8 0, .int .u8 0, .int .u8 0, .int .u8 0, .int .u8 0, .int .u8 0, .int .u8 0, .int .u8 0, .bool false, .bool false, .int .u8 0, .int .u8 0, .int .u8 0, .int .u8 0, .int .u8 0, .int .u8 0, .int .u8 0, .slice none 0 0, .int .u8 0, .int .u8 0, .int .u8 0, .int .u8 0, .int .u16 0, .bool false]) (T := 79) ?_ ?_ ?_ ?_ ?_); rfl; rfl; rfl; rfl; exact Bz; (rw [List.size_toArray, hzl]; kernel_rfl); exact hone; (simp [hzl]))
                  | fail)
                go_roundg (gk - 1)
                case measure => omega
                case rel => exact ⟨j + 1, by omega, by simp, x2, HS.out⟩
            · obtain rfl : j = ds.length := by omega
              rw [List.take_length] at hall
              have cB3 := (B1.ext q2).cell
              have e9 := x1.trans q2
              have HA3 := Lib.hid hall
              clear hall cB2 B2 B1
              by_cases k1 : vs.length ≤ 40
              · have k1I : (vs.length : Int) ≤ 40 := by omega
                by_cases k2 : sh.length ≤ 6
                · have k2I : (sh.length : Int) ≤ 6 := by omega
                  by_cases k3 : pa.length ≤ 6
                  · have k3I : (pa.length : Int) ≤ 6 := by omega
                    have hd20 : decide ((ds.length : Int) ≤ 20) = decide (ds.length ≤ 20) := by
                      by_cases h : ds.length ≤ 20
                      · simp [h]; omega
                      · simp [h]; omega
                    have HD := Lib.hid hd20
                    clear hd20
                    go_wp2
                    go_ret
                    exact ⟨by rw [HA1.out, HA2.out, HA3.out]; rw [← HD.out]; simp [k1, k2, k3], e9⟩
                  · have k3I : ¬ (pa.length : Int) ≤ 6 := by omega
                    go_wp2
                    go_ret
                    exact ⟨rfl, e9⟩
                · have k2I : ¬ (sh.length : Int) ≤ 6 := by omega
                  go_wp2
                  go_ret
                  exact ⟨rfl, e9⟩
              · have k1I : ¬ (vs.length : Int) ≤ 40 := by omega
                go_wp2
                go_ret
                exact ⟨rfl, e9⟩
end Go.Proofs.Ytbbfmlehddfneaa

