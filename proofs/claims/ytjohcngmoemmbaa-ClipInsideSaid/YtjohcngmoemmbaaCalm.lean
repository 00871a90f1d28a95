/-
  DERIVED. A REGION THAT DRAWS ITS ORDER, whose operations read old memory, call what only makes memory, make variables of their own and store into them: ONE walk of the text's order serves every order. The operations that make or store ('marked') are told by an invariant J of their own; all others yield one value in every world that has only grown.
-/
import Derived.Test.YtjohcngmoemmbaaExt
import Derived.Deep.QuietTactic
import Derived.BigQuiet
import Derived.Laws.CopyRow
namespace Go.Proofs.Ytjohcngmoemmbaa
open Go.RowKit
set_option linter.unusedVariables false

/-- w' is w but for new blocks, draws, and the blocks of O -/
structure Calm (O : List Nat) (w w' : World) : Prop where
  os : w'.os = w.os
  tape : w'.tape = w.tape
  output : w'.output = w.output
  size : w.heap.size ≤ w'.heap.size
  block : ∀ k, k < w.heap.size → k ∉ O → w'.heap[k]? = w.heap[k]?

theorem Ext.calm {w w' : World} (h : Ext w w') (O : List Nat) : Calm O w w' := ⟨h.bel.os, h.bel.tape, h.bel.output, h.bel.size, fun k hk _ => h.bel.block k hk⟩
theorem Calm.ext {w w' : World} (h : Calm [] w w') : Ext w w' := ⟨⟨h.os, h.tape, h.output, h.size, fun k hk => h.block k hk (by simp)⟩⟩
theorem Calm.refl (O : List Nat) (w : World) : Calm O w w := (Ext.refl w).calm O
theorem Calm.trans {O : List Nat} {a b c : World} (h : Calm O a b) (k : Calm O b c) : Calm O a c :=
  ⟨k.os.trans h.os, k.tape.trans h.tape, k.output.trans h.output, Nat.le_trans h.size k.size, fun i hi ho => (k.block i (Nat.lt_of_lt_of_le hi h.size) ho).trans (h.block i hi ho)⟩
theorem Calm.cell {O : List Nat} {w w' : World} (h : Calm O w w') {b : Nat} (o : Nat) (hb : b < w.heap.size) (hO : b ∉ O) : w'.cell? ⟨b, o, none⟩ = w.cell? ⟨b, o, none⟩ :=
  World.cell?_of_block (w := w) (a := ⟨b, o, none⟩) (h.block b hb hO)

/-- a world that has only grown since x -/
structure Wx (x : World) where
  val : World
  ext : Ext x val

/-- what a slot holds -/
def slot (a : Act) (d : Tmp) : Value := a.tmps.getD d undef
theorem slot_put_ne {a : Act} {dst : Option Tmp} {v : Value} {d : Tmp} (h : dst ≠ some d) : slot (a.put dst v) d = slot a d := by
  cases dst with
  | none => rfl
  | some e =>
    have hne : e ≠ d := fun k => h (by rw [k])
    simp [slot, Act.put, Array.getElem?_setIfInBounds_ne hne]
theorem slot_put_eq {a : Act} {v : Value} {d : Tmp} (h : d < a.tmps.size) : slot (a.put (some d) v) d = v := by
  simp [slot, Act.put, h]
theorem slot_out {a : Act} {d : Tmp} (h : a.tmps.size ≤ d) : slot a d = undef := by
  simp [slot, h]
theorem size_put (a : Act) (dst : Option Tmp) (v : Value) : (a.put dst v).tmps.size = a.tmps.size := by cases dst <;> simp [Act.put]
theorem defers_put (a : Act) (dst : Option Tmp) (v : Value) : (a.put dst v).defers = a.defers := by cases dst <;> rfl
theorem getElem?_of_slot {a b : Act} {d : Tmp} (hs : a.tmps.size = b.tmps.size) (h : slot a d = slot b d) : a.tmps[d]? = b.tmps[d]? := by
  rcases Nat.lt_or_ge d a.tmps.size with k | k
  · have k' : d < b.tmps.size := hs ▸ k
    simp [slot, k, k'] at h
    simp [k, k', h]
  · have k' : b.tmps.size ≤ d := hs ▸ k
    rw [Array.getElem?_eq_none k, Array.getElem?_eq_none k']

section
variable {P : Program}

/-- what the walk of the text's order tells of each operation -/
theorem quiet_lex {C : World → Prop} {F : Act} {ops' : Array Oper} : ∀ (l : List Oper) (a : Act), wpQuiet P ops' C (fun a' => a' = F) l a →
    (F.defers = a.defers ∧ F.tmps.size = a.tmps.size ∧ ∀ d, (∀ (j : Nat) (o' : Oper), l[j]? = some o' → o'.dst ≠ some d) → slot F d = slot a d) ∧
    ∀ (i : Nat) (o : Oper), l[i]? = some o → ∃ (b : Act) (v : Value), b.tmps.size = a.tmps.size ∧
      (∀ d, (∀ (j : Nat) (o' : Oper), j < i → l[j]? = some o' → o'.dst ≠ some d) → slot b d = slot a d) ∧
      (∀ d, (∀ (j : Nat) (o' : Oper), i ≤ j → l[j]? = some o' → o'.dst ≠ some d) → slot F d = slot b d) ∧
      (Region.wanted o (yielded ops' b.tmps) = true → ∀ w, C w → o.quietAt P b C w v) ∧ (Region.wanted o (yielded ops' b.tmps) = false → v = undef) ∧
      (∀ d, o.dst = some d → (∀ (j : Nat) (o' : Oper), i < j → l[j]? = some o' → o'.dst ≠ some d) → d < a.tmps.size → slot F d = v)
  | [], a, h => by
    have h' : a = F := h
    subst h'
    exact ⟨⟨rfl, rfl, fun _ _ => rfl⟩, fun i o hi => by simp at hi⟩
  | o :: rest, a, h => by
    obtain ⟨v, hy, hn, hr⟩ : ∃ v, (Region.wanted o (yielded ops' a.tmps) = true → ∀ w, C w → o.quietAt P a C w v) ∧ (Region.wanted o (yielded ops' a.tmps) = false → v = undef) ∧ wpQuiet P ops' C (fun a' => a' = F) rest (a.put o.dst v) := by
      simp only [wpQuiet] at h
      by_cases hw : Region.wanted o (yielded ops' a.tmps) = true
      · rw [if_pos hw] at h
        obtain ⟨v, h1, h2⟩ := h
        exact ⟨v, fun _ => h1, fun k => (by rw [hw] at k; cases k), h2⟩
      · rw [if_neg hw] at h
        exact ⟨undef, fun k => absurd k hw, fun _ => rfl, h⟩
    obtain ⟨⟨f1, f2, f3⟩, g⟩ := quiet_lex rest _ hr
    rw [defers_put] at f1
    rw [size_put] at f2
    have nothead : ∀ d, (∀ (j : Nat) (o' : Oper), (o :: rest)[j]? = some o' → o'.dst ≠ some d) → o.dst ≠ some d := fun d hd => hd 0 o rfl
    refine ⟨⟨f1, f2, fun d hd => ?_⟩, fun i oi hi => ?_⟩
    · rw [f3 d (fun j o' hj => hd (j + 1) o' (by simpa using hj)), slot_put_ne (nothead d hd)]
    · cases i with
      | zero =>
        have e : o = oi := by simpa using hi
        subst e
        refine ⟨a, v, rfl, fun _ _ => rfl, fun d hd => ?_, hy, hn, fun d hd hl hlt => ?_⟩
        · rw [f3 d (fun j o' hj => hd (j + 1) o' (Nat.zero_le _) (by simpa using hj)), slot_put_ne (hd 0 o (Nat.le_refl _) rfl)]
        · rw [f3 d (fun j o' hj => hl (j + 1) o' (Nat.succ_pos _) (by simpa using hj)), hd, slot_put_eq hlt]
      | succ i =>
        obtain ⟨b, u, b1, b2, b3, b4, b5, b6⟩ := g i oi (by simpa using hi)
        rw [size_put] at b1
        refine ⟨b, u, b1, fun d hd => ?_, fun d hd => b3 d (fun j o' hj h' => hd (j + 1) o' (by omega) (by simpa using h')), b4, b5, fun d hd hl hlt => b6 d hd (fun j o' hj h' => hl (j + 1) o' (by omega) (by simpa using h')) (by rw [size_put]; exact hlt)⟩
        rw [b2 d (fun j o' hj h' => hd (j + 1) o' (by omega) (by simpa using h')), slot_put_ne (hd 0 o (Nat.succ_pos _) rfl)]

/-- operation i waits for operation k -/
def waitsB (l : List Oper) (i k : Nat) : Bool :=
  match l[i]? with
  | some o => o.after.any fun e => Region.binds .any e && e.on == k
  | none => false
theorem waitsB_spec {l : List Oper} {i k : Nat} {o : Oper} (ho : l[i]? = some o) (h : waitsB l i k = true) : ∃ e ∈ o.after, Region.binds .any e = true ∧ e.on = k := by
  unfold waitsB at h
  rw [ho] at h
  obtain ⟨e, he, hb⟩ := Array.any_eq_true'.1 h
  simp only [Bool.and_eq_true, beq_iff_eq] at hb
  exact ⟨e, he, hb.1, hb.2⟩

/-- the marked operations do nothing (the walk of the text's order passes over them) -/
def eraseM : List Bool → List Oper → List Oper
  | true :: ms, o :: r => { o with op := .move (.const undef) } :: eraseM ms r
  | false :: ms, o :: r => o :: eraseM ms r
  | [], r => r
  | _ :: _, [] => []
theorem eraseM_get : ∀ (m : List Bool) (l : List Oper) (i : Nat), (eraseM m l)[i]? = (l[i]?).map fun o => if m.getD i false then { o with op := .move (.const undef) } else o
  | [], l, i => by simp [eraseM]
  | true :: ms, [], i => by simp [eraseM]
  | false :: ms, [], i => by simp [eraseM]
  | true :: ms, o :: r, 0 => by simp [eraseM]
  | false :: ms, o :: r, 0 => by simp [eraseM]
  | true :: ms, o :: r, i + 1 => by simpa [eraseM] using eraseM_get ms r i
  | false :: ms, o :: r, i + 1 => by simpa [eraseM] using eraseM_get ms r i

/-- what is asked of a region: each slot has one writer; what an operation looks at is written by operations that it waits for, or that wait for it; the marked operations alone write and look at the slots bs -/
def calmOp (l : List Oper) (m : List Bool) (bs : List Tmp) (i : Nat) (oi : Oper) : Bool :=
  oi.after.all (fun e => !Region.binds .any e || decide (e.on < i)) &&
  (match oi.dst with | some d => m.getD i false == bs.contains d | none => true) &&
  ((List.range l.length).all fun k => k == i || match l[k]? with | some ok => oi.dst.isNone || oi.dst != ok.dst | none => true) &&
  ((oi.looksAt l.toArray).all fun d => if bs.contains d then m.getD i false else (List.range l.length).all fun k => match l[k]? with
    | some ok => ok.dst != some d || (decide (k < i) && waitsB l i k) || (!m.getD i false && decide (i < k) && waitsB l k i)
    | none => true) &&
  (!m.getD i false || oi.guard.isNone)
def calmB (l : List Oper) (m : List Bool) (bs : List Tmp) : Bool :=
  Region.noSelect l.toArray && (List.range l.length).all fun i => match l[i]? with | some oi => calmOp l m bs i oi | none => true

structure CalmOp (l : List Oper) (m : List Bool) (bs : List Tmp) (i : Nat) (oi : Oper) : Prop where
  back : ∀ e ∈ oi.after, Region.binds .any e = true → e.on < i
  own : ∀ d, oi.dst = some d → m.getD i false = bs.contains d
  one : ∀ k ok d, l[k]? = some ok → k ≠ i → oi.dst = some d → ok.dst ≠ some d
  look : ∀ d ∈ oi.looksAt l.toArray, (bs.contains d = true → m.getD i false = true) ∧ (bs.contains d = false → ∀ (k : Nat) (ok : Oper), l[k]? = some ok → ok.dst = some d → (k < i ∧ waitsB l i k = true) ∨ (m.getD i false = false ∧ i < k ∧ waitsB l k i = true))
  free : m.getD i false = true → oi.guard = none

theorem calmB_spec {l : List Oper} {m : List Bool} {bs : List Tmp} (h : calmB l m bs = true) : Region.noSelect l.toArray = true ∧ ∀ i oi, l[i]? = some oi → CalmOp l m bs i oi := by
  simp only [calmB, Bool.and_eq_true] at h
  refine ⟨h.1, fun i oi hi => ?_⟩
  have hlt : i < l.length := (List.getElem?_eq_some_iff.1 hi).1
  have h1 := List.all_eq_true.1 h.2 i (List.mem_range.2 hlt)
  simp only [hi, calmOp, Bool.and_eq_true] at h1
  obtain ⟨⟨⟨⟨a1, a2⟩, a3⟩, a4⟩, a5⟩ := h1
  refine ⟨fun e he hb => by simpa [hb] using Array.all_eq_true_iff_forall_mem.1 a1 e he, fun d hd => by simpa [hd] using a2, fun k ok d hk hne hd => ?_, fun d hd => ⟨fun hb => ?_, fun hb k ok hk hkd => ?_⟩, fun hm => ?_⟩
  · have hkl : k < l.length := (List.getElem?_eq_some_iff.1 hk).1
    have := List.all_eq_true.1 a3 k (List.mem_range.2 hkl)
    simp only [hk, hd, Bool.or_eq_true, beq_iff_eq, Option.isNone_some, Bool.false_eq_true, false_or, bne_iff_ne, ne_eq] at this
    rcases this with h | h
    · exact absurd h hne
    · exact fun k => h k.symm
  · have := List.all_eq_true.1 a4 d hd
    simpa only [hb, if_true] using this
  · have h2 := List.all_eq_true.1 a4 d hd
    simp only [hb, Bool.false_eq_true, if_false] at h2
    have hkl : k < l.length := (List.getElem?_eq_some_iff.1 hk).1
    have := List.all_eq_true.1 h2 k (List.mem_range.2 hkl)
    simp only [hk, hkd, bne_self_eq_false, Bool.false_or, Bool.or_eq_true, Bool.and_eq_true, decide_eq_true_eq, Bool.not_eq_true'] at this
    rcases this with h | h
    · exact .inl h
    · exact .inr ⟨h.1.1, h.1.2, h.2⟩
  · rw [hm] at a5
    simpa using a5

/-- how many have not come up -/
def cnt : List Bool → Nat
  | [] => 0
  | true :: r => cnt r
  | false :: r => cnt r + 1
theorem cnt_set : ∀ (l : List Bool) (i : Nat), l[i]? = some false → cnt (l.set i true) + 1 = cnt l
  | [], i, h => by simp at h
  | b :: r, 0, h => by
    have : b = false := by simpa using h
    subst this; rfl
  | true :: r, i + 1, h => by simpa [cnt] using cnt_set r i (by simpa using h)
  | false :: r, i + 1, h => by simpa [cnt] using cnt_set r i (by simpa using h)
theorem cnt_zero : ∀ (l : List Bool) (i : Nat), cnt l = 0 → l[i]? ≠ some false
  | [], i, _ => by simp
  | true :: r, 0, _ => by simp
  | true :: r, i + 1, h => by simpa using cnt_zero r i (by simpa [cnt] using h)
  | false :: r, i, h => by simp [cnt] at h
theorem cnt_replicate : ∀ n : Nat, cnt (List.replicate n false) = n
  | 0 => rfl
  | n + 1 => by simp [List.replicate_succ, cnt, cnt_replicate n]

structure CInv (l : List Oper) (bs : List Tmp) (a0 F : Act) (listed : Array Bool) (c : Act) : Prop where
  lsz : listed.size = l.length
  closed : ∀ j oj, l[j]? = some oj → listed.getD j false = true → ∀ e ∈ oj.after, Region.binds .any e = true → listed.getD e.on false = true
  df : c.defers = a0.defers
  sz : c.tmps.size = a0.tmps.size
  yes : ∀ d, bs.contains d = false → ∀ (k : Nat) (ok : Oper), l[k]? = some ok → ok.dst = some d → listed.getD k false = true → slot c d = slot F d
  no : ∀ d, bs.contains d = false → (∀ (k : Nat) (ok : Oper), l[k]? = some ok → ok.dst = some d → listed.getD k false = false) → slot c d = slot a0 d

theorem getD_at {listed : Array Bool} {i : Nat} (h : i < listed.size) : (listed.setIfInBounds i true).getD i false = true := by simp [h]
theorem getD_f {listed : Array Bool} {i : Nat} (h : listed.getD i true = false) : listed.getD i false = false ∧ i < listed.size := by
  rcases Nat.lt_or_ge i listed.size with h' | h'
  · simp [h'] at h ⊢; exact h
  · simp [Array.getElem?_eq_none h'] at h
theorem getD_sub {listed : Array Bool} {i j : Nat} (h : (listed.setIfInBounds i true).getD j false = false) : listed.getD j false = false := by
  cases hl : listed.getD j false with
  | false => rfl
  | true => rw [getD_set_true hl] at h; cases h

theorem CInv.step {l : List Oper} {m : List Bool} {bs : List Tmp} {a0 F c : Act} {listed : Array Bool} {i : Nat} {oi : Oper} {v : Value} (inv : CInv l bs a0 F listed c) (hF : F.tmps.size = a0.tmps.size)
    (hsp : ∀ i oi, l[i]? = some oi → CalmOp l m bs i oi) (hi : l[i]? = some oi) (hr : i ∈ Region.ready .any l.toArray listed)
    (hv : ∀ d, bs.contains d = false → oi.dst = some d → d < a0.tmps.size → slot F d = v) : CInv l bs a0 F (listed.setIfInBounds i true) (c.put oi.dst v) := by
  obtain ⟨hun, oi', hoi', hall⟩ := mem_ready.1 hr
  have e : oi' = oi := by
    have := hoi'
    rw [List.getElem?_toArray, hi] at this
    exact (Option.some.inj this).symm
  subst e
  obtain ⟨hunf, hlt⟩ := getD_f hun
  refine ⟨by simp [inv.lsz], fun j oj hj hl e he hb => ?_, by rw [defers_put, inv.df], by rw [size_put, inv.sz], fun d hd k ok hk hkd hl => ?_, fun d hd hno => ?_⟩
  · by_cases hij : i = j
    · subst hij
      have : oj = oi' := Option.some.inj (hj.symm.trans hi)
      subst this
      exact getD_set_true (hall e he hb)
    · rw [getD_set_ne false hij] at hl
      exact getD_set_true (inv.closed j oj hj hl e he hb)
  · by_cases hij : i = k
    · subst hij
      have : ok = oi' := Option.some.inj (hk.symm.trans hi)
      subst this
      rcases Nat.lt_or_ge d a0.tmps.size with hb | hb
      · rw [hkd, slot_put_eq (by rw [inv.sz]; exact hb), hv d hd hkd hb]
      · rw [slot_out (by rw [size_put, inv.sz]; exact hb), slot_out (by rw [hF]; exact hb)]
    · rw [getD_set_ne false hij] at hl
      rw [slot_put_ne ((hsp k ok hk).one i oi' d hi hij hkd)]
      exact inv.yes d hd k ok hk hkd hl
  · have hne : oi'.dst ≠ some d := fun k => by
      have := hno i oi' hi k
      rw [getD_at hlt] at this
      cases this
    rw [slot_put_ne hne]
    exact inv.no d hd fun k ok hk hkd => getD_sub (hno k ok hk hkd)

theorem erase_dst (m : List Bool) (l : List Oper) (j : Nat) : (((eraseM m l).toArray)[j]?).bind (·.dst) = ((l.toArray)[j]?).bind (·.dst) := by
  rw [List.getElem?_toArray, List.getElem?_toArray, eraseM_get]
  cases l[j]? with
  | none => rfl
  | some o => simp only [Option.map_some, Option.bind_some]; split <;> rfl

/-- THE REGION -/
theorem wpAny_calm {l : List Oper} {m : List Bool} {bs : List Tmp} {O : List Nat} {w0 : World} {a0 F : Act} {Q : Exit → Act → World → Prop} {J : Array Bool → Act → World → Prop}
    (hB : calmB l m bs = true)
    (D : World → Prop) (D0 : D w0) (HD : ∀ (listed : Array Bool) (i : Nat) (w : World), m.getD i false = false → listed.getD i false = false → i < l.length →
      (∀ j oj, l[j]? = some oj → listed.getD j false = true → ∀ e ∈ oj.after, Region.binds .any e = true → listed.getD e.on false = true) → Calm O w0 w → ((∀ k, m.getD k false = true → listed.getD k false = false) → Ext w0 w) → (∃ c, J listed c w) → D w)
    (H : ∀ x, D x → wpQuiet P (eraseM m l).toArray (fun w' => ∃ y : Wx x, w' = y.val) (fun a' => a' = F) (eraseM m l) a0)
    (JA : ∀ listed c w w' i o v, l[i]? = some o → m.getD i false = false → i ∈ Region.ready .any l.toArray listed → Ext w w' → J listed c w → J (listed.setIfInBounds i true) (c.put o.dst v) w')
    (JB : ∀ listed c w i o, l[i]? = some o → m.getD i false = true → i ∈ Region.ready .any l.toArray listed → Calm O w0 w → J listed c w → c.tmps.size = a0.tmps.size → (∀ d ∈ o.looksAt l.toArray, bs.contains d = false → slot c d = slot F d) →
      o.wp P c w (fun c' w' => ∃ v, c' = c.put o.dst v ∧ Calm O w0 w' ∧ J (listed.setIfInBounds i true) c' w') Q)
    (hfin : ∀ c w, Calm O w0 w → c.defers = F.defers → c.tmps.size = F.tmps.size → (∀ d, bs.contains d = false → slot c d = slot F d) → J (Array.replicate l.length true) c w → Q .normal c w) :
    ∀ (n : Nat) (listed : Array Bool) (c : Act) (w : World), cnt listed.toList = n → CInv l bs a0 F listed c → Calm O w0 w → ((∀ k, m.getD k false = true → listed.getD k false = false) → Ext w0 w) → J listed c w → wpAny P .any l.toArray Q n listed c w := by
  obtain ⟨hsel, hsp⟩ := calmB_spec hB
  obtain ⟨⟨F1, F2, F3⟩, _⟩ := quiet_lex _ _ (H w0 D0)
  have F3' : ∀ d, (∀ (k : Nat) (ok : Oper), l[k]? = some ok → ok.dst ≠ some d) → slot F d = slot a0 d := fun d hd => F3 d fun j o' hj => by
    rw [eraseM_get] at hj
    obtain ⟨o, ho, rfl⟩ := Option.map_eq_some_iff.1 hj
    have := hd j o ho
    split <;> exact this
  -- nothing is ready: all have come up
  have allDone : ∀ (listed : Array Bool) (c : Act) (w : World), CInv l bs a0 F listed c → Calm O w0 w → J listed c w → Region.ready .any l.toArray listed = [] → Q .normal c w := by
    intro listed c w inv hw hJ h0
    have hall : ∀ i, i < l.length → listed.getD i false = true := by
      intro i
      induction i using Nat.strongRecOn with
      | _ i ih =>
        intro hi
        cases hl : listed.getD i false with
        | true => rfl
        | false =>
          have hoi : l[i]? = some l[i] := List.getElem?_eq_getElem hi
          have : i ∈ Region.ready .any l.toArray listed := by
            refine mem_ready.2 ⟨?_, l[i], by rw [List.getElem?_toArray]; exact hoi, fun e he hb => ?_⟩
            · have hs : i < listed.size := by rw [inv.lsz]; exact hi
              simp [hs] at hl ⊢; exact hl
            · have hlt := (hsp i _ hoi).back e he hb
              exact ih e.on hlt (by omega)
          rw [h0] at this
          cases this
    have hrep : listed = Array.replicate l.length true := by
      apply Array.ext
      · simp [inv.lsz]
      · intro i h1 h2
        have := hall i (by rw [← inv.lsz]; exact h1)
        simp [h1] at this
        simp [this]
    refine hfin c w hw (inv.df.trans F1.symm) (inv.sz.trans F2.symm) (fun d hd => ?_) (hrep ▸ hJ)
    by_cases hex : ∃ (k : Nat) (ok : Oper), l[k]? = some ok ∧ ok.dst = some d
    · obtain ⟨k, ok, hk, hkd⟩ := hex
      exact inv.yes d hd k ok hk hkd (hall k (List.getElem?_eq_some_iff.1 hk).1)
    · have hno : ∀ (k : Nat) (ok : Oper), l[k]? = some ok → ok.dst ≠ some d := fun k ok hk hkd => hex ⟨k, ok, hk, hkd⟩
      rw [F3' d hno]
      exact inv.no d hd fun k ok hk hkd => absurd hkd (hno k ok hk)
  intro n
  induction n with
  | zero =>
    intro listed c w hn inv hw hE hJ
    have h0 : Region.ready .any l.toArray listed = [] := by
      rw [List.eq_nil_iff_forall_not_mem]
      intro i hi
      obtain ⟨hun, _⟩ := mem_ready.1 hi
      obtain ⟨hf, hlt⟩ := getD_f hun
      refine cnt_zero listed.toList i hn ?_
      simp [hlt] at hf
      simp [hlt, hf]
    exact ⟨h0, allDone listed c w inv hw hJ h0⟩
  | succ n ih =>
    intro listed c w hn inv hw hE hJ
    refine ⟨allDone listed c w inv hw hJ, fun i hi => ?_⟩
    obtain ⟨hun, oi, hoi, hall⟩ := mem_ready.1 hi
    rw [List.getElem?_toArray] at hoi
    obtain ⟨hf, hlt⟩ := getD_f hun
    have hcnt : cnt (listed.setIfInBounds i true).toList = n := by
      have := cnt_set listed.toList i (by simp [hlt] at hf; simp [hlt, hf])
      simp only [Array.toList_setIfInBounds]
      omega
    have sp := hsp i oi hoi
    unfold wpOp
    rw [List.getElem?_toArray, hoi]
    simp only
    by_cases hm : m.getD i false = true
    · -- a marked operation
      have hg : Region.wanted oi (yielded l.toArray c.tmps) = true := by unfold Region.wanted; rw [sp.free hm]
      rw [if_pos hg]
      have hlook : ∀ d ∈ oi.looksAt l.toArray, bs.contains d = false → slot c d = slot F d := by
        intro d hd hb
        by_cases hex : ∃ (k : Nat) (ok : Oper), l[k]? = some ok ∧ ok.dst = some d
        · obtain ⟨k, ok, hk, hkd⟩ := hex
          rcases (sp.look d hd).2 hb k ok hk hkd with ⟨hki, hwt⟩ | ⟨hm', _⟩
          · obtain ⟨e, he, heb, heo⟩ := waitsB_spec hoi hwt
            exact inv.yes d hb k ok hk hkd (heo ▸ hall e he heb)
          · rw [hm] at hm'; cases hm'
        · have hno : ∀ (k : Nat) (ok : Oper), l[k]? = some ok → ok.dst ≠ some d := fun k ok hk hkd => hex ⟨k, ok, hk, hkd⟩
          rw [F3' d hno]
          exact inv.no d hb fun k ok hk hkd => absurd hkd (hno k ok hk)
      refine .inl (Oper.wp_mono (fun c' w' hh => ?_) (JB listed c w i oi hoi hm hi hw hJ inv.sz hlook))
      obtain ⟨v, rfl, hw', hJ'⟩ := hh
      refine ih _ _ _ hcnt (inv.step F2 hsp hoi hi fun d hd hdd _ => ?_) hw' (fun hk => by have := hk i hm; rw [getD_at hlt] at this; cases this) hJ'
      have := sp.own d hdd
      rw [hm, hd] at this
      cases this
    · -- one of the text's order
      have hm' : m.getD i false = false := by simpa using hm
      obtain ⟨_, g⟩ := quiet_lex _ _ (H w (HD listed i w hm' hf (List.getElem?_eq_some_iff.1 hoi).1 inv.closed hw hE ⟨_, hJ⟩))
      have hei : (eraseM m l)[i]? = some oi := by rw [eraseM_get, hoi, Option.map_some, hm']; rfl
      obtain ⟨b, v, b1, b2, b3, b4, b5, b6⟩ := g i oi hei
      have writer : ∀ (j : Nat) (o' : Oper) (d : Tmp), (eraseM m l)[j]? = some o' → o'.dst = some d → ∃ ok, l[j]? = some ok ∧ ok.dst = some d := by
        intro j o' d hj hd
        rw [eraseM_get] at hj
        obtain ⟨o, ho, rfl⟩ := Option.map_eq_some_iff.1 hj
        refine ⟨o, ho, ?_⟩
        split at hd <;> exact hd
      have same : ∀ d ∈ oi.looksAt l.toArray, slot c d = slot b d := by
        intro d hd
        have hb : bs.contains d = false := by
          cases hc : bs.contains d with
          | false => rfl
          | true => rw [(sp.look d hd).1 hc] at hm'; cases hm'
        by_cases hex : ∃ (k : Nat) (ok : Oper), l[k]? = some ok ∧ ok.dst = some d
        · obtain ⟨k, ok, hk, hkd⟩ := hex
          rcases (sp.look d hd).2 hb k ok hk hkd with ⟨hki, hwt⟩ | ⟨_, hik, hwt⟩
          · obtain ⟨e, he, heb, heo⟩ := waitsB_spec hoi hwt
            rw [inv.yes d hb k ok hk hkd (heo ▸ hall e he heb)]
            refine b3 d fun j o' hj ho' hdd => ?_
            obtain ⟨oj, hoj, hojd⟩ := writer j o' d ho' hdd
            exact (hsp k ok hk).one j oj d hoj (by omega) hkd hojd
          · have hknl : listed.getD k false = false := by
              cases hl : listed.getD k false with
              | false => rfl
              | true =>
                obtain ⟨e, he, heb, heo⟩ := waitsB_spec hk hwt
                have := inv.closed k ok hk hl e he heb
                rw [heo, hf] at this
                cases this
            rw [inv.no d hb fun j oj hj hjd => by
              by_cases hjk : j = k
              · subst hjk; exact hknl
              · exact absurd hjd ((hsp k ok hk).one j oj d hj hjk hkd)]
            refine (b2 d fun j o' hj ho' hdd => ?_).symm
            obtain ⟨oj, hoj, hojd⟩ := writer j o' d ho' hdd
            exact (hsp k ok hk).one j oj d hoj (by omega) hkd hojd
        · have hno : ∀ (k : Nat) (ok : Oper), l[k]? = some ok → ok.dst ≠ some d := fun k ok hk hkd => hex ⟨k, ok, hk, hkd⟩
          rw [inv.no d hb fun k ok hk hkd => absurd hkd (hno k ok hk)]
          refine (b2 d fun j o' hj ho' hdd => ?_).symm
          obtain ⟨oj, hoj, hojd⟩ := writer j o' d ho' hdd
          exact hno j oj hoj hojd
      have hex : execOp c.eval oi = execOp b.eval oi := execOp_congr oi (fun cs bb => Region.noSelect_spec hsel i oi cs bb (by rw [List.getElem?_toArray]; exact hoi)) fun x hx => by
        cases x with
        | tmp t => exact same t (List.mem_append_left _ (List.mem_filterMap.2 ⟨.tmp t, by simpa using hx, rfl⟩))
        | _ => rfl
      have hwant : Region.wanted oi (yielded l.toArray c.tmps) = Region.wanted oi (yielded (eraseM m l).toArray b.tmps) := by
        unfold Region.wanted
        cases hg : oi.guard with
        | none => rfl
        | some gw =>
          obtain ⟨g, want⟩ := gw
          simp only [yielded, erase_dst]
          cases hgd : (l.toArray[g]?).bind (·.dst) with
          | none => rfl
          | some d =>
            have hd : d ∈ oi.looksAt l.toArray := List.mem_append_right _ (by simp only [hg, hgd]; simp)
            simp only [Option.bind_some]
            rw [getElem?_of_slot (inv.sz.trans b1.symm) (same d hd)]
      have hval : ∀ d, bs.contains d = false → oi.dst = some d → d < a0.tmps.size → slot F d = v := fun d _ hdd hlt' => b6 d hdd (fun j o' hj ho' hjd => by
        obtain ⟨oj, hoj, hojd⟩ := writer j o' d ho' hjd
        exact sp.one j oj d hoj (by omega) hdd hojd) hlt'
      have next : ∀ w', Ext w w' → wpAny P .any l.toArray Q n (listed.setIfInBounds i true) (c.put oi.dst v) w' := fun w' he =>
        ih _ _ _ hcnt (inv.step F2 hsp hoi hi hval) (hw.trans (he.calm O)) (fun hk => (hE fun k hmk => getD_sub (hk k hmk)).trans he) (JA listed c w w' i oi v hoi hm' hi he hJ)
      by_cases hwt : Region.wanted oi (yielded l.toArray c.tmps) = true
      · rw [if_pos hwt]
        have hq := b4 (hwant ▸ hwt) w ⟨⟨w, Ext.refl w⟩, rfl⟩
        refine .inl ?_
        unfold Oper.wp
        unfold Oper.quietAt at hq
        rw [hex]
        generalize (execOp b.eval oi).run P w = r at *
        cases r with
        | ok nx w' =>
          cases nx <;> simp only [Oper.quietUpon] at hq <;> simp only [Oper.upon]
          case value u =>
            obtain ⟨e1, e2⟩ := hq
            rw [e1, e2]
            exact next w (Ext.refl w)
          case skip =>
            obtain ⟨e1, e2⟩ := hq
            rw [e1, ← e2]
            exact next w (Ext.refl w)
          case enter f args =>
            obtain ⟨e1, hc⟩ := hq
            rw [e1]
            refine hc.mono fun e w'' hh => ?_
            obtain ⟨he, ⟨y, hy⟩, hwy⟩ := hh
            subst he
            have hwy' : w'' = y := hwy
            subst hwy'
            exact next _ hy
        | halt x w' => simp only [Oper.quietUpon] at hq
      · rw [if_neg hwt, ← b5 (by rw [← hwant]; simpa using hwt)]
        exact next w (Ext.refl w)

theorem rep_false (n j : Nat) : (Array.replicate n false).getD j false = false := by
  rcases Nat.lt_or_ge j n with h | h
  · simp [h]
  · simp [h]

theorem wp_region_calm_gen {id : Nat} {l : List Oper} (m : List Bool) (bs : List Tmp) (O : List Nat) {w : World} {a : Act} (F : Act) {Q : Exit → Act → World → Prop} (J : Array Bool → Act → World → Prop) (hm : P.follows .mixedOrders = true)
    (hB : calmB l m bs = true) (D : World → Prop) (D0 : D w) (HD : ∀ (listed : Array Bool) (i : Nat) (u : World), m.getD i false = false → listed.getD i false = false → i < l.length →
      (∀ j oj, l[j]? = some oj → listed.getD j false = true → ∀ e ∈ oj.after, Region.binds .any e = true → listed.getD e.on false = true) → Calm O w u → ((∀ k, m.getD k false = true → listed.getD k false = false) → Ext w u) → (∃ c, J listed c u) → D u)
    (H : ∀ x, D x → wpQuiet P (eraseM m l).toArray (fun w' => ∃ y : Wx x, w' = y.val) (fun a' => a' = F) (eraseM m l) a)
    (J0 : J (Array.replicate l.length false) a w.drew)
    (JA : ∀ listed c w w' i o v, l[i]? = some o → m.getD i false = false → i ∈ Region.ready .any l.toArray listed → Ext w w' → J listed c w → J (listed.setIfInBounds i true) (c.put o.dst v) w')
    (JB : ∀ listed c u i o, l[i]? = some o → m.getD i false = true → i ∈ Region.ready .any l.toArray listed → Calm O w u → J listed c u → c.tmps.size = a.tmps.size → (∀ d ∈ o.looksAt l.toArray, bs.contains d = false → slot c d = slot F d) →
      o.wp P c u (fun c' w' => ∃ v, c' = c.put o.dst v ∧ Calm O w w' ∧ J (listed.setIfInBounds i true) c' w') Q)
    (hfin : ∀ c w', Calm O w w' → c.defers = F.defers → c.tmps.size = F.tmps.size → (∀ d, bs.contains d = false → slot c d = slot F d) → J (Array.replicate l.length true) c w' → Q .normal c w') :
    (Code.region id l.toArray true).wp P Q a w := by
  refine wp_region_any hm ?_
  have h := wpAny_calm hB D D0 HD H JA JB hfin l.length (Array.replicate l.length false) a w.drew (by simp [cnt_replicate]) ⟨by simp, fun j oj _ hl => (by rw [rep_false] at hl; cases hl), rfl, rfl, fun d _ k ok _ _ hl => (by rw [rep_false] at hl; cases hl), fun d _ _ => rfl⟩ ((Ext.refl w).drew.calm O) (fun _ => (Ext.refl w).drew) J0
  simpa using h

theorem wp_region_calm {id : Nat} {l : List Oper} (m : List Bool) (bs : List Tmp) (O : List Nat) {w : World} {a : Act} (F : Act) {Q : Exit → Act → World → Prop} (J : Array Bool → Act → World → Prop) (hm : P.follows .mixedOrders = true)
    (hB : calmB l m bs = true)
    (H : ∀ x, Calm O w x → wpQuiet P (eraseM m l).toArray (fun w' => ∃ y : Wx x, w' = y.val) (fun a' => a' = F) (eraseM m l) a)
    (J0 : J (Array.replicate l.length false) a w.drew)
    (JA : ∀ listed c w w' i o v, l[i]? = some o → m.getD i false = false → i ∈ Region.ready .any l.toArray listed → Ext w w' → J listed c w → J (listed.setIfInBounds i true) (c.put o.dst v) w')
    (JB : ∀ listed c u i o, l[i]? = some o → m.getD i false = true → i ∈ Region.ready .any l.toArray listed → Calm O w u → J listed c u → c.tmps.size = a.tmps.size → (∀ d ∈ o.looksAt l.toArray, bs.contains d = false → slot c d = slot F d) →
      o.wp P c u (fun c' w' => ∃ v, c' = c.put o.dst v ∧ Calm O w w' ∧ J (listed.setIfInBounds i true) c' w') Q)
    (hfin : ∀ c w', Calm O w w' → c.defers = F.defers → c.tmps.size = F.tmps.size → (∀ d, bs.contains d = false → slot c d = slot F d) → J (Array.replicate l.length true) c w' → Q .normal c w') :
    (Code.region id l.toArray true).wp P Q a w :=
  wp_region_calm_gen m bs O F J hm hB (fun x => Calm O w x) (Calm.refl _ _) (fun _ _ _ _ _ _ _ h _ _ => h) H J0 JA JB hfin

/-- operation j waits for operation i, by way of others -/
def befB (l : List Oper) : Nat → Nat → Nat → Bool
  | 0, _, _ => false
  | n + 1, i, j => waitsB l j i || (List.range j).any fun k => waitsB l j k && befB l n i k
theorem befB_spec {l : List Oper} {listed : Array Bool} (hc : ∀ j oj, l[j]? = some oj → listed.getD j false = true → ∀ e ∈ oj.after, Region.binds .any e = true → listed.getD e.on false = true) :
    ∀ (n i j : Nat), j < l.length → befB l n i j = true → listed.getD j false = true → listed.getD i false = true
  | 0, _, _, _, h, _ => by cases h
  | n + 1, i, j, hj, h, hl => by
    have hoj : l[j]? = some l[j] := List.getElem?_eq_getElem hj
    simp only [befB, Bool.or_eq_true] at h
    rcases h with h | h
    · obtain ⟨e, he, hb, ho⟩ := waitsB_spec hoj h
      exact ho ▸ hc j _ hoj hl e he hb
    · obtain ⟨k, hk, hh⟩ := List.any_eq_true.1 h
      simp only [Bool.and_eq_true] at hh
      obtain ⟨e, he, hb, ho⟩ := waitsB_spec hoj hh.1
      exact befB_spec hc n i k (Nat.lt_trans (List.mem_range.1 hk) hj) hh.2 (ho ▸ hc j _ hoj hl e he hb)
/-- all marked operations wait for all others -/
def earlyB (l : List Oper) (m : List Bool) (n : Nat) : Bool :=
  (List.range l.length).all fun i => m.getD i false || (List.range l.length).all fun j => !m.getD j false || befB l n i j
theorem early_spec {l : List Oper} {m : List Bool} {n : Nat} (h : earlyB l m n = true) {O : List Nat} {w : World} (hml : m.length ≤ l.length) (listed : Array Bool) (i : Nat) (u : World) (hm : m.getD i false = false) (hl : listed.getD i false = false) (hi : i < l.length)
    (hc : ∀ j oj, l[j]? = some oj → listed.getD j false = true → ∀ e ∈ oj.after, Region.binds .any e = true → listed.getD e.on false = true) (hE : (∀ k, m.getD k false = true → listed.getD k false = false) → Ext w u) : Ext w u := by
  refine hE fun k hk => ?_
  cases hlk : listed.getD k false with
  | false => rfl
  | true =>
    have hkl : k < l.length := by
      rcases Nat.lt_or_ge k m.length with h' | h'
      · omega
      · simp [List.getElem?_eq_none h'] at hk
    have h1 := List.all_eq_true.1 h i (List.mem_range.2 hi)
    rw [hm, Bool.false_or] at h1
    have h2 := List.all_eq_true.1 h1 k (List.mem_range.2 hkl)
    rw [hk] at h2
    have := befB_spec hc n i k hkl (by simpa using h2) hlk
    rw [hl] at this
    cases this

/-- a region without marked operations: it reads, and calls what only makes memory -/
theorem wp_region_reads {id : Nat} {l : List Oper} {w : World} {a : Act} {Q : Exit → Act → World → Prop} (hm : P.follows .mixedOrders = true) (hB : Region.lexB .any l.toArray = true)
    (h : wpQuiet P l.toArray (fun w' => ∃ y : Wx w, w' = y.val) (fun a' => ∀ w', Ext w w' → Q .normal a' w') l a) : (Code.region id l.toArray true).wp P Q a w := by
  have hx : Ext w { w with drawn := w.drawn + 1 } := (Ext.refl w).drew
  refine wp_region_quiet (C := fun w' => ∃ y : Wx w, w' = y.val) hm hB ⟨⟨_, hx⟩, rfl⟩ ?_
  have e : (fun a' => ∀ w', (∃ y : Wx w, w' = y.val) → Q .normal a' w') = (fun a' => ∀ w', Ext w w' → Q .normal a' w') := by
    funext a'
    apply propext
    constructor
    · intro k w' he; exact k w' ⟨⟨w', he⟩, rfl⟩
    · rintro k w' ⟨y, rfl⟩; exact k _ y.ext
  rw [e]
  simpa using h
end

end Go.Proofs.Ytjohcngmoemmbaa
