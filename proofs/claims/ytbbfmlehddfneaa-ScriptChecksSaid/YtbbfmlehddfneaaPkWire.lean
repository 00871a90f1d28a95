/-
  DERIVED. Slices of bytes of the call's own: what they hold, one byte appended, through draws, new blocks and stores elsewhere. · 'Step F F' w w'': a call on an object that lives in the blocks F: only these have turned, and the object lives in F' now. · The document's own answers for layer 4: azulejoref01.Count, Int. · Plain facts on numbers as bytes (layer 4). · Bytes that came in, appended to a slice of the call's own; as a string. · slices.Clone of bytes: what comes back is the call's own. · THE WALKS of layer 4 (wire): the Writer. · What a Writer keeps through new memory; a literal of bytes as a slice. · Plain facts on bytes that may be a number's (layer 4): how far it goes, what it comes to, whose bytes they are. · THE WALKS of layer 4 (wire): the Reader. · THE WALKS of layer 4 (wire): the Reader's numbers. · THE WALKS of layer 4 (wire): the Reader's numbers, read. · THE WALKS of layer 4 (wire): Count, Int, Within, Bytes, End; nil Readers. · THE WALKS of layer 4 (wire): Bytes of a Reader; nil Readers. · THE WALKS of layer 4 (wire): Bytes that aren't there; nil Readers. · bytes.Equal, bytes.HasPrefix, bytes.CutPrefix over slices that can be read.
-/
import Derived.Test.YtbbfmlehddfneaaPkFix
import Derived.Laws.AppendOwn
import Derived.OwnWalk
import Derived.Laws.BytesArg
import Derived.Laws.Cover3
import Derived.Deep.LoopGhost
import Derived.Laws.AppendOwnNone
import Derived.Lib.EndianBits
import Derived.Deep.QuietTactic
import Derived.BigQuiet
import Derived.Laws.BitsAllLaws
import Derived.StillTailTactics
namespace Go.Proofs.Ytbbfmlehddfneaa
open Go.RowKit
set_option linter.unusedVariables false

def bytesV (l : List Int) : List Value := l.map (Value.int .u8)
theorem bytesV_append (l m : List Int) : bytesV (l ++ m) = bytesV l ++ bytesV m := List.map_append
theorem bytesV_length (l : List Int) : (bytesV l).length = l.length := List.length_map ..
theorem bytesV_get (l : List Int) (j : Nat) (u : Value) (h : (bytesV l)[j]? = some u) : ∃ y, l[j]? = some y ∧ u = .int .u8 y := by
  simp only [bytesV, List.getElem?_map, Option.map_eq_some_iff] at h
  obtain ⟨y, h1, h2⟩ := h
  exact ⟨y, h1, h2.symm⟩
theorem bytesV_one (l : List Int) : ∀ u ∈ bytesV l, u.oneCell' = true := by
  intro u hu
  obtain ⟨y, _, rfl⟩ := List.mem_map.1 hu
  rfl

/-- v is a slice of the call's own (of a block from base on) and holds these bytes -/
def Own (w : World) (base : Nat) (v : Value) (l : List Int) : Prop := w.ownsRow base 5 1 v l.length (bytesV l)

theorem Own.lt {w : World} {base : Nat} {v : Value} {l : List Int} (h : Own w base v l) : ∀ k, v.ownBlock = some k → base ≤ k ∧ k < w.heap.size := World.ownsRow.lt h
theorem Own.nil (w : World) (base : Nat) : Own w base (.slice none 0 0) [] := World.ownsRow_nil w base _ 1
theorem Own.kept {w w' : World} {base : Nat} {v : Value} {l : List Int} (h : Own w base v l) (hb : ∀ k, v.ownBlock = some k → w'.heap[k]? = w.heap[k]?) : Own w' base v l := by
  obtain ⟨h1, h2⟩ := h
  refine ⟨h1, ?_⟩
  rcases h2 with h2 | ⟨g, cap, cur, rfl, a1, a2, a3, a4, a5, a6⟩
  · exact .inl h2
  · exact .inr ⟨g, cap, cur, rfl, a1, (hb g rfl).trans a2, a3, a4, a5, a6⟩
theorem Own.ext {w w' : World} {base : Nat} {v : Value} {l : List Int} (h : Own w base v l) (hx : Ext w w') : Own w' base v l := h.kept fun k hk => hx.block (h.lt k hk).2
theorem Own.calm {O : List Nat} {w w' : World} {base : Nat} {v : Value} {l : List Int} (h : Own w base v l) (hx : Calm O w w') (hO : ∀ k, v.ownBlock = some k → k ∉ O) : Own w' base v l := h.kept fun k hk => hx.block k (h.lt k hk).2 (hO k hk)
theorem Own.mono {w : World} {base base' : Nat} {v : Value} {l : List Int} (h : Own w base v l) (hb : base' ≤ base) : Own w base' v l := by
  obtain ⟨h1, h2⟩ := h
  refine ⟨h1, ?_⟩
  rcases h2 with h2 | ⟨g, cap, cur, rfl, a1, a2⟩
  · exact .inl h2
  · exact .inr ⟨g, cap, cur, rfl, Nat.le_trans hb a1, a2⟩

theorem Own.slice {w : World} {base : Nat} {v : Value} {l : List Int} (h : Own w base v l) : ∃ (ao : Option Addr) (c : Nat), v = .slice ao l.length c ∧ (ao = none → l = [] ∧ c = 0) ∧ ∀ a, ao = some a → a = ⟨a.block, 0, none⟩ := by
  rcases h.2 with ⟨rfl, h0⟩ | ⟨g, cap, cur, rfl, _⟩
  · have h0' : l = [] := List.eq_nil_of_length_eq_zero h0
    subst h0'
    exact ⟨none, 0, rfl, (fun _ => ⟨rfl, rfl⟩), (fun a ha => by cases ha)⟩
  · exact ⟨_, cap, rfl, (fun h => by cases h), (fun a ha => by cases ha; rfl)⟩
theorem Own.cellA {w : World} {base : Nat} {l : List Int} {g c : Nat} (h : Own w base (.slice (some ⟨g, 0, none⟩) l.length c) l) : ∀ j y, l[j]? = some y → w.cell? ((⟨g, 0, none⟩ : Addr).add j) = some (.int .u8 y) :=
  fun j y hj => World.ownsRow.cells h (g := g) rfl j (.int .u8 y) (by simp [bytesV, hj])
/-- the bytes where they lie -/
theorem Own.cell {w : World} {base : Nat} {l : List Int} {g c : Nat} (h : Own w base (.slice (some ⟨g, 0, none⟩) l.length c) l) : ∀ j y, l[j]? = some y → w.cell? ⟨g, j, none⟩ = some (.int .u8 y) := fun j y hj => by
  have := World.ownsRow.cells h (g := g) rfl j (.int .u8 y) (by simp [bytesV, hj])
  rcases Nat.eq_zero_or_pos j with h0 | h0
  · subst h0; simpa [Addr.add] using this
  · simpa [Addr.add, Nat.ne_of_gt h0] using this

/-- as a string -/
theorem Own.str {w : World} {base : Nat} {v : Value} {l : List Int} (h : Own w base v l) : (convert 29 9 v).run Try.prog w = .ok (.string (strOfNums l)) w := by
  obtain ⟨ao, c, rfl, h0, ha⟩ := h.slice
  cases ao with
  | none =>
    obtain ⟨rfl, rfl⟩ := h0 rfl
    exact run_convert_bytes_nil w 29 5 Try.underlying29 Try.underlying5 _ _ 9 Try.underlying9
  | some a =>
    obtain ⟨g, rfl⟩ : ∃ g, a = ⟨g, 0, none⟩ := ⟨a.block, ha a rfl⟩
    exact run_convert_bytes_arg w 29 5 Try.underlying29 Try.underlying5 g 0 l.length c l rfl (fun i hi => by
      rw [Nat.zero_add, h.cell i (l.getD i 0) (by simp [hi])]) 9 Try.underlying9
theorem calm_grownBy {w w' : World} {row : Option Nat} (h : w.grownBy w' row) : Calm row.toList w w' :=
  ⟨h.os, h.tape, h.output, h.size, fun k hk hO => h.block k hk fun e => hO (by rw [← e]; simp)⟩

theorem info_u8 : (Try.prog.info? 5).map (fun i => (i.zero, i.size, i.bytes)) = some (some (.int .u8 0), 1, 1) := by kernel_rfl

/-- what appending bytes to a slice of the call's own comes to: it stays in its block, or moves to a new one -/
theorem run_append_bytes {w : World} (ty : TypeId) (base : Nat) (v : Value) (l : List Int) (hown : Own w base v l) (ad : Addr) (c : Nat) (m : List Int) (hm : ∀ j y, m[j]? = some y → w.cell? (ad.add j) = some (.int .u8 y)) (hlen : l.length + m.length ≤ 1000000) (hbase : base ≤ w.heap.size) :
    ∃ v' w', (Builtin.append_ #[29, 29] ty #[v, .slice (some ad) m.length c]).run Try.prog w = .ok v' w' ∧ Own w' base v' (l ++ m) ∧ Calm v.ownBlock.toList w w' ∧ ∀ k, v'.ownBlock = some k → v.ownBlock = some k ∨ k = w.heap.size := by
  obtain ⟨i, hi, hz, h1, h2⟩ := info_parts info_u8
  have hm' : ∀ j u, (bytesV m)[j]? = some u → w.cell? (ad.add j) = some u := fun j u hu => by
    obtain ⟨y, k1, rfl⟩ := bytesV_get m j u hu
    exact hm j y k1
  have hl1 : (bytesV m).length = m.length * i.size := by rw [bytesV_length, h1, Nat.mul_one]
  obtain ⟨v', w', hr, a1, a2, a3⟩ := run_append_own (P := Try.prog) w base 29 ty 5 i (.int .u8 0) 1 1 Try.underlying29 hi hz h1 h2 rfl (by decide) v l.length (bytesV l) hown ad m.length c (bytesV m) (by rw [bytesV_length, Nat.mul_one]) hm' (bytesV_one m) (by simp only [maxLen]; omega) (by omega) hbase
  refine ⟨v', w', hr, by unfold Own; rw [List.length_append, bytesV_append]; exact a1, calm_grownBy a2, fun k hk => ?_⟩
  rcases hown.2 with ⟨rfl, h0⟩ | ⟨g, cap, cur, rfl, b1, b2, b3, b4, b5, b6⟩
  · by_cases hm0 : m.length = 0
    · have : v' = .slice none 0 0 := a3.2 ⟨rfl, hm0⟩
      rw [this] at hk; cases hk
    · have e := run_append_nil (P := Try.prog) w 29 ty 5 i (.int .u8 0) Try.underlying29 hi hz ad m.length c (bytesV m) hl1 hm' (by omega) (by omega) (by rw [h2]; omega)
      rw [hr] at e
      have e' := (Result.ok.inj e).1
      rw [e'] at hk
      exact .inr (Option.some.inj hk).symm
  · by_cases hroom : l.length + m.length ≤ cap
    · have e := run_append_room (P := Try.prog) w 29 ty 5 i Try.underlying29 hi g l.length cap cur b2 ad m.length c (bytesV m) hl1 hm' (bytesV_one m) hroom (by rw [h1, bytesV_length, b5]; omega)
      rw [hr] at e
      have e' := (Result.ok.inj e).1
      rw [e'] at hk
      exact .inl hk
    · have e := run_append_grow (P := Try.prog) w 29 ty 5 i (.int .u8 0) Try.underlying29 hi hz ⟨g, 0, none⟩ l.length cap (bytesV l) (by rw [bytesV_length, h1, Nat.mul_one]) (World.ownsRow.cells hown (g := g) rfl) ad m.length c (bytesV m) hl1 hm' (by omega) (by omega) (growslice_fits (by omega) (by rw [h2]; omega))
      rw [hr] at e
      have e' := (Result.ok.inj e).1
      rw [e'] at hk
      exact .inr (Option.some.inj hk).symm

/-- bytes are appended to a slice of the call's own -/
theorem wpList_append_bytes {ops : Array Oper} {rest : List Oper} {o : Oper} {a : Act} {w : World} {Q : Exit → Act → World → Prop} (hgd : o.guard = none) (s x : Operand)
    (ho : o.op = .call { callee := .builtin .append, args := #[s, x], argTypes := #[29, 29] }) (base : Nat) (v : Value) (l : List Int) (hs : a.eval s = v) (hown : Own w base v l)
    (ad : Addr) (c : Nat) (m : List Int) (hx : a.eval x = .slice (some ad) m.length c) (hm : ∀ j y, m[j]? = some y → w.cell? (ad.add j) = some (.int .u8 y)) (hlen : l.length + m.length ≤ 1000000) (hbase : base ≤ w.heap.size)
    (h : ∀ v' w', Own w' base v' (l ++ m) → Calm v.ownBlock.toList w w' → (∀ k, v'.ownBlock = some k → v.ownBlock = some k ∨ k = w.heap.size) → wpList Try.prog ops Q rest (a.put o.dst v') w') : wpList Try.prog ops Q (o :: rest) a w :=
  wpList_plain hgd fun K hK => by
    obtain ⟨v', w', hr, h1, h2, h3⟩ := run_append_bytes o.type base v l hown ad c m hm hlen hbase
    unfold Oper.wp execOp
    simp only [ho, resolve, invoke, builtin, Sem.run_bind, Sem.run_pure, Result.andThen_ok, List.map_toArray, List.map_cons, List.map_nil, hs, hx, hr]
    exact hK _ _ (h v' w' h1 h2 h3)
/-- one byte -/
theorem wpList_append_byte {ops : Array Oper} {rest : List Oper} {o : Oper} {a : Act} {w : World} {Q : Exit → Act → World → Prop} (hgd : o.guard = none) (s x : Operand)
    (ho : o.op = .call { callee := .builtin .append, args := #[s, x], argTypes := #[29, 29] }) (base : Nat) (v : Value) (l : List Int) (hs : a.eval s = v) (hown : Own w base v l)
    (g c : Nat) (y : Int) (hx : a.eval x = .slice (some ⟨g, 0, none⟩) 1 c) (hy : w.cell? ⟨g, 0, none⟩ = some (.int .u8 y)) (hlen : l.length < 1000000) (hbase : base ≤ w.heap.size)
    (h : ∀ v' w', Own w' base v' (l ++ [y]) → Calm v.ownBlock.toList w w' → (∀ k, v'.ownBlock = some k → v.ownBlock = some k ∨ k = w.heap.size) → wpList Try.prog ops Q rest (a.put o.dst v') w') : wpList Try.prog ops Q (o :: rest) a w :=
  wpList_append_bytes hgd s x ho base v l hs hown ⟨g, 0, none⟩ c [y] hx (fun j z hj => by
    match j, hj with
    | 0, hj => simp at hj; subst hj; exact hy
    | j + 1, hj => simp at hj) (by simp; omega) hbase h

/-- a number's bytes: seven bits each, the lowest first -/
def leb (n : Nat) : List Int := if n < 128 then [(n : Int)] else ((n % 128 + 128 : Nat) : Int) :: leb (n / 128)
termination_by n
decreasing_by omega
theorem leb_small {n : Nat} (h : n < 128) : leb n = [(n : Int)] := by rw [leb, if_pos h]
theorem leb_great {n : Nat} (h : 128 ≤ n) : leb n = ((n % 128 + 128 : Nat) : Int) :: leb (n / 128) := by rw [leb, if_neg (by omega)]
theorem leb_pos (n : Nat) : 0 < (leb n).length := by rw [leb]; split <;> simp
theorem leb_len : ∀ (k n : Nat), n < 128 ^ (k + 1) → (leb n).length ≤ k + 1
  | 0, n, h => by rw [leb_small (by simpa using h)]; simp
  | k + 1, n, h => by
    by_cases hn : n < 128
    · rw [leb_small hn]; simp
    · rw [leb_great (by omega), List.length_cons]
      have := leb_len k (n / 128) (Nat.div_lt_of_lt_mul (by rw [Nat.mul_comm, ← Nat.pow_succ]; exact h))
      omega
theorem leb_len10 {n : Nat} (h : n < 18446744073709551616) : (leb n).length ≤ 10 := leb_len 9 n (by omega)

end Go.Proofs.Ytbbfmlehddfneaa

namespace Go.Proofs.Ytbbfmlehddfneaa
open Go.RowKit
set_option linter.unusedVariables false

/-- what a call may have done to memory: only the blocks F have turned, F' are now their heirs -/
def Step (F F' : List Nat) (w w' : World) : Prop := Calm F w w' ∧ ∀ b ∈ F', b ∈ F ∨ w.heap.size ≤ b
theorem Step.refl (F : List Nat) (w : World) : Step F F w w := ⟨Calm.refl _ _, fun b h => .inl h⟩
theorem Step.trans {F G H : List Nat} {a b c : World} (h : Step F G a b) (k : Step G H b c) : Step F H a c := by
  refine ⟨⟨k.1.os.trans h.1.os, k.1.tape.trans h.1.tape, k.1.output.trans h.1.output, Nat.le_trans h.1.size k.1.size, fun i hi hF => ?_⟩, fun b hb => ?_⟩
  · have hG : i ∉ G := fun hg => by
      rcases h.2 i hg with x | x
      · exact hF x
      · omega
    exact (k.1.block i (Nat.lt_of_lt_of_le hi h.1.size) hG).trans (h.1.block i hi hF)
  · rcases k.2 b hb with x | x
    · exact h.2 b x
    · exact .inr (Nat.le_trans h.1.size x)
theorem Step.ext {F F' : List Nat} {a w w' : World} (e : Ext a w) (h : Step F F' w w') (hF : ∀ b ∈ F, a.heap.size ≤ b) : Ext a w' := Ext.calm_trans e h.1 hF
theorem Step.above {F F' : List Nat} {w w' : World} {n : Nat} (h : Step F F' w w') (hF : ∀ b ∈ F, n ≤ b) (hn : n ≤ w.heap.size) : ∀ b ∈ F', n ≤ b := fun b hb => by
  rcases h.2 b hb with x | x
  · exact hF b x
  · omega

end Go.Proofs.Ytbbfmlehddfneaa

namespace Go.Proofs.Ytbbfmlehddfneaa
open Go.RowKit
set_option linter.unusedVariables false
/-- a number with a sign, as one without -/
def zig (n : Int) : Nat := if n < 0 then (-(n + 1)).toNat * 2 + 1 else n.toNat * 2
theorem zig_lt {n : Int} (h : -9223372036854775808 ≤ n ∧ n ≤ 9223372036854775807) : zig n < 18446744073709551616 := by
  unfold zig; split <;> omega
end Go.Proofs.Ytbbfmlehddfneaa

namespace Go.Proofs.Ytbbfmlehddfneaa
set_option linter.unusedVariables false

theorem leb_bytes : ∀ (n : Nat) (y : Int), y ∈ leb n → 0 ≤ y ∧ y ≤ 255 := by
  intro n
  induction n using Nat.strongRecOn with
  | _ n ih =>
    intro y hy
    by_cases h : n < 128
    · rw [leb_small h] at hy
      have : y = n := by simpa using hy
      omega
    · rw [leb_great (by omega)] at hy
      rcases List.mem_cons.1 hy with e | e
      · omega
      · exact ih (n / 128) (by omega) y e
/-- no number's bytes begin another's -/
theorem leb_inj : ∀ (n m : Nat) (r s : List Int), leb n ++ r = leb m ++ s → n = m ∧ r = s := by
  intro n
  induction n using Nat.strongRecOn with
  | _ n ih =>
    intro m r s h
    by_cases hn : n < 128
    · by_cases hm : m < 128
      · rw [leb_small hn, leb_small hm] at h
        simp only [List.cons_append, List.nil_append, List.cons.injEq] at h
        exact ⟨by omega, h.2⟩
      · rw [leb_small hn, leb_great (by omega)] at h
        simp only [List.cons_append, List.nil_append, List.cons.injEq] at h
        have := h.1
        omega
    · by_cases hm : m < 128
      · rw [leb_small hm, leb_great (by omega)] at h
        simp only [List.cons_append, List.nil_append, List.cons.injEq] at h
        have := h.1
        omega
      · rw [leb_great (n := n) (by omega), leb_great (n := m) (by omega)] at h
        simp only [List.cons_append, List.cons.injEq] at h
        obtain ⟨h1, h2⟩ := h
        obtain ⟨k1, k2⟩ := ih (n / 128) (by omega) (m / 128) r s h2
        exact ⟨by omega, k2⟩
theorem leb_ne_nil (n : Nat) : leb n ≠ [] := fun h => by have := leb_pos n; rw [h] at this; simp at this
theorem leb_mono : ∀ (a b : Nat), a ≤ b → (leb a).length ≤ (leb b).length := by
  intro a
  induction a using Nat.strongRecOn with
  | _ a ih =>
    intro b h
    by_cases ha : a < 128
    · rw [leb_small ha]
      exact leb_pos b
    · rw [leb_great (n := a) (by omega), leb_great (n := b) (by omega), List.length_cons, List.length_cons]
      have := ih (a / 128) (by omega) (b / 128) (Nat.div_le_div_right h)
      omega
/-- a number and the next one have as many bytes, if the first is even -/
theorem leb_even (n : Nat) : (leb (2 * n)).length = (leb (2 * n + 1)).length := by
  by_cases h : 2 * n < 128
  · rw [leb_small h, leb_small (n := 2 * n + 1) (by omega)]; rfl
  · rw [leb_great (n := 2 * n) (by omega), leb_great (n := 2 * n + 1) (by omega), List.length_cons, List.length_cons, show (2 * n + 1) / 128 = 2 * n / 128 by omega]
def unzig (m : Nat) : Int := if m % 2 = 1 then -((m / 2 : Nat) : Int) - 1 else ((m / 2 : Nat) : Int)
theorem unzig_zig (n : Int) : unzig (zig n) = n := by
  unfold unzig zig
  split <;> split <;> omega
theorem zig_unzig (m : Nat) : zig (unzig m) = m := by
  unfold unzig zig
  split <;> split <;> omega
theorem zig_inj {a b : Int} (h : zig a = zig b) : a = b := by rw [← unzig_zig a, h, unzig_zig]
theorem unzig_bd {m : Nat} (h : m < 18446744073709551616) : -9223372036854775808 ≤ unzig m ∧ unzig m ≤ 9223372036854775807 := by
  unfold unzig; split <;> omega
theorem zig_not (n : Int) : (leb (zig (-n - 1))).length = (leb (zig n)).length := by
  unfold zig
  by_cases h : n < 0
  · rw [if_pos h, if_neg (by omega)]
    have := leb_even (-n - 1).toNat
    rw [show (-n - 1).toNat * 2 = 2 * (-n - 1).toNat by omega, show (-(n + 1)).toNat * 2 + 1 = 2 * (-n - 1).toNat + 1 by omega]
    exact this
  · rw [if_neg h, if_pos (by omega)]
    have := leb_even n.toNat
    rw [show n.toNat * 2 = 2 * n.toNat by omega, show (-(-n - 1 + 1)).toNat * 2 + 1 = 2 * n.toNat + 1 by omega]
    exact this.symm
theorem leb_len5 {n : Nat} (h : n < 4294967296) : (leb n).length ≤ 5 := leb_len 4 n (by omega)

/-- what stands at the head of some bytes: a number's bytes, or none's -/
def headNum (b : List Int) : Prop := ∃ n r, n < 18446744073709551616 ∧ b = leb n ++ r
theorem headNum_one {b : List Int} {n m : Nat} {r s : List Int} (h1 : b = leb n ++ r) (h2 : b = leb m ++ s) : n = m ∧ r = s := leb_inj n m r s (h1.symm.trans h2)

end Go.Proofs.Ytbbfmlehddfneaa

namespace Go.Proofs.Ytbbfmlehddfneaa
open Go.RowKit
set_option linter.unusedVariables false

theorem wpList_append_arr {ops : Array Oper} {rest : List Oper} {o : Oper} {a : Act} {w : World} {Q : Exit → Act → World → Prop} (hgd : o.guard = none) (s x : Operand)
    (ho : o.op = .call { callee := .builtin .append, args := #[s, x], argTypes := #[29, 29] }) (base : Nat) (v : Value) (l : List Int) (hs : a.eval s = v) (hown : Own w base v l)
    (vx : Value) (m : List Int) (hx : a.eval x = vx) (hm : Arr w .u8 vx m) (hlen : l.length + m.length ≤ 1000000) (hbase : base ≤ w.heap.size)
    (h : ∀ v' w', Own w' base v' (l ++ m) → Calm v.ownBlock.toList w w' → (∀ k, v'.ownBlock = some k → v.ownBlock = some k ∨ k = w.heap.size) → wpList Try.prog ops Q rest (a.put o.dst v') w') : wpList Try.prog ops Q (o :: rest) a w := by
  obtain ⟨⟨ao, c, rfl, h1, h2, h3⟩, _, _⟩ := hm
  cases ao with
  | none =>
    have hm : m = [] := by
      rcases m with _ | ⟨y, r⟩
      · rfl
      · obtain ⟨b, off, e, _⟩ := h2 (by simp)
        cases e
    subst hm
    have hc : c = 0 := h3 rfl
    subst hc
    obtain ⟨i, hi, _, _, _⟩ := info_parts info_u8
    refine wpList_append_own_none hgd s x 29 ho base 5 i 1 Try.underlying29 hi v l.length (bytesV l) hs hown hx (h v w (by simpa using hown) (Calm.refl _ _) fun k hk => .inl hk)
  | some ad =>
    refine wpList_append_bytes hgd s x ho base v l hs hown ad c m hx (fun j y hj => ?_) hlen hbase h
    have hjl : j < m.length := (List.getElem?_eq_some_iff.1 hj).1
    obtain ⟨b, off, e, hc⟩ := h2 (by intro hh; rw [hh] at hjl; simp at hjl)
    cases e
    rw [Go.WideShapes.add_plain, hc j hjl]
    simp [List.getD, hj]
theorem Arr.str {w : World} {v : Value} {l : List Int} (h : Arr w .u8 v l) : (convert 29 9 v).run Try.prog w = .ok (.string (strOfNums l)) w := by
  obtain ⟨⟨ao, c, rfl, h1, h2, h3⟩, _, _⟩ := h
  cases ao with
  | none =>
    have hm : l = [] := by
      rcases l with _ | ⟨y, r⟩
      · rfl
      · obtain ⟨b, off, e, _⟩ := h2 (by simp)
        cases e
    subst hm
    exact run_convert_bytes_nil w 29 5 Try.underlying29 Try.underlying5 _ _ 9 Try.underlying9
  | some ad =>
    by_cases hl : l = []
    · subst hl
      rw [run_convert_bytes_string w 29 9 5 _ _ c Try.underlying29 Try.underlying5 Try.underlying9]
      simp [Conv.bytesToString, loadCells, loadCellsFrom, strOfNums]
      rfl
    · obtain ⟨b, off, e, hc⟩ := h2 hl
      cases e
      exact run_convert_bytes_arg w 29 5 Try.underlying29 Try.underlying5 b off l.length c l rfl (fun i hi => hc i hi) 9 Try.underlying9
end Go.Proofs.Ytbbfmlehddfneaa

namespace Go.Proofs.Ytbbfmlehddfneaa
open Go.RowKit
set_option linter.unusedVariables false

theorem bdu8 {y : Int} (h : (Lit.int .u8 y).wf = true) : 0 ≤ y ∧ y ≤ 255 := bounds_u8 h
theorem wfu8 {y : Int} (h : 0 ≤ y ∧ y ≤ 255) : (Lit.int .u8 y).wf = true := by
  have e1 : IntKind.u8.min = 0 := rfl
  have e2 : IntKind.u8.max = 255 := rfl
  simp [Lit.wf, e1, e2]
  omega

/-- a slice of the call's own can be read -/
theorem Own.arr {w : World} {base : Nat} {v : Value} {l : List Int} (h : Own w base v l) (hb : ∀ y ∈ l, 0 ≤ y ∧ y ≤ 255) : Arr w .u8 v l := by
  have hc := h
  rcases h.2 with ⟨rfl, h0⟩ | ⟨g, cap, cur, rfl, a1, a2, a3, a4, a5, a6⟩
  · have h0' : l = [] := List.eq_nil_of_length_eq_zero h0
    subst h0'
    exact ⟨⟨none, 0, rfl, Nat.le_refl _, fun h => absurd rfl h, fun _ => rfl⟩, Nat.zero_le _, fun n hn => by cases hn⟩
  · refine ⟨⟨_, cap, rfl, a3, fun _ => ⟨g, 0, rfl, fun j hj => ?_⟩, fun h => by cases h⟩, Nat.le_trans a3 a4, fun n hn => wfu8 (hb n hn)⟩
    rw [Nat.zero_add, hc.cell j (l.getD j 0) (by simp [hj])]
theorem Arr.bd {w : World} {v : Value} {l : List Int} (h : Arr w .u8 v l) : ∀ y ∈ l, 0 ≤ y ∧ y ≤ 255 := fun y hy => bdu8 (h.wf y hy)

set_option maxRecDepth 100000 in
theorem clone_any (w : World) (v : Value) (l : List Int) (h : Arr w .u8 v l) (hlen : l.length ≤ 1000000) :
    Calls Try.prog 35 #[v] w fun e w' => ∃ v', e = .returned v' ∧ Own w' w.heap.size v' l ∧ Ext w w' := by
  have h' := h
  obtain ⟨⟨ao, c, rfl, h1, h2, h3⟩, _, _⟩ := h
  have q : ∀ (w : World) (a : Option Addr) (n c n' c' : Nat), (binOp .eql 29 (.slice a n c) (.slice none n' c')).run Try.prog w = .ok (.bool a.isNone) w := fun w a n c n' c' => Lib.run_eql_slice_nil w _ _ a n c n' c' Try.underlying29
  cases ao with
  | none =>
    have hm : l = [] := by
      rcases l with _ | ⟨y, r⟩
      · rfl
      · obtain ⟨b, off, e, _⟩ := h2 (by simp)
        cases e
    subst hm
    go_enter Try.func35, Try.ntmps35
    go_wp2
    go_ret
    exact ⟨_, rfl, Own.nil _ _, Ext.refl _⟩
  | some ad =>
    have hA : Arr (w.alloc (.cells #[] 5)) .u8 (.slice (some ad) l.length c) l := h'.ext ((Ext.refl w).alloc _ _)
    clear h'
    go_enter Try.func35, Try.ntmps35
    go_wp2_with (at_builtin; refine wpList_append_arr rfl _ _ rfl w.heap.size _ [] rfl (World.ownsRow_made w #[] 0 (Nat.le_refl _) (Nat.zero_le _) rfl) _ l rfl hA (by simpa using hlen) (by simp) ?_)
    intro v' w' ho hc hk
    have hx' : Ext w w' := Ext.calm_trans ((Ext.refl w).alloc _ _) hc (fun g hg => by
      have := Option.mem_toList.1 hg
      simp [Value.ownBlock] at this
      omega)
    go_wp2
    go_ret
    exact ⟨v', rfl, by simpa using ho, hx'⟩
end Go.Proofs.Ytbbfmlehddfneaa

namespace Go.Proofs.Ytbbfmlehddfneaa
open Go.RowKit
set_option linter.unusedVariables false

def Pen (w : World) (base p : Nat) (l : List Int) (F : List Nat) : Prop :=
  ∃ v, Blk w p #[v] 88 ∧ Own w base v l ∧ base ≤ p ∧ F = p :: v.ownBlock.toList ∧ ∀ k, v.ownBlock = some k → k ≠ p
theorem Pen.kept {w w' : World} {base p : Nat} {l : List Int} {F O : List Nat} (h : Pen w base p l F) (hc : Calm O w w') (hO : ∀ b ∈ F, b ∉ O) : Pen w' base p l F := by
  obtain ⟨v, B, ho, hb, rfl, hne⟩ := h
  exact ⟨v, B.calm hc (hO p (by simp)), ho.calm hc (fun k hk => hO k (by simp [hk])), hb, rfl, hne⟩
theorem Pen.lt {w : World} {base p : Nat} {l : List Int} {F : List Nat} (h : Pen w base p l F) : ∀ b ∈ F, base ≤ b ∧ b < w.heap.size := by
  obtain ⟨v, B, ho, hb, rfl, hne⟩ := h
  intro b hm
  rcases List.mem_cons.1 hm with rfl | hm
  · exact ⟨hb, B.lt⟩
  · exact ho.lt b (Option.mem_toList.1 hm)
theorem Pen.new {w : World} {base : Nat} (hb : base ≤ w.heap.size) : Pen (w.alloc (.cells #[.slice none 0 0] 88)) base w.heap.size [] [w.heap.size] :=
  ⟨.slice none 0 0, Blk.new w _ _, Own.nil _ _, hb, rfl, fun k hk => by cases hk⟩

set_option maxRecDepth 100000 in
theorem pen_byte (c : Int) (hc : 0 ≤ c ∧ c ≤ 255) (w : World) (base p : Nat) (l : List Int) (F : List Nat) (hP : Pen w base p l F) (hlen : l.length < 100000) (hb : base ≤ w.heap.size) :
    Calls Try.prog 50 #[.pointer (some ⟨p, 0, none⟩), .int .u8 c] w fun e w' => e = .returned (.tuple #[]) ∧ ∃ F', Pen w' base p (l ++ [c]) F' ∧ Step F F' w w' := by
  obtain ⟨v, B, ho, hbp, rfl, hne⟩ := hP
  have cB := B.cell
  have hp := B.lt
  go_enter Try.func50, Try.ntmps50
  go_wp2_with (at_builtin; refine wpList_append_byte rfl _ _ rfl base _ l rfl (ho.alloc _) w.heap.size 1 c rfl (by simp [go_sem]) (by omega) (by simp; omega) ?_)
  intro v' w' ho' hc' hk'
  have B' : Blk w' p #[v] 88 := (B.alloc _).calm hc' (fun hm => hne p (Option.mem_toList.1 hm) rfl)
  have cB' := B'.cell
  have fB' := B'.frozen
  have hz := hc'.size
  obtain ⟨ao, c', rfl, -, -⟩ := ho'.slice
  have el : (l ++ [c]).length = l.length + 1 := by simp
  rw [el] at ho' hk'
  simp at hz
  go_wp2
  refine bodyPost_end (v := .tuple #[]) (by simp [results, Try.results50]) rfl ?_
  have hne' : ∀ k, (Value.slice ao (l.length + 1) c').ownBlock = some k → k ≠ p := fun k hk => by
    rcases hk' k hk with x | x
    · exact hne k x
    · first | omega | (simp at x; omega)
  refine ⟨rfl, p :: (Value.slice ao (l.length + 1) c').ownBlock.toList, ⟨_, B'.set 0 _, ho'.kept (fun k hk => Below.heap_setCell _ _ _ _ (hne' k hk)), hbp, rfl, hne'⟩, ⟨⟨hc'.os, hc'.tape, hc'.output, by simp; omega, fun k hk hO => ?_⟩, fun b hm => ?_⟩⟩
  · simp only [List.mem_cons, not_or] at hO
    rw [Below.heap_setCell _ _ _ _ hO.1, hc'.block k (by simp; omega) hO.2, Below.heap_alloc _ _ _ hk]
  · rcases List.mem_cons.1 hm with rfl | hm
    · exact .inl (by simp)
    · rcases hk' b (Option.mem_toList.1 hm) with x | x
      · exact .inl (by simp [x])
      · exact .inr (by first | omega | (simp at x; omega))
set_option maxRecDepth 100000 in
theorem pen_number (n : Nat) (hn : n < 18446744073709551616) (w : World) (base p : Nat) (l : List Int) (F : List Nat) (hP : Pen w base p l F) (hlen : l.length < 90000) (hb : base ≤ w.heap.size) :
    Calls Try.prog 46 #[.pointer (some ⟨p, 0, none⟩), .int .u64 n] w fun e w' => e = .returned (.tuple #[]) ∧ ∃ F', Pen w' base p (l ++ leb n) F' ∧ Step F F' w w' := by
  have hl10 := leb_len10 hn
  go_enter Try.func46, Try.ntmps46
  go_wp2
  go_loopg [1] n (fun k nv wr => ∃ (m : Nat) (l' : List Int) (F' : List Nat), m ≤ k ∧ k < 18446744073709551616 ∧ nv = .int .u64 m ∧ Pen wr base p l' F' ∧ l' ++ leb m = l ++ leb n ∧ Step F F' w wr)
  case atStart => exact ⟨n, l, F, Nat.le_refl _, hn, rfl, hP, rfl, Step.refl _ _⟩
  case round =>
    obtain ⟨m, l', F', hmk, hk, rfl, hP', hl, hs⟩ := hrel
    have hlen' : l'.length ≤ 90010 := by
      have := congrArg List.length hl
      simp at this
      omega
    have hz := hs.1.size
    have HL := Lib.hid hl
    clear hl
    by_cases hm : 128 ≤ m
    · go_wp2_with fail
      refine (pen_byte _ (by omega) _ _ _ _ _ hP' (by omega) (by omega)).mono ?_
      rintro e w1 ⟨rfl, F1, hP1, hs1⟩
      go_wp2
      go_roundg (m / 128)
      case measure => omega
      case rel =>
        refine ⟨m / 128, _, F1, Nat.le_refl _, by omega, by simp, hP1, ?_, hs.trans hs1⟩
        rw [← HL.out, leb_great hm]
        simp
    · go_wp2_with fail
      refine (pen_byte _ (by omega) _ _ _ _ _ hP' (by omega) (by omega)).mono ?_
      rintro e w1 ⟨rfl, F1, hP1, hs1⟩
      go_wp2
      refine bodyPost_end (v := .tuple #[]) (by simp [results, Try.results46]) rfl ⟨rfl, F1, ?_, hs.trans hs1⟩
      rw [← HL.out, leb_small (n := m) (by omega)]
      exact hP1
set_option maxRecDepth 100000 in
theorem pen_count (n : Int) (hn : -9223372036854775808 ≤ n ∧ n ≤ 9223372036854775807) (w : World) (base p : Nat) (l : List Int) (F : List Nat) (hP : Pen w base p l F) (hlen : l.length < 90000) (hb : base ≤ w.heap.size) :
    Calls Try.prog 31 #[.pointer (some ⟨p, 0, none⟩), .int .i64 n] w fun e w' => e = .returned (.tuple #[]) ∧ ∃ F', Pen w' base p (l ++ leb n.toNat) F' ∧ Step F F' w w' := by
  obtain ⟨m, hmt, hm, hn2⟩ : ∃ m : Nat, n.toNat = m ∧ (if n < 0 then 0 else n) = (m : Int) ∧ m < 18446744073709551616 := ⟨n.toNat, rfl, by split <;> omega, by omega⟩
  try rw [hmt]
  go_enter Try.func31, Try.ntmps31
  go_wp2_with fail
  refine (pen_number m hn2 _ _ _ _ _ hP (by omega) (by omega)).mono ?_
  rintro e w1 ⟨rfl, F1, hP1, hs1⟩
  go_wp2
  exact bodyPost_end (v := .tuple #[]) (by simp [results, Try.results31]) rfl ⟨rfl, F1, hP1, hs1⟩
theorem folded_any (n : Int) (hn : -9223372036854775808 ≤ n ∧ n ≤ 9223372036854775807) (w : World) :
    Calls Try.prog 67 #[.int .i64 n] w fun e w' => e = .returned (.int .u64 (zig n)) ∧ w = w' := by
  have hz := zig_lt hn
  go_enter Try.func67, Try.ntmps67
  by_cases h : n < 0
  · have hd : decide (n < 0) = true := by simpa using h
    have hv : (2 * (-(n + 1)) + 1 : Int) = ((zig n : Nat) : Int) := by unfold zig; rw [if_pos h]; omega
    go_wp2
    go_ret
    exact ⟨ret_int (by omega), rfl⟩
  · have hd : decide (n < 0) = false := by simpa using h
    have hv : (2 * n : Int) = ((zig n : Nat) : Int) := by unfold zig; rw [if_neg h]; omega
    go_wp2
    go_ret
    exact ⟨ret_int (by omega), rfl⟩
set_option maxRecDepth 100000 in
theorem pen_int (n : Int) (hn : -9223372036854775808 ≤ n ∧ n ≤ 9223372036854775807) (w : World) (base p : Nat) (l : List Int) (F : List Nat) (hP : Pen w base p l F) (hlen : l.length < 90000) (hb : base ≤ w.heap.size) :
    Calls Try.prog 47 #[.pointer (some ⟨p, 0, none⟩), .int .i64 n] w fun e w' => e = .returned (.tuple #[]) ∧ ∃ F', Pen w' base p (l ++ leb (zig n)) F' ∧ Step F F' w w' := by
  have hz := zig_lt hn
  go_enter Try.func47, Try.ntmps47
  go_wp2_with fail
  refine (folded_any n hn _).mono ?_
  rintro e w0 ⟨rfl, rfl⟩
  go_wp2_with fail
  refine (pen_number _ hz _ _ _ _ _ hP (by omega) (by omega)).mono ?_
  rintro e w1 ⟨rfl, F1, hP1, hs1⟩
  go_wp2
  exact bodyPost_end (v := .tuple #[]) (by simp [results, Try.results47]) rfl ⟨rfl, F1, hP1, hs1⟩
theorem Pen.own {w : World} {base p : Nat} {l : List Int} {F : List Nat} (h : Pen w base p l F) (hb : ∀ y ∈ l, 0 ≤ y ∧ y ≤ 255) : ∃ v, Blk w p #[v] 88 ∧ Arr w .u8 v l := by
  obtain ⟨v, B, ho, _⟩ := h
  exact ⟨v, B, ho.arr hb⟩
set_option maxRecDepth 100000 in
theorem pen_bytes (w : World) (base p : Nat) (l : List Int) (F : List Nat) (hP : Pen w base p l F) (hb : ∀ y ∈ l, 0 ≤ y ∧ y ≤ 255) (hlen : l.length < 100000) :
    Calls Try.prog 18 #[.pointer (some ⟨p, 0, none⟩)] w fun e w' => ∃ v, e = .returned v ∧ Own w' w.heap.size v l ∧ Ext w w' := by
  obtain ⟨v, B, ha⟩ := hP.own hb
  have cB := B.cell
  obtain ⟨⟨ao, c, rfl, _⟩, _, _⟩ := id ha
  go_enter Try.func18, Try.ntmps18
  go_wp2_with fail
  refine (clone_any _ _ _ ha (by omega)).mono ?_
  rintro e w1 ⟨v', rfl, o1, x1⟩
  go_wp2
  go_ret
  exact ⟨v', rfl, o1, x1⟩
set_option maxRecDepth 100000 in
theorem pen_put (w : World) (base p : Nat) (l : List Int) (F : List Nat) (hP : Pen w base p l F) (v : Value) (m : List Int) (hm : Arr w .u8 v m) (hlen : l.length + m.length < 90000) (hb : base ≤ w.heap.size) :
    Calls Try.prog 30 #[.pointer (some ⟨p, 0, none⟩), v] w fun e w' => e = .returned (.tuple #[]) ∧ ∃ F', Pen w' base p (l ++ m) F' ∧ Step F F' w w' := by
  obtain ⟨v0, B, ho, hbp, rfl, hne⟩ := hP
  have cB := B.cell
  have hp := B.lt
  obtain ⟨⟨ao1, c1, rfl, _⟩, _, _⟩ := id hm
  go_enter Try.func30, Try.ntmps30
  go_wp2_with (at_builtin; refine wpList_append_arr rfl _ _ rfl base _ l rfl ho _ m rfl hm (by omega) (by omega) ?_)
  intro v' w' ho' hc' hk'
  have B' : Blk w' p #[v0] 88 := B.calm hc' (fun hm => hne p (Option.mem_toList.1 hm) rfl)
  have cB' := B'.cell
  have fB' := B'.frozen
  have hz := hc'.size
  obtain ⟨ao, c', rfl, -, -⟩ := ho'.slice
  have el : (l ++ m).length = l.length + m.length := by simp
  rw [el] at ho' hk'
  go_wp2
  refine bodyPost_end (v := .tuple #[]) (by simp [results, Try.results30]) rfl ?_
  have hne' : ∀ k, (Value.slice ao (l.length + m.length) c').ownBlock = some k → k ≠ p := fun k hk => by
    rcases hk' k hk with x | x
    · exact hne k x
    · omega
  refine ⟨rfl, p :: (Value.slice ao (l.length + m.length) c').ownBlock.toList, ⟨_, B'.set 0 _, ho'.kept (fun k hk => Below.heap_setCell _ _ _ _ (hne' k hk)), hbp, rfl, hne'⟩, ⟨⟨hc'.os, hc'.tape, hc'.output, by simp; omega, fun k hk hO => ?_⟩, fun b hm => ?_⟩⟩
  · simp only [List.mem_cons, not_or] at hO
    rw [Below.heap_setCell _ _ _ _ hO.1, hc'.block k (by omega) hO.2]
  · rcases List.mem_cons.1 hm with rfl | hm
    · exact .inl (by simp)
    · rcases hk' b (Option.mem_toList.1 hm) with x | x
      · exact .inl (by simp [x])
      · exact .inr (by omega)
/-- nil pens -/
theorem pen_byte_nil (c : Int) (w : World) : Calls Try.prog 50 #[.pointer none, .int .u8 c] w fun e w' => e = .returned (.tuple #[]) ∧ w = w' := by
  go_enter Try.func50, Try.ntmps50
  go_wp2
  exact bodyPost_ret (v := .tuple #[]) (by simp [results, Try.results50]) rfl ⟨rfl, rfl⟩
theorem pen_put_nil (v : Value) (w : World) : Calls Try.prog 30 #[.pointer none, v] w fun e w' => e = .returned (.tuple #[]) ∧ w = w' := by
  go_enter Try.func30, Try.ntmps30
  go_wp2
  exact bodyPost_ret (v := .tuple #[]) (by simp [results, Try.results30]) rfl ⟨rfl, rfl⟩
theorem pen_bytes_nil (w : World) : Calls Try.prog 18 #[.pointer none] w fun e w' => e = .returned (.slice none 0 0) ∧ w = w' := by
  go_enter Try.func18, Try.ntmps18
  go_wp2
  go_ret
  exact ⟨rfl, rfl⟩
set_option maxRecDepth 100000 in
theorem pen_number_nil (n : Nat) (hn : n < 18446744073709551616) (w : World) :
    Calls Try.prog 46 #[.pointer none, .int .u64 n] w fun e w' => e = .returned (.tuple #[]) ∧ w = w' := by
  go_enter Try.func46, Try.ntmps46
  go_wp2
  go_loopg [1] n (fun k nv wr => ∃ (m : Nat), m ≤ k ∧ k < 18446744073709551616 ∧ nv = .int .u64 m ∧ w = wr)
  case atStart => exact ⟨n, Nat.le_refl _, hn, rfl, rfl⟩
  case round =>
    obtain ⟨m, hmk, hk, rfl, rfl⟩ := hrel
    by_cases hm : 128 ≤ m
    · go_wp2_with fail
      refine (pen_byte_nil _ _).mono ?_
      rintro e w1 ⟨rfl, rfl⟩
      go_wp2
      go_roundg (m / 128)
      case measure => omega
      case rel => exact ⟨m / 128, Nat.le_refl _, by omega, by simp, rfl⟩
    · go_wp2_with fail
      refine (pen_byte_nil _ _).mono ?_
      rintro e w1 ⟨rfl, rfl⟩
      go_wp2
      exact bodyPost_end (v := .tuple #[]) (by simp [results, Try.results46]) rfl ⟨rfl, rfl⟩
set_option maxRecDepth 100000 in
theorem pen_count_nil (n : Int) (hn : -9223372036854775808 ≤ n ∧ n ≤ 9223372036854775807) (w : World) :
    Calls Try.prog 31 #[.pointer none, .int .i64 n] w fun e w' => e = .returned (.tuple #[]) ∧ w = w' := by
  obtain ⟨m, hmt, hm, hn2⟩ : ∃ m : Nat, n.toNat = m ∧ (if n < 0 then 0 else n) = (m : Int) ∧ m < 18446744073709551616 := ⟨n.toNat, rfl, by split <;> omega, by omega⟩
  try rw [hmt]
  go_enter Try.func31, Try.ntmps31
  go_wp2_with fail
  refine (pen_number_nil m hn2 _).mono ?_
  rintro e w1 ⟨rfl, rfl⟩
  go_wp2
  exact bodyPost_end (v := .tuple #[]) (by simp [results, Try.results31]) rfl ⟨rfl, rfl⟩
set_option maxRecDepth 100000 in
theorem pen_int_nil (n : Int) (hn : -9223372036854775808 ≤ n ∧ n ≤ 9223372036854775807) (w : World) :
    Calls Try.prog 47 #[.pointer none, .int .i64 n] w fun e w' => e = .returned (.tuple #[]) ∧ w = w' := by
  have hz := zig_lt hn
  go_enter Try.func47, Try.ntmps47
  go_wp2_with fail
  refine (folded_any n hn _).mono ?_
  rintro e w0 ⟨rfl, rfl⟩
  go_wp2_with fail
  refine (pen_number_nil _ hz _).mono ?_
  rintro e w1 ⟨rfl, rfl⟩
  go_wp2
  exact bodyPost_end (v := .tuple #[]) (by simp [results, Try.results47]) rfl ⟨rfl, rfl⟩
end Go.Proofs.Ytbbfmlehddfneaa

namespace Go.Proofs.Ytbbfmlehddfneaa
open Go.RowKit
set_option linter.unusedVariables false
theorem Pen.ext {w w' : World} {base p : Nat} {l : List Int} {F : List Nat} (h : Pen w base p l F) (hx : Ext w w') : Pen w' base p l F :=
  h.kept (hx.calm []) (fun b hb => by simp)
theorem Step.of_ext {F : List Nat} {w w' : World} (hx : Ext w w') : Step F F w w' :=
  ⟨hx.calm F, fun b hm => .inl hm⟩
theorem lit_arr (w : World) (l : List Int) (hb : ∀ y ∈ l, 0 ≤ y ∧ y ≤ 255) (hl : l.length ≤ 1000) :
    Arr (w.alloc (.cells (l.map (Value.int .u8)).toArray 5)) .u8 (.slice (some ⟨w.heap.size, 0, none⟩) l.length l.length) l := by
  refine ⟨⟨_, l.length, rfl, Nat.le_refl _, fun _ => ⟨w.heap.size, 0, rfl, fun j hj => ?_⟩, fun h => by cases h⟩, by simp only [maxLen]; omega, fun y hy => wfu8 (hb y hy)⟩
  have B := Blk.new w (l.map (Value.int .u8)).toArray 5
  rw [Nat.zero_add, B.cell j]
  simp [List.getD, hj]
end Go.Proofs.Ytbbfmlehddfneaa

namespace Go.Proofs.Ytbbfmlehddfneaa
set_option linter.unusedVariables false

/-- the place behind the first byte below 128, if there is one -/
def numEnd : List Int → Option Nat
  | [] => none
  | y :: r => if y < 128 then some 1 else (numEnd r).map (· + 1)
def valB : List Int → Nat
  | [] => 0
  | y :: r => (y % 128).toNat + 128 * valB r
/-- all but the last are from 128 on, the last is below -/
def Shape : List Int → Prop
  | [] => False
  | [y] => 0 ≤ y ∧ y < 128
  | y :: z :: r => (128 ≤ y ∧ y ≤ 255) ∧ Shape (z :: r)
def lastB : List Int → Int
  | [] => 0
  | [y] => y
  | y :: z :: r => lastB (z :: r)

theorem Shape.ne {b : List Int} (h : Shape b) : b ≠ [] := fun e => by subst e; exact h
theorem Shape.last {b : List Int} (h : Shape b) : 0 ≤ lastB b ∧ lastB b < 128 := by
  induction b with
  | nil => exact h.elim
  | cons y r ih =>
    cases r with
    | nil => exact h
    | cons z r => exact ih h.2
theorem Shape.bytes {b : List Int} (h : Shape b) : ∀ y ∈ b, 0 ≤ y ∧ y ≤ 255 := by
  induction b with
  | nil => exact h.elim
  | cons y r ih =>
    intro x hx
    cases r with
    | nil =>
      have : x = y := by simpa using hx
      subst this
      have := h
      simp only [Shape] at this
      omega
    | cons z r =>
      rcases List.mem_cons.1 hx with rfl | hx
      · have := h.1; omega
      · exact ih h.2 x hx
theorem lastB_getD : ∀ (b : List Int), b ≠ [] → b[b.length - 1]? = some (lastB b)
  | [], h => absurd rfl h
  | [y], _ => rfl
  | y :: z :: r, _ => by
    have := lastB_getD (z :: r) (by simp)
    simpa [lastB] using this
theorem valB_bd {b : List Int} (h : Shape b) : (lastB b).toNat * 128 ^ (b.length - 1) ≤ valB b ∧ valB b < ((lastB b).toNat + 1) * 128 ^ (b.length - 1) := by
  induction b with
  | nil => exact h.elim
  | cons y r ih =>
    cases r with
    | nil =>
      simp only [Shape] at h
      simp only [lastB, valB, List.length_cons, List.length_nil]
      have : (y % 128).toNat = y.toNat := by omega
      rw [this]
      simp
    | cons z r =>
      have hi := ih h.2
      have h1 := h.1
      simp only [lastB, valB, List.length_cons, Nat.add_sub_cancel] at hi ⊢
      rw [Nat.pow_succ]
      have hm : (y % 128).toNat < 128 := by omega
      have e1 : (lastB (z :: r)).toNat * (128 ^ r.length * 128) = 128 * ((lastB (z :: r)).toNat * 128 ^ r.length) := by rw [← Nat.mul_assoc, Nat.mul_comm]
      have e2 : ((lastB (z :: r)).toNat + 1) * (128 ^ r.length * 128) = 128 * (((lastB (z :: r)).toNat + 1) * 128 ^ r.length) := by rw [← Nat.mul_assoc, Nat.mul_comm]
      rw [e1, e2]
      omega
theorem valB_pos {b : List Int} (h : Shape b) (h0 : lastB b ≠ 0) : 0 < valB b := by
  have h1 := (valB_bd h).1
  have h2 := h.last
  have h3 : 0 < (lastB b).toNat := by omega
  have h4 : 0 < 128 ^ (b.length - 1) := Nat.pow_pos (by omega)
  have := Nat.mul_pos h3 h4
  omega
/-- bytes of the right shape, without a nought at the end, are those of what they come to -/
theorem leb_valB {b : List Int} (h : Shape b) (h0 : b.length = 1 ∨ lastB b ≠ 0) : leb (valB b) = b := by
  induction b with
  | nil => exact h.elim
  | cons y r ih =>
    cases r with
    | nil =>
      simp only [Shape] at h
      simp only [valB]
      rw [leb_small (by omega)]
      congr 1
      omega
    | cons z r =>
      have hl : lastB (z :: r) ≠ 0 := by
        rcases h0 with h0 | h0
        · simp at h0
        · exact h0
      have hp := valB_pos h.2 hl
      have h1 := h.1
      have hv : valB (y :: z :: r) = (y % 128).toNat + 128 * valB (z :: r) := rfl
      rw [hv, leb_great (by omega), show ((y % 128).toNat + 128 * valB (z :: r)) / 128 = valB (z :: r) by omega, ih h.2 (.inr hl)]
      congr 1
      omega
theorem shape_leb : ∀ (n : Nat), Shape (leb n) ∧ ((leb n).length = 1 ∨ lastB (leb n) ≠ 0) ∧ valB (leb n) = n := by
  intro n
  induction n using Nat.strongRecOn with
  | _ n ih =>
    by_cases h : n < 128
    · rw [leb_small h]
      refine ⟨⟨by omega, by omega⟩, .inl rfl, ?_⟩
      simp only [valB]
      omega
    · rw [leb_great (by omega)]
      obtain ⟨a, b, c⟩ := ih (n / 128) (by omega)
      cases e : leb (n / 128) with
      | nil => exact absurd e (leb_ne_nil _)
      | cons z r =>
        rw [e] at a b c
        refine ⟨⟨⟨by omega, by omega⟩, a⟩, .inr ?_, ?_⟩
        · show lastB (z :: r) ≠ 0
          rcases b with b | b
          · cases r with
            | nil =>
              simp only [valB, Shape] at c a
              simp only [lastB]
              omega
            | cons q r => simp at b
          · exact b
        · show _ + 128 * valB (z :: r) = n
          rw [c]
          omega
theorem valB_lt64 {b : List Int} (h : Shape b) (h0 : b.length = 1 ∨ lastB b ≠ 0) : valB b < 18446744073709551616 ↔ ¬ (10 < b.length ∨ b.length = 10 ∧ 1 < lastB b) := by
  have hb := valB_bd h
  have hl := h.last
  constructor
  · intro hv hn
    rcases hn with hn | ⟨hn, h1⟩
    · have h1 : lastB b ≠ 0 := by
        rcases h0 with h0 | h0
        · omega
        · exact h0
      have hp : (128 : Nat) ^ 10 ≤ 128 ^ (b.length - 1) := Nat.pow_le_pow_right (by omega) (by omega)
      have h2 : 1 * 128 ^ (b.length - 1) ≤ (lastB b).toNat * 128 ^ (b.length - 1) := Nat.mul_le_mul_right _ (by omega)
      omega
    · rw [hn] at hb
      have h2 : 2 * 128 ^ (10 - 1) ≤ (lastB b).toNat * 128 ^ (10 - 1) := Nat.mul_le_mul_right _ (by omega)
      omega
  · intro hn
    by_cases h10 : b.length = 10
    · rw [h10] at hb
      have h2 : ((lastB b).toNat + 1) * 128 ^ (10 - 1) ≤ 2 * 128 ^ (10 - 1) := Nat.mul_le_mul_right _ (by omega)
      omega
    · have hp : (128 : Nat) ^ (b.length - 1) ≤ 128 ^ 8 := Nat.pow_le_pow_right (by omega) (by omega)
      have h2 : ((lastB b).toNat + 1) * 128 ^ (b.length - 1) ≤ 128 * 128 ^ (b.length - 1) := Nat.mul_le_mul_right _ (by omega)
      omega

/-- what bytes that end well come to: none, or the number whose bytes they are -/
def badB (b : List Int) : Bool := (decide (1 < b.length) && decide (lastB b = 0)) || (decide (10 < b.length) || (decide (b.length = 10) && decide (1 < lastB b)))
theorem badB_iff {b : List Int} (h : Shape b) : badB b = false ↔ ∃ m : Nat, m < 18446744073709551616 ∧ b = leb m := by
  have hne : 0 < b.length := List.length_pos_iff.2 h.ne
  have e : badB b = false ↔ ¬ (1 < b.length ∧ lastB b = 0) ∧ ¬ (10 < b.length ∨ b.length = 10 ∧ 1 < lastB b) := by
    unfold badB
    simp
  rw [e]
  constructor
  · rintro ⟨h1, h2⟩
    have h0 : b.length = 1 ∨ lastB b ≠ 0 := by
      by_cases hx : lastB b = 0
      · exact .inl (by omega)
      · exact .inr hx
    exact ⟨valB b, (valB_lt64 h h0).2 h2, (leb_valB h h0).symm⟩
  · rintro ⟨m, hm, rfl⟩
    obtain ⟨a, c, d⟩ := shape_leb m
    refine ⟨fun hx => ?_, (valB_lt64 a c).1 (by rw [d]; exact hm)⟩
    rcases c with c | c
    · omega
    · exact c hx.2

theorem numEnd_le {b : List Int} {j : Nat} (h : numEnd b = some j) : 0 < j ∧ j ≤ b.length := by
  induction b generalizing j with
  | nil => cases h
  | cons y r ih =>
    unfold numEnd at h
    split at h
    · cases h; simp
    · obtain ⟨i, hi, rfl⟩ := Option.map_eq_some_iff.1 h
      have := ih hi
      simp
      omega
theorem numEnd_shape {b : List Int} {j : Nat} (hb : ∀ y ∈ b, 0 ≤ y ∧ y ≤ 255) (h : numEnd b = some j) : Shape (b.take j) := by
  induction b generalizing j with
  | nil => cases h
  | cons y r ih =>
    unfold numEnd at h
    have hy := hb y (by simp)
    split at h
    · cases h
      exact ⟨hy.1, by omega⟩
    · obtain ⟨i, hi, rfl⟩ := Option.map_eq_some_iff.1 h
      have hs := ih (fun x hx => hb x (by simp [hx])) hi
      rw [List.take_succ_cons]
      cases e : r.take i with
      | nil => rw [e] at hs; exact hs.elim
      | cons z q =>
        rw [e] at hs
        exact ⟨⟨by omega, hy.2⟩, hs⟩
/-- k bytes from 128 on, then the rest -/
theorem numEnd_skip : ∀ (k : Nat) (b : List Int), (∀ y ∈ b.take k, 128 ≤ y) → k ≤ b.length → numEnd b = (numEnd (b.drop k)).map (· + k)
  | 0, b, _, _ => by simp
  | k + 1, [], _, h => by simp at h
  | k + 1, y :: r, h, hk => by
    have hy : 128 ≤ y := h y (by simp)
    rw [numEnd, if_neg (by omega), numEnd_skip k r (fun x hx => h x (by simp [hx])) (by simpa using hk), List.drop_succ_cons, Option.map_map]
    congr 1
theorem numEnd_leb (m : Nat) (r : List Int) : numEnd (leb m ++ r) = some (leb m).length := by
  induction m using Nat.strongRecOn with
  | _ m ih =>
    by_cases h : m < 128
    · rw [leb_small h]
      simp only [List.cons_append, numEnd]
      rw [if_pos (by omega)]
      rfl
    · rw [leb_great (by omega)]
      simp only [List.cons_append, numEnd]
      rw [if_neg (by omega), ih (m / 128) (by omega)]
      rfl
/-- what is read of a number's place: the number, how many bytes, the error -/
def rdNum (b : List Int) : Nat × Nat × Int :=
  match numEnd b with
  | none => (0, b.length, 3)
  | some j => if badB (b.take j) then (0, j, 4) else (valB (b.take j), j, 0)
theorem rdNum_leb {m : Nat} (hm : m < 18446744073709551616) (r : List Int) : rdNum (leb m ++ r) = (m, (leb m).length, 0) := by
  have e : (leb m ++ r).take (leb m).length = leb m := by simp
  obtain ⟨a, _, d⟩ := shape_leb m
  have hf : badB (leb m) = false := (badB_iff a).2 ⟨m, hm, rfl⟩
  simp only [rdNum, numEnd_leb, e, hf, d]
  rfl
theorem rdNum_ok {b : List Int} (hb : ∀ y ∈ b, 0 ≤ y ∧ y ≤ 255) {n k : Nat} {e : Int} (h : rdNum b = (n, k, e)) : (e = 0 ∧ n < 18446744073709551616 ∧ b.take k = leb n ∧ k = (leb n).length) ∨ (n = 0 ∧ (e = 3 ∨ e = 4)) := by
  unfold rdNum at h
  split at h
  · cases h; exact .inr ⟨rfl, .inl rfl⟩
  · rename_i j hj
    split at h
    · cases h; exact .inr ⟨rfl, .inr rfl⟩
    · rename_i hbad
      cases h
      have hs := numEnd_shape hb hj
      have hf : badB (b.take k) = false := by simpa using hbad
      obtain ⟨m, hm, em⟩ := (badB_iff hs).1 hf
      have hj' := numEnd_le hj
      have hlen : (b.take k).length = k := by simp; omega
      refine .inl ⟨rfl, ?_, ?_, ?_⟩
      · rw [em, (shape_leb m).2.2]; exact hm
      · rw [em, (shape_leb m).2.2]
      · rw [em, (shape_leb m).2.2, ← em, hlen]
theorem rdNum_le (b : List Int) : (rdNum b).2.1 ≤ b.length := by
  unfold rdNum
  split
  · exact Nat.le_refl _
  · rename_i j hj
    have := (numEnd_le hj).2
    split <;> exact this

end Go.Proofs.Ytbbfmlehddfneaa

namespace Go.Proofs.Ytbbfmlehddfneaa
open Go.RowKit
set_option linter.unusedVariables false

/-- a Reader of the call's own at p: its bytes l, of which k have been read, its error; it lives in the blocks F -/
def Rdr (w : World) (base p : Nat) (l : List Int) (k : Nat) (err : Int) (F : List Nat) : Prop :=
  ∃ v, Blk w p #[v, .int .i64 k, .int .i64 err] 107 ∧ Own w base v l ∧ base ≤ p ∧ F = p :: v.ownBlock.toList ∧ (∀ x, v.ownBlock = some x → x ≠ p) ∧ k ≤ l.length ∧ (∀ y ∈ l, 0 ≤ y ∧ y ≤ 255) ∧ l.length < 1000000
theorem Rdr.kept {w w' : World} {base p : Nat} {l : List Int} {k : Nat} {err : Int} {F O : List Nat} (h : Rdr w base p l k err F) (hc : Calm O w w') (hO : ∀ b ∈ F, b ∉ O) : Rdr w' base p l k err F := by
  obtain ⟨v, B, ho, hb, rfl, hne, hk⟩ := h
  exact ⟨v, B.calm hc (hO p (by simp)), ho.calm hc (fun k hk => hO k (by simp [hk])), hb, rfl, hne, hk⟩
theorem Rdr.ext {w w' : World} {base p : Nat} {l : List Int} {k : Nat} {err : Int} {F : List Nat} (h : Rdr w base p l k err F) (hx : Ext w w') : Rdr w' base p l k err F := by
  obtain ⟨v, B, ho, hb, rfl, hne, hk⟩ := h
  exact ⟨v, B.ext hx, ho.ext hx, hb, rfl, hne, hk⟩
theorem Rdr.lt {w : World} {base p : Nat} {l : List Int} {k : Nat} {err : Int} {F : List Nat} (h : Rdr w base p l k err F) : ∀ b ∈ F, base ≤ b ∧ b < w.heap.size := by
  obtain ⟨v, B, ho, hb, rfl, hne, hk⟩ := h
  intro b hm
  rcases List.mem_cons.1 hm with rfl | hm
  · exact ⟨hb, B.lt⟩
  · exact ho.lt b (Option.mem_toList.1 hm)
theorem Rdr.mono {w : World} {base base' p : Nat} {l : List Int} {k : Nat} {err : Int} {F : List Nat} (h : Rdr w base p l k err F) (hb' : base' ≤ base) : Rdr w base' p l k err F := by
  obtain ⟨v, B, ho, hb, rfl, hne, hk⟩ := h
  exact ⟨v, B, ho.mono hb', Nat.le_trans hb' hb, rfl, hne, hk⟩
theorem Rdr.most {w : World} {base p : Nat} {l : List Int} {k : Nat} {err : Int} {F : List Nat} (h : Rdr w base p l k err F) : k ≤ l.length ∧ l.length < 1000000 := by
  obtain ⟨v, B, ho, hb, rfl, hne, hk⟩ := h
  exact ⟨hk.1, hk.2.2⟩
theorem Rdr.bytes {w : World} {base p : Nat} {l : List Int} {k : Nat} {err : Int} {F : List Nat} (h : Rdr w base p l k err F) : ∀ y ∈ l, 0 ≤ y ∧ y ≤ 255 := by
  obtain ⟨v, B, ho, hb, rfl, hne, hk⟩ := h
  exact hk.2.1
theorem Rdr.mem {w : World} {base p : Nat} {l : List Int} {k : Nat} {err : Int} {F : List Nat} (h : Rdr w base p l k err F) : p ∈ F := by
  obtain ⟨v, B, ho, hb, rfl, hne, hk⟩ := h
  simp
/-- a store into the reader's own block -/
theorem Rdr.set {w : World} {base p : Nat} {l : List Int} {k : Nat} {err : Int} {F : List Nat} (h : Rdr w base p l k err F) (i : Nat) (u : Value) (k' : Nat) (err' : Int) (hk' : k' ≤ l.length)
    (hz : ∀ v, (#[v, Value.int .i64 k, .int .i64 err].setIfInBounds i u) = #[v, .int .i64 k', .int .i64 err'] ) : Rdr (w.setCell ⟨p, i, none⟩ u) base p l k' err' F ∧ Step F F w (w.setCell ⟨p, i, none⟩ u) := by
  obtain ⟨v, B, ho, hb, rfl, hne, hk⟩ := h
  refine ⟨⟨v, ?_, ho.kept (fun x hx => Below.heap_setCell _ _ _ _ (hne x hx)), hb, rfl, hne, hk', hk.2⟩, ⟨⟨rfl, rfl, rfl, by simp, fun x hx hO => ?_⟩, fun b hm => .inl hm⟩⟩
  · have := B.set i u
    rw [hz v] at this
    exact this
  · simp only [List.mem_cons, not_or] at hO
    exact Below.heap_setCell _ _ _ _ hO.1

set_option maxRecDepth 100000 in
theorem rd_read (w : World) (v : Value) (l : List Int) (h : Arr w .u8 v l) (hlen : l.length < 1000000) :
    Calls Try.prog 20 #[v] w fun e w' => ∃ p F, e = .returned (.pointer (some ⟨p, 0, none⟩)) ∧ Rdr w' w.heap.size p l 0 0 F ∧ Ext w w' := by
  go_enter Try.func20, Try.ntmps20
  go_wp2_with fail
  refine (clone_any _ _ _ h (by omega)).mono ?_
  rintro e w1 ⟨v', rfl, o1, x1⟩
  obtain ⟨ao, c', rfl, -, -⟩ := o1.slice
  have hz := x1.size
  go_wp2
  go_ret
  refine ⟨_, _, rfl, ⟨_, Blk.new _ _ _, o1.alloc _, hz, rfl, fun x hx => ?_, Nat.zero_le _, h.bd, hlen⟩, x1.alloc _ _⟩
  have := o1.lt x hx
  omega
/-- the error behind Fail(n) -/
def errOr (err n : Int) : Int := if err = 0 then n else err
theorem errOr_zero (n : Int) : errOr 0 n = n := rfl
theorem errOr_ne {err n : Int} (h : err ≠ 0) : errOr err n = err := if_neg h
/-- how many bytes are left -/
def leftOf (err : Int) (n k : Nat) : Int := if err = 0 then (n : Int) - k else 0
theorem leftOf_zero (n k : Nat) : leftOf 0 n k = (n : Int) - k := rfl
theorem leftOf_ne {err : Int} {n k : Nat} (h : err ≠ 0) : leftOf err n k = 0 := if_neg h
theorem rd_err (w : World) (base p : Nat) (l : List Int) (k : Nat) (err : Int) (F : List Nat) (h : Rdr w base p l k err F) :
    Calls Try.prog 42 #[.pointer (some ⟨p, 0, none⟩)] w fun e w' => e = .returned (.int .i64 err) ∧ w = w' := by
  obtain ⟨v, B, ho, hb, rfl, hne, hk⟩ := h
  have cB := B.cell
  go_enter Try.func42, Try.ntmps42
  go_wp2
  go_ret
  exact ⟨rfl, rfl⟩
theorem rd_at (w : World) (base p : Nat) (l : List Int) (k : Nat) (err : Int) (F : List Nat) (h : Rdr w base p l k err F) :
    Calls Try.prog 69 #[.pointer (some ⟨p, 0, none⟩)] w fun e w' => e = .returned (.int .i64 k) ∧ w = w' := by
  obtain ⟨v, B, ho, hb, rfl, hne, hk⟩ := h
  have cB := B.cell
  go_enter Try.func69, Try.ntmps69
  go_wp2
  go_ret
  exact ⟨rfl, rfl⟩
set_option maxRecDepth 100000 in
theorem rd_left (w : World) (base p : Nat) (l : List Int) (k : Nat) (err : Int) (F : List Nat) (h : Rdr w base p l k err F) :
    Calls Try.prog 41 #[.pointer (some ⟨p, 0, none⟩)] w fun e w' => e = .returned (.int .i64 (leftOf err l.length k)) ∧ Qt w w' := by
  have h' := h
  obtain ⟨v, B, ho, hb, rfl, hne, hk⟩ := h
  obtain ⟨ao, c', rfl, -, -⟩ := ho.slice
  have cB := B.cell
  by_cases he : err = 0
  · subst he
    rw [leftOf_zero]
    go_enter Try.func41, Try.ntmps41
    go_wp2_with fail
    refine (rd_err _ _ _ _ _ _ _ h').mono ?_
    rintro e w1 ⟨rfl, rfl⟩
    go_wp2
    go_quiet (fail)
    go_wp2
    go_ret
    exact ⟨rfl, _, rfl⟩
  · rw [leftOf_ne he]
    go_enter Try.func41, Try.ntmps41
    go_wp2_with fail
    refine (rd_err _ _ _ _ _ _ _ h').mono ?_
    rintro e w1 ⟨rfl, rfl⟩
    go_wp2
    go_ret
    exact ⟨rfl, Qt.refl _⟩
set_option maxRecDepth 100000 in
theorem rd_fail (w : World) (base p : Nat) (l : List Int) (k : Nat) (err n : Int) (F : List Nat) (h : Rdr w base p l k err F) :
    Calls Try.prog 54 #[.pointer (some ⟨p, 0, none⟩), .int .i64 n] w fun e w' => e = .returned (.tuple #[]) ∧ Rdr w' base p l k (errOr err n) F ∧ Step F F w w' := by
  have h' := h
  obtain ⟨v, B, ho, hb, rfl, hne, hk⟩ := h
  have cB := B.cell
  have fB := B.frozen
  by_cases he : err = 0
  · subst he
    rw [errOr_zero]
    go_enter Try.func54, Try.ntmps54
    go_wp2
    refine bodyPost_end (v := .tuple #[]) (by simp [results, Try.results54]) rfl ⟨rfl, ?_⟩
    exact h'.set 2 (.int .i64 n) k n hk.1 (fun v => rfl)
  · rw [errOr_ne he]
    go_enter Try.func54, Try.ntmps54
    go_wp2
    exact bodyPost_ret (v := .tuple #[]) (by simp [results, Try.results54]) rfl ⟨rfl, h', Step.refl _ _⟩
/-- Byte, while there is no error and a byte is left -/
theorem Rdr.qt {w w' : World} {base p : Nat} {l : List Int} {k : Nat} {err : Int} {F : List Nat} (h : Rdr w base p l k err F) (hx : Qt w w') : Rdr w' base p l k err F := h.ext ((Ext.refl w).qt hx)
theorem Step.qt {F : List Nat} {w w' : World} (hx : Qt w w') : Step F F w w' := by
  obtain ⟨n, rfl⟩ := hx
  exact ⟨⟨rfl, rfl, rfl, Nat.le_refl _, fun x hx hO => rfl⟩, fun b hm => .inl hm⟩
set_option maxRecDepth 100000 in
theorem rd_byte (w : World) (base p : Nat) (l : List Int) (k : Nat) (F : List Nat) (h : Rdr w base p l k 0 F) (y : Int) (hy : l[k]? = some y) :
    Calls Try.prog 58 #[.pointer (some ⟨p, 0, none⟩)] w fun e w' => e = .returned (.int .u8 y) ∧ Rdr w' base p l (k + 1) 0 F ∧ Step F F w w' := by
  have hkl : k < l.length := (List.getElem?_eq_some_iff.1 hy).1
  have hmost := h.most
  go_enter Try.func58, Try.ntmps58
  go_wp2_with fail
  refine (rd_left _ _ _ _ _ _ _ h).mono ?_
  rintro e w1 ⟨rfl, q1⟩
  rw [leftOf_zero]
  have h1 := h.qt q1
  have s1 : Step F F w w1 := Step.qt q1
  clear h
  have h1' := h1
  obtain ⟨v, B, ho, hb, rfl, hne, hk⟩ := h1
  obtain ⟨ao, c', rfl, hnone, hadr⟩ := ho.slice
  obtain ⟨g, rfl⟩ : ∃ g, ao = some ⟨g, 0, none⟩ := by
    cases ao with
    | none => have := (hnone rfl).1; subst this; simp at hkl
    | some a => exact ⟨a.block, by rw [← hadr a rfl]⟩
  have hcell := ho.cell k y hy
  have hgp := hne g rfl
  clear hadr hnone
  have cB := B.cell
  have fB := B.frozen
  go_wp2
  obtain ⟨h2, s2⟩ := h1'.set 1 (.int .i64 ((k : Int) + 1)) (k + 1) 0 (by omega) (fun v => by simp)
  have hcell2 : (w1.setCell ⟨p, 1, none⟩ (.int .i64 ((k : Int) + 1))).cell? ⟨g, k, none⟩ = some (.int .u8 y) := by
    rw [World.cell?_of_block (Below.heap_setCell _ _ _ _ hgp)]
    exact hcell
  have cB2 := (B.set 1 (.int .i64 ((k : Int) + 1))).cell
  have hi1 : IntKind.i64.wrap ((k : Int) + 1 - 1) = k := by rw [IntWalk.i64_in _ (by omega)]; omega
  generalize w1.setCell ⟨p, 1, none⟩ (.int .i64 ((k : Int) + 1)) = w2 at *
  go_quiet (fail)
  go_wp2
  go_ret
  exact ⟨rfl, h2.qt ⟨_, rfl⟩, (s1.trans s2).trans (Step.qt ⟨_, rfl⟩)⟩
end Go.Proofs.Ytbbfmlehddfneaa

namespace Go.Proofs.Ytbbfmlehddfneaa
open Go.RowKit
set_option linter.unusedVariables false

theorem valB_take_succ : ∀ (i : Nat) (b : List Int) (y : Int), b[i]? = some y → valB (b.take (i + 1)) = valB (b.take i) + (y % 128).toNat * 128 ^ i
  | 0, [], y, h => by cases h
  | 0, z :: r, y, h => by simp at h; subst h; simp [valB]
  | i + 1, [], y, h => by cases h
  | i + 1, z :: r, y, h => by
    have := valB_take_succ i r y (by simpa using h)
    rw [List.take_succ_cons, List.take_succ_cons]
    simp only [valB]
    rw [this, Nat.mul_add, Nat.pow_succ, Nat.add_assoc]
    congr 2
    rw [Nat.mul_left_comm 128, Nat.mul_comm 128]
theorem valB_take_lt : ∀ (i : Nat) (b : List Int), valB (b.take i) < 128 ^ i
  | 0, b => by simp [valB]
  | i + 1, [] => by simp [valB]; exact Nat.pow_pos (by omega)
  | i + 1, z :: r => by
    have := valB_take_lt i r
    rw [List.take_succ_cons, Nat.pow_succ]
    simp only [valB]
    omega
theorem pow128 (i : Nat) : (128 : Nat) ^ i = 2 ^ (7 * i) := by rw [Nat.pow_mul]
/-- one byte more, as the program joins it -/
theorem join_byte {i n : Nat} {y : Int} (hn : n < 128 ^ i) (hi : i < 10) (hy : 0 ≤ y ∧ y ≤ 255) (h9 : i = 9 → y ≤ 1) : bits .or .u64 (n : Int) (IntKind.u64.wrap (y % 128 * 2 ^ (7 * i))) = ((n + (y % 128).toNat * 128 ^ i : Nat) : Int) := by
  obtain ⟨d, hd⟩ : ∃ d : Nat, y % 128 = d := ⟨(y % 128).toNat, by omega⟩
  have hd1 : d < 128 := by omega
  have hd9 : i = 9 → d ≤ 1 := fun h => by have := h9 h; omega
  rw [hd, Int.toNat_natCast]
  have hfit : d * 128 ^ i < 18446744073709551616 := by
    by_cases h : i = 9
    · subst h
      have : d * 128 ^ 9 ≤ 1 * 128 ^ 9 := Nat.mul_le_mul_right _ (hd9 rfl)
      omega
    · have h1 : (128 : Nat) ^ i ≤ 128 ^ 8 := Nat.pow_le_pow_right (by omega) (by omega)
      have h2 : d * 128 ^ i ≤ 127 * 128 ^ i := Nat.mul_le_mul_right _ (by omega)
      omega
  have hn64 : n < 18446744073709551616 := by
    have h1 : (128 : Nat) ^ i ≤ 128 ^ 9 := Nat.pow_le_pow_right (by omega) (by omega)
    omega
  have ec : ((d : Int) * 2 ^ (7 * i)) = ((d * 128 ^ i : Nat) : Int) := by
    rw [pow128]
    push_cast
    rfl
  rw [ec, wraps_u64 _ (by omega) (by omega), u64_or_nat _ _ hn64 hfit]
  congr 1
  rw [pow128] at hn ⊢
  rw [Nat.mul_comm, Nat.or_comm, Nat.add_comm]
  exact (Nat.two_pow_add_eq_or_of_lt hn d).symm
set_option maxRecDepth 100000 in
theorem decoded_bad (w : World) (v : Value) (b : List Int) (h : Arr w .u8 v b) (hs : Shape b) (hlen : b.length < 1000000) (hbad : badB b = true) :
    Calls Try.prog 70 #[v] w fun e w' => e = .returned (.tuple #[.int .u64 0, .bool false]) ∧ w = w' := by
  have hb := h.bd
  obtain ⟨⟨ao, c, rfl, h1, h2, h3⟩, h4, h5⟩ := h
  obtain ⟨g, off, rfl, hcell⟩ := h2 hs.ne
  have hne : 0 < b.length := List.length_pos_iff.2 hs.ne
  have hlast := lastB_getD b hs.ne
  have hlr := hs.last
  have hl1 : w.cell? ⟨g, off + (b.length - 1), none⟩ = some (.int .u8 (lastB b)) := by
    rw [hcell _ (by omega)]
    simp [List.getD, hlast]
  have hi1 : ((b.length : Int) - 1).toNat = b.length - 1 := by omega
  clear hcell h2 h3 h5 hb
  by_cases c1 : 1 < b.length ∧ lastB b = 0
  · obtain ⟨c1a, c1b⟩ := c1
    go_enter Try.func70, Try.ntmps70
    go_wp2
    all_goals exact bodyPost_ret (v := .tuple #[.int .u64 0, .bool false]) (by simp [results, Try.results70]) rfl ⟨rfl, rfl⟩
  · have hc : 10 < b.length ∨ b.length = 10 ∧ 1 < lastB b := by
      unfold badB at hbad
      simp at hbad
      rcases hbad with hbad | hbad
      · exact absurd hbad c1
      · exact hbad
    clear hbad hlast
    rcases hc with hc | ⟨hc1, hc2⟩
    · have n0 : decide (lastB b = 0) = false := by simp; omega
      have n1 : decide (1 < b.length) = true := by simp; omega
      clear c1
      go_enter Try.func70, Try.ntmps70
      go_wp2
      all_goals exact bodyPost_ret (v := .tuple #[.int .u64 0, .bool false]) (by simp [results, Try.results70]) rfl ⟨rfl, rfl⟩
    · have n0 : decide (lastB b = 0) = false := by simp; omega
      have n1 : decide (1 < b.length) = true := by simp; omega
      have hl9 : w.cell? ⟨g, off + 9, none⟩ = some (.int .u8 (lastB b)) := by rw [hc1] at hl1; exact hl1
      clear c1 hl1
      go_enter Try.func70, Try.ntmps70
      go_wp2
      all_goals exact bodyPost_ret (v := .tuple #[.int .u64 0, .bool false]) (by simp [results, Try.results70]) rfl ⟨rfl, rfl⟩
set_option maxRecDepth 100000 in
theorem decoded_good (w : World) (v : Value) (b : List Int) (h : Arr w .u8 v b) (hs : Shape b) (hlen : b.length < 1000000) (hbad : badB b = false) :
    Calls Try.prog 70 #[v] w fun e w' => e = .returned (.tuple #[.int .u64 (valB b : Nat), .bool true]) ∧ w = w' := by
  have hb := h.bd
  obtain ⟨⟨ao, c, rfl, h1, h2, h3⟩, h4, h5⟩ := h
  obtain ⟨g, off, rfl, hcell⟩ := h2 hs.ne
  have hne : 0 < b.length := List.length_pos_iff.2 hs.ne
  have hlast := lastB_getD b hs.ne
  have hlr := hs.last
  have hl1 : w.cell? ⟨g, off + (b.length - 1), none⟩ = some (.int .u8 (lastB b)) := by
    rw [hcell _ (by omega)]
    simp [List.getD, hlast]
  have hi1 : ((b.length : Int) - 1).toNat = b.length - 1 := by omega
  have hgood : ¬ (1 < b.length ∧ lastB b = 0) ∧ b.length ≤ 10 ∧ (b.length = 10 → lastB b ≤ 1) := by
    unfold badB at hbad
    simp at hbad
    obtain ⟨x, y, z⟩ := hbad
    exact ⟨fun h => x h.1 h.2, y, z⟩
  obtain ⟨g1, g2, g3⟩ := hgood
  have HC := Lib.hid hcell
  clear hbad h2 h3 h5 hcell
  have hcases : b.length = 1 ∨ (1 < b.length ∧ b.length < 10 ∧ lastB b ≠ 0) ∨ (b.length = 10 ∧ lastB b = 1) := by omega
  rcases hcases with hc | ⟨hc1, hc2, hc3⟩ | ⟨hc1, hc2⟩
  · have hl0 : w.cell? ⟨g, off, none⟩ = some (.int .u8 (lastB b)) := by rw [hc] at hl1; exact hl1
    go_enter Try.func70, Try.ntmps70
    go_wp2
    go_loopg [5, 35] b.length (fun k nv iv wr => ∃ i : Nat, i + k = b.length ∧ iv = .int .i64 i ∧ nv = .int .u64 (valB (b.take i) : Nat) ∧ w = wr)
    case atStart => exact ⟨0, by omega, rfl, by simp [valB], rfl⟩
    case round =>
      obtain ⟨i, hik, rfl, rfl, rfl⟩ := hrel
      by_cases hi : i < b.length
      · obtain ⟨y, hy⟩ : ∃ y, b[i]? = some y := ⟨b[i], by simp [hi]⟩
        have hyb := hb y (List.mem_of_getElem? hy)
        have hci : w.cell? ⟨g, off + i, none⟩ = some (.int .u8 y) := by rw [HC.out i hi]; simp [List.getD, hy]
        have hjoin := join_byte (valB_take_lt i b) (by omega) hyb (fun h9 => by
          subst h9
          have e10 : b.length = 10 := by omega
          have := hlast
          rw [e10] at this
          have h9 : b[9]? = some (lastB b) := this
          rw [hy] at h9
          cases h9
          exact g3 e10)
        rw [← valB_take_succ i b y hy] at hjoin
        go_wp2
        go_roundg (gk - 1)
        case measure => omega
        case rel => exact ⟨i + 1, by omega, by simp, by simp, rfl⟩
      · have e : i = b.length := by omega
        subst e
        go_wp2
        refine bodyPost_ret (v := .tuple #[.int .u64 (valB b : Nat), .bool true]) (by simp [results, Try.results70]) rfl ⟨rfl, rfl⟩
  · have n0 : decide (lastB b = 0) = false := by simp; omega
    have n2 : decide (10 < b.length) = false := by simp; omega
    have n3 : decide (b.length = 10) = false := by simp; omega
    go_enter Try.func70, Try.ntmps70
    go_wp2
    go_loopg [5, 35] b.length (fun k nv iv wr => ∃ i : Nat, i + k = b.length ∧ iv = .int .i64 i ∧ nv = .int .u64 (valB (b.take i) : Nat) ∧ w = wr)
    case atStart => exact ⟨0, by omega, rfl, by simp [valB], rfl⟩
    case round =>
      obtain ⟨i, hik, rfl, rfl, rfl⟩ := hrel
      by_cases hi : i < b.length
      · obtain ⟨y, hy⟩ : ∃ y, b[i]? = some y := ⟨b[i], by simp [hi]⟩
        have hyb := hb y (List.mem_of_getElem? hy)
        have hci : w.cell? ⟨g, off + i, none⟩ = some (.int .u8 y) := by rw [HC.out i hi]; simp [List.getD, hy]
        have hjoin := join_byte (valB_take_lt i b) (by omega) hyb (fun h9 => by
          subst h9
          have e10 : b.length = 10 := by omega
          have := hlast
          rw [e10] at this
          have h9 : b[9]? = some (lastB b) := this
          rw [hy] at h9
          cases h9
          exact g3 e10)
        rw [← valB_take_succ i b y hy] at hjoin
        go_wp2
        go_roundg (gk - 1)
        case measure => omega
        case rel => exact ⟨i + 1, by omega, by simp, by simp, rfl⟩
      · have e : i = b.length := by omega
        subst e
        go_wp2
        refine bodyPost_ret (v := .tuple #[.int .u64 (valB b : Nat), .bool true]) (by simp [results, Try.results70]) rfl ⟨rfl, rfl⟩
  · have n0 : decide (lastB b = 0) = false := by simp; omega
    have hl9 : w.cell? ⟨g, off + 9, none⟩ = some (.int .u8 (lastB b)) := by rw [hc1] at hl1; exact hl1
    go_enter Try.func70, Try.ntmps70
    go_wp2
    go_loopg [5, 35] b.length (fun k nv iv wr => ∃ i : Nat, i + k = b.length ∧ iv = .int .i64 i ∧ nv = .int .u64 (valB (b.take i) : Nat) ∧ w = wr)
    case atStart => exact ⟨0, by omega, rfl, by simp [valB], rfl⟩
    case round =>
      obtain ⟨i, hik, rfl, rfl, rfl⟩ := hrel
      by_cases hi : i < b.length
      · obtain ⟨y, hy⟩ : ∃ y, b[i]? = some y := ⟨b[i], by simp [hi]⟩
        have hyb := hb y (List.mem_of_getElem? hy)
        have hci : w.cell? ⟨g, off + i, none⟩ = some (.int .u8 y) := by rw [HC.out i hi]; simp [List.getD, hy]
        have hjoin := join_byte (valB_take_lt i b) (by omega) hyb (fun h9 => by
          subst h9
          have e10 : b.length = 10 := by omega
          have := hlast
          rw [e10] at this
          have h9 : b[9]? = some (lastB b) := this
          rw [hy] at h9
          cases h9
          exact g3 e10)
        rw [← valB_take_succ i b y hy] at hjoin
        go_wp2
        go_roundg (gk - 1)
        case measure => omega
        case rel => exact ⟨i + 1, by omega, by simp, by simp, rfl⟩
      · have e : i = b.length := by omega
        subst e
        go_wp2
        refine bodyPost_ret (v := .tuple #[.int .u64 (valB b : Nat), .bool true]) (by simp [results, Try.results70]) rfl ⟨rfl, rfl⟩
/-- Byte, where there is none to take -/
theorem rd_byte_no (w : World) (base p : Nat) (l : List Int) (k : Nat) (err : Int) (F : List Nat) (h : Rdr w base p l k err F) (hno : err ≠ 0 ∨ k = l.length) :
    Calls Try.prog 58 #[.pointer (some ⟨p, 0, none⟩)] w fun e w' => e = .returned (.int .u8 0) ∧ Rdr w' base p l k (errOr err 3) F ∧ Step F F w w' := by
  have hz : leftOf err l.length k = 0 := by unfold leftOf; split <;> omega
  go_enter Try.func58, Try.ntmps58
  go_wp2_with fail
  refine (rd_left _ _ _ _ _ _ _ h).mono ?_
  rintro e w1 ⟨rfl, q1⟩
  rw [hz]
  have h1 := h.qt q1
  have s1 : Step F F w w1 := Step.qt q1
  clear h
  go_wp2_with fail
  refine (rd_fail _ _ _ _ _ _ 3 _ h1).mono ?_
  rintro e w2 ⟨rfl, h2, s2⟩
  go_wp2
  go_ret
  exact ⟨rfl, h2, s1.trans s2⟩
end Go.Proofs.Ytbbfmlehddfneaa

namespace Go.Proofs.Ytbbfmlehddfneaa
open Go.RowKit
set_option linter.unusedVariables false

theorem Own.cap {w : World} {base : Nat} {l : List Int} {ao : Option Addr} {n c : Nat} (h : Own w base (.slice ao n c) l) : n ≤ c ∧ c ≤ maxLen := by
  rcases h.2 with ⟨h1, _⟩ | ⟨g, cap, cur, e, a1, a2, a3, a4, a5, a6⟩
  · cases h1; exact ⟨Nat.le_refl _, Nat.zero_le _⟩
  · cases e; exact ⟨a3, a4⟩
/-- a part of a slice of the call's own -/
theorem Own.sub {w : World} {base : Nat} {l : List Int} {g c : Nat} (h : Own w base (.slice (some ⟨g, 0, none⟩) l.length c) l) (hb : ∀ y ∈ l, 0 ≤ y ∧ y ≤ 255) (k j : Nat) (hj : k + j ≤ l.length) : Arr w .u8 (.slice (some ⟨g, k, none⟩) j (c - k)) ((l.drop k).take j) := by
  have hlen : ((l.drop k).take j).length = j := by simp; omega
  have hcap := h.cap
  refine ⟨⟨_, c - k, by rw [hlen], by rw [hlen]; omega, fun _ => ⟨g, k, rfl, fun i hi => ?_⟩, fun h => by cases h⟩, by rw [hlen]; omega, fun n hn => wfu8 (hb n (List.mem_of_mem_drop (List.mem_of_mem_take hn)))⟩
  rw [hlen] at hi
  rw [h.cell (k + i) (l.getD (k + i) 0) (by
    have : k + i < l.length := by omega
    simp [this])]
  congr 2
  simp [List.getD, hi, List.getElem?_drop]
set_option maxRecDepth 100000 in
theorem rd_number (w : World) (base p : Nat) (l : List Int) (k : Nat) (F : List Nat) (h : Rdr w base p l k 0 F) (n j : Nat) (e : Int) (hrd : rdNum (l.drop k) = (n, j, e)) :
    Calls Try.prog 53 #[.pointer (some ⟨p, 0, none⟩)] w fun r w' => r = .returned (.int .u64 n) ∧ Rdr w' base p l (k + j) e F ∧ Step F F w w' := by
  have hmost := h.most
  have hby := h.bytes
  have HR := Lib.hid hrd
  clear hrd
  go_enter Try.func53, Try.ntmps53
  go_wp2_with fail
  refine (rd_at _ _ _ _ _ _ _ h).mono ?_
  rintro e w1 ⟨rfl, rfl⟩
  go_wp2
  go_loopg [] (l.length - k) (fun gk wr => ∃ i : Nat, i + gk = l.length - k ∧ Rdr wr base p l (k + i) 0 F ∧ (∀ y ∈ (l.drop k).take i, 128 ≤ y) ∧ Step F F w wr)
  case atStart => exact ⟨0, by omega, h, by simp, Step.refl _ _⟩
  case round =>
    obtain ⟨i, hik, hr, hbig, hs⟩ := hrel
    have HB := Lib.hid hbig
    clear hbig
    by_cases hi : k + i < l.length
    · obtain ⟨y, hy⟩ : ∃ y, l[k + i]? = some y := ⟨l[k + i], by simp [hi]⟩
      have hyb := hby y (List.mem_of_getElem? hy)
      go_wp2_with fail
      refine (rd_byte _ _ _ _ _ _ hr y hy).mono ?_
      rintro e1 w2 ⟨rfl, h2, s2⟩
      by_cases hy2 : 128 ≤ y
      · go_wp2
        go_roundg (gk - 1)
        case measure => omega
        case rel =>
          refine ⟨i + 1, by omega, h2, ?_, hs.trans s2⟩
          intro x hx
          rw [List.take_add_one, List.mem_append] at hx
          rcases hx with hx | hx
          · exact HB.out x hx
          · rw [List.getElem?_drop, hy] at hx
            simp at hx
            omega
      · go_wp2_with fail
        refine (rd_err _ _ _ _ _ _ _ h2).mono ?_
        rintro e2 w3 ⟨rfl, rfl⟩
        have hend : numEnd (l.drop k) = some (i + 1) := by
          rw [numEnd_skip i _ HB.out (by simp; omega), List.drop_drop]
          rw [List.drop_eq_getElem_cons hi]
          have : l[k + i] = y := by
            rw [List.getElem?_eq_getElem hi] at hy
            exact Option.some.inj hy
          rw [this]
          simp [numEnd, hy2]
          omega
        have hsh := numEnd_shape (fun x hx => hby x (List.mem_of_mem_drop hx)) hend
        have hr' := HR.out
        unfold rdNum at hr'
        rw [hend] at hr'
        dsimp only at hr'
        have h2' := h2
        obtain ⟨v, B, ho, hb, rfl, hne, hk⟩ := h2
        obtain ⟨ao, c', rfl, hnone, hadr⟩ := ho.slice
        obtain ⟨g, rfl⟩ : ∃ g, ao = some ⟨g, 0, none⟩ := by
          cases ao with
          | none => have := (hnone rfl).1; subst this; simp at hi
          | some a => exact ⟨a.block, by rw [← hadr a rfl]⟩
        clear hadr hnone
        have cB := B.cell
        have hcap := ho.cap
        have hlen : ((l.drop k).take (i + 1)).length = i + 1 := by simp; omega
        have hA : Arr w2 .u8 (.slice (some ⟨g, k, none⟩) (k + i + 1 - k) (c' - k)) ((l.drop k).take (i + 1)) := by
          rw [show k + i + 1 - k = i + 1 by omega]
          exact ho.sub hby k (i + 1) (by omega)
        have hl6 : ((l.drop k).take (i + 1)).length < 1000000 := by omega
        cases hbad : badB ((l.drop k).take (i + 1)) with
        | true =>
          rw [hbad] at hr'
          cases hr'
          go_wp2
          go_quiet ((go_at_call 70; exact quiet_eq (decoded_bad _ _ _ (hA.ext ((Ext.refl _).drewN _)) hsh hl6 hbad)))
          go_wp2_with fail
          refine (rd_fail _ _ _ _ _ _ 4 _ (h2'.qt ⟨_, rfl⟩)).mono ?_
          rintro e3 w3 ⟨rfl, h3, s3⟩
          rw [errOr_zero] at h3
          go_wp2
          go_ret
          exact ⟨rfl, h3, (hs.trans s2).trans ((Step.qt ⟨_, rfl⟩).trans s3)⟩
        | false =>
          rw [hbad] at hr'
          cases hr'
          go_wp2
          go_quiet ((go_at_call 70; exact quiet_eq (decoded_good _ _ _ (hA.ext ((Ext.refl _).drewN _)) hsh hl6 hbad)))
          go_wp2
          go_ret
          exact ⟨rfl, h2'.qt ⟨_, rfl⟩, (hs.trans s2).trans (Step.qt ⟨_, rfl⟩)⟩
    · have ek : k + i = l.length := by omega
      go_wp2_with fail
      refine (rd_byte_no _ _ _ _ _ _ _ hr (.inr ek)).mono ?_
      rintro e1 w2 ⟨rfl, h2, s2⟩
      rw [errOr_zero] at h2
      go_wp2_with fail
      refine (rd_err _ _ _ _ _ _ _ h2).mono ?_
      rintro e2 w3 ⟨rfl, rfl⟩
      have hend : numEnd (l.drop k) = none := by
        rw [numEnd_skip i _ HB.out (by simp; omega), List.drop_drop, List.drop_eq_nil_of_le (by omega)]
        rfl
      have hr' := HR.out
      unfold rdNum at hr'
      rw [hend] at hr'
      cases hr'
      go_wp2
      go_ret
      refine ⟨rfl, ?_, hs.trans s2⟩
      rw [List.length_drop, show k + (l.length - k) = k + i by omega]
      exact h2
end Go.Proofs.Ytbbfmlehddfneaa

namespace Go.Proofs.Ytbbfmlehddfneaa
open Go.RowKit
set_option linter.unusedVariables false

/-- what a read of a number comes to: the number, how many bytes more are read, the error -/
def rdAt (err : Int) (b : List Int) : Nat × Nat × Int := if err = 0 then rdNum b else (0, 0, err)
theorem rdAt_zero (b : List Int) : rdAt 0 b = rdNum b := rfl
theorem rdAt_ne {err : Int} {b : List Int} (h : err ≠ 0) : rdAt err b = (0, 0, err) := if_neg h
theorem rdAt_lt {err : Int} {b : List Int} (hb : ∀ y ∈ b, 0 ≤ y ∧ y ≤ 255) {n j : Nat} {e : Int} (h : rdAt err b = (n, j, e)) : n < 18446744073709551616 ∧ (n ≠ 0 → e = 0) := by
  unfold rdAt at h
  split at h
  · rcases rdNum_ok hb h with ⟨h1, h2, _⟩ | ⟨h1, _⟩
    · exact ⟨h2, fun _ => h1⟩
    · exact ⟨by omega, fun hn => absurd h1 hn⟩
  · cases h
    exact ⟨by omega, fun hn => absurd rfl hn⟩
set_option maxRecDepth 100000 in
theorem rd_number_no (w : World) (base p : Nat) (l : List Int) (k : Nat) (err : Int) (F : List Nat) (h : Rdr w base p l k err F) (he : err ≠ 0) :
    Calls Try.prog 53 #[.pointer (some ⟨p, 0, none⟩)] w fun r w' => r = .returned (.int .u64 0) ∧ Rdr w' base p l k err F ∧ Step F F w w' := by
  go_enter Try.func53, Try.ntmps53
  go_wp2_with fail
  refine (rd_at _ _ _ _ _ _ _ h).mono ?_
  rintro e w1 ⟨rfl, rfl⟩
  go_wp2
  go_loopg [] 0 (fun gk wr => w = wr)
  case atStart => rfl
  case round =>
    subst hrel
    go_wp2_with fail
    refine (rd_byte_no _ _ _ _ _ _ _ h (.inl he)).mono ?_
    rintro e1 w2 ⟨rfl, h2, s2⟩
    rw [errOr_ne he] at h2
    go_wp2_with fail
    refine (rd_err _ _ _ _ _ _ _ h2).mono ?_
    rintro e2 w3 ⟨rfl, rfl⟩
    go_wp2
    go_ret
    exact ⟨rfl, h2, s2⟩
theorem rd_num (w : World) (base p : Nat) (l : List Int) (k : Nat) (err : Int) (F : List Nat) (h : Rdr w base p l k err F) (n j : Nat) (e : Int) (hrd : rdAt err (l.drop k) = (n, j, e)) :
    Calls Try.prog 53 #[.pointer (some ⟨p, 0, none⟩)] w fun r w' => r = .returned (.int .u64 n) ∧ Rdr w' base p l (k + j) e F ∧ Step F F w w' := by
  by_cases he : err = 0
  · subst he
    exact rd_number w base p l k F h n j e hrd
  · rw [rdAt_ne he] at hrd
    cases hrd
    exact rd_number_no w base p l k err F h he
theorem unfolded_any (n : Nat) (hn : n < 18446744073709551616) (w : World) :
    Calls Try.prog 71 #[.int .u64 n] w fun e w' => e = .returned (.int .i64 (unzig n)) ∧ w = w' := by
  have hu : unzig n = if n % 2 = 1 then -((n / 2 : Nat) : Int) - 1 else ((n / 2 : Nat) : Int) := rfl
  by_cases h : n % 2 = 1
  · rw [hu, if_pos h]
    have hd : decide (n % 2 = 1) = true := by simpa using h
    go_enter Try.func71, Try.ntmps71
    go_wp2
    go_ret
    exact ⟨ret_int (by omega), rfl⟩
  · rw [hu, if_neg h]
    have hd : decide (n % 2 = 1) = false := by simpa using h
    go_enter Try.func71, Try.ntmps71
    go_wp2
    go_ret
    exact ⟨ret_int (by omega), rfl⟩
theorem rd_int (w : World) (base p : Nat) (l : List Int) (k : Nat) (err : Int) (F : List Nat) (h : Rdr w base p l k err F) (n j : Nat) (e : Int) (hrd : rdAt err (l.drop k) = (n, j, e)) :
    Calls Try.prog 55 #[.pointer (some ⟨p, 0, none⟩)] w fun r w' => r = .returned (.int .i64 (unzig n)) ∧ Rdr w' base p l (k + j) e F ∧ Step F F w w' := by
  have hn := (rdAt_lt (fun y hy => h.bytes y (List.mem_of_mem_drop hy)) hrd).1
  go_enter Try.func55, Try.ntmps55
  go_wp2_with fail
  refine (rd_num _ _ _ _ _ _ _ h n j e hrd).mono ?_
  rintro e1 w1 ⟨rfl, h1, s1⟩
  go_wp2_with fail
  refine (unfolded_any n hn _).mono ?_
  rintro e2 w2 ⟨rfl, rfl⟩
  go_wp2
  go_ret
  exact ⟨rfl, h1, s1⟩
theorem rd_count (most : Int) (hm : -9223372036854775808 ≤ most ∧ most ≤ 9223372036854775807) (w : World) (base p : Nat) (l : List Int) (k : Nat) (err : Int) (F : List Nat) (h : Rdr w base p l k err F) (n j : Nat) (e : Int) (hrd : rdAt err (l.drop k) = (n, j, e)) (hle : n ≤ most.toNat) :
    Calls Try.prog 37 #[.pointer (some ⟨p, 0, none⟩), .int .i64 most] w fun r w' => r = .returned (.int .i64 n) ∧ Rdr w' base p l (k + j) e F ∧ Step F F w w' := by
  have hn := (rdAt_lt (fun y hy => h.bytes y (List.mem_of_mem_drop hy)) hrd).1
  obtain ⟨m, hmt, hmi, hn2⟩ : ∃ m : Nat, most.toNat = m ∧ (if most < 0 then 0 else most) = (m : Int) ∧ m < 9223372036854775808 := ⟨most.toNat, rfl, by split <;> omega, by omega⟩
  rw [hmt] at hle
  go_enter Try.func37, Try.ntmps37
  go_wp2_with fail
  refine (rd_num _ _ _ _ _ _ _ h n j e hrd).mono ?_
  rintro e1 w1 ⟨rfl, h1, s1⟩
  go_wp2
  go_ret
  exact ⟨rfl, h1, s1⟩
theorem rd_count_many (most : Int) (hm : -9223372036854775808 ≤ most ∧ most ≤ 9223372036854775807) (w : World) (base p : Nat) (l : List Int) (k : Nat) (err : Int) (F : List Nat) (h : Rdr w base p l k err F) (n j : Nat) (e : Int) (hrd : rdAt err (l.drop k) = (n, j, e)) (hle : most.toNat < n) :
    Calls Try.prog 37 #[.pointer (some ⟨p, 0, none⟩), .int .i64 most] w fun r w' => r = .returned (.int .i64 0) ∧ Rdr w' base p l (k + j) 7 F ∧ Step F F w w' := by
  obtain ⟨hn, he0⟩ := rdAt_lt (fun y hy => h.bytes y (List.mem_of_mem_drop hy)) hrd
  have he := he0 (by omega)
  subst he
  clear he0
  obtain ⟨m, hmt, hmi, hn2⟩ : ∃ m : Nat, most.toNat = m ∧ (if most < 0 then 0 else most) = (m : Int) ∧ m < 9223372036854775808 := ⟨most.toNat, rfl, by split <;> omega, by omega⟩
  rw [hmt] at hle
  go_enter Try.func37, Try.ntmps37
  go_wp2_with fail
  refine (rd_num _ _ _ _ _ _ _ h n j 0 hrd).mono ?_
  rintro e1 w1 ⟨rfl, h1, s1⟩
  go_wp2_with fail
  refine (rd_fail _ _ _ _ _ _ 7 _ h1).mono ?_
  rintro e2 w2 ⟨rfl, h2, s2⟩
  rw [errOr_zero] at h2
  go_wp2
  go_ret
  exact ⟨rfl, h2, s1.trans s2⟩
theorem rd_within (from' to : Int) (hf : -9223372036854775808 ≤ from' ∧ from' ≤ 9223372036854775807) (ht : -9223372036854775808 ≤ to ∧ to ≤ 9223372036854775807) (w : World) (base p : Nat) (l : List Int) (k : Nat) (err : Int) (F : List Nat) (h : Rdr w base p l k err F) (n j : Nat) (e : Int) (hrd : rdAt err (l.drop k) = (n, j, e)) (hle : from' ≤ unzig n ∧ unzig n ≤ to) :
    Calls Try.prog 86 #[.pointer (some ⟨p, 0, none⟩), .int .i64 from', .int .i64 to] w fun r w' => r = .returned (.int .i64 (unzig n)) ∧ Rdr w' base p l (k + j) e F ∧ Step F F w w' := by
  obtain ⟨hn, he0⟩ := rdAt_lt (fun y hy => h.bytes y (List.mem_of_mem_drop hy)) hrd
  have hd1 : decide (unzig n < from') = false := by simp; omega
  have hd2 : decide (to < unzig n) = false := by simp; omega
  go_enter Try.func86, Try.ntmps86
  go_wp2_with fail
  refine (rd_int _ _ _ _ _ _ _ h n j e hrd).mono ?_
  rintro e1 w1 ⟨rfl, h1, s1⟩
  go_wp2
  go_ret
  exact ⟨rfl, h1, s1⟩
theorem rd_within_out (from' to : Int) (hf : -9223372036854775808 ≤ from' ∧ from' ≤ 9223372036854775807) (ht : -9223372036854775808 ≤ to ∧ to ≤ 9223372036854775807) (w : World) (base p : Nat) (l : List Int) (k : Nat) (err : Int) (F : List Nat) (h : Rdr w base p l k err F) (n j : Nat) (e : Int) (hrd : rdAt err (l.drop k) = (n, j, e)) (hle : ¬ (from' ≤ unzig n ∧ unzig n ≤ to)) :
    Calls Try.prog 86 #[.pointer (some ⟨p, 0, none⟩), .int .i64 from', .int .i64 to] w fun r w' => r = .returned (.int .i64 0) ∧ Rdr w' base p l (k + j) (errOr e 2) F ∧ Step F F w w' := by
  obtain ⟨hn, he0⟩ := rdAt_lt (fun y hy => h.bytes y (List.mem_of_mem_drop hy)) hrd
  by_cases hc : unzig n < from'
  · have hd1 : decide (unzig n < from') = true := by simpa using hc
    go_enter Try.func86, Try.ntmps86
    go_wp2_with fail
    refine (rd_int _ _ _ _ _ _ _ h n j e hrd).mono ?_
    rintro e1 w1 ⟨rfl, h1, s1⟩
    go_wp2_with fail
    refine (rd_fail _ _ _ _ _ _ 2 _ h1).mono ?_
    rintro e2 w2 ⟨rfl, h2, s2⟩
    go_wp2
    go_ret
    exact ⟨rfl, h2, s1.trans s2⟩
  · have hd1 : decide (unzig n < from') = false := by simpa using hc
    have hc2 : to < unzig n := by omega
    have hd2 : decide (to < unzig n) = true := by simpa using hc2
    go_enter Try.func86, Try.ntmps86
    go_wp2_with fail
    refine (rd_int _ _ _ _ _ _ _ h n j e hrd).mono ?_
    rintro e1 w1 ⟨rfl, h1, s1⟩
    go_wp2_with fail
    refine (rd_fail _ _ _ _ _ _ 2 _ h1).mono ?_
    rintro e2 w2 ⟨rfl, h2, s2⟩
    go_wp2
    go_ret
    exact ⟨rfl, h2, s1.trans s2⟩
theorem rd_end (w : World) (base p : Nat) (l : List Int) (k : Nat) (err : Int) (F : List Nat) (h : Rdr w base p l k err F) :
    Calls Try.prog 23 #[.pointer (some ⟨p, 0, none⟩)] w fun e w' => e = .returned (.int .i64 (if err = 0 ∧ k < l.length then 15 else err)) ∧ Qt w w' := by
  have hm := h.most
  by_cases hc : err = 0 ∧ k < l.length
  · rw [if_pos hc]
    obtain ⟨rfl, hc⟩ := hc
    go_enter Try.func23, Try.ntmps23
    go_wp2_with fail
    refine (rd_left _ _ _ _ _ _ _ h).mono ?_
    rintro e w1 ⟨rfl, q1⟩
    rw [leftOf_zero]
    go_wp2
    go_ret
    exact ⟨rfl, q1⟩
  · rw [if_neg hc]
    have hl : leftOf err l.length k = 0 := by unfold leftOf; split <;> omega
    go_enter Try.func23, Try.ntmps23
    go_wp2_with fail
    refine (rd_left _ _ _ _ _ _ _ h).mono ?_
    rintro e w1 ⟨rfl, q1⟩
    rw [hl]
    go_wp2_with fail
    refine (rd_err _ _ _ _ _ _ _ (h.qt q1)).mono ?_
    rintro e w2 ⟨rfl, rfl⟩
    go_wp2
    go_ret
    exact ⟨rfl, q1⟩
end Go.Proofs.Ytbbfmlehddfneaa

namespace Go.Proofs.Ytbbfmlehddfneaa
open Go.RowKit
set_option linter.unusedVariables false

set_option maxHeartbeats 2000000 in
set_option maxRecDepth 100000 in
theorem rd_bytes (n : Nat) (w : World) (base p : Nat) (l : List Int) (k : Nat) (F : List Nat) (h : Rdr w base p l k 0 F) (hn : k + n ≤ l.length) :
    Calls Try.prog 73 #[.pointer (some ⟨p, 0, none⟩), .int .i64 n] w fun e w' => ∃ v, e = .returned v ∧ Own w' w.heap.size v ((l.drop k).take n) ∧ Rdr w' base p l (k + n) 0 F ∧ Step F F w w' := by
  have hmost := h.most
  have hby := h.bytes
  have hlt := h.lt
  go_enter Try.func73, Try.ntmps73
  go_wp2_with fail
  refine (rd_err _ _ _ _ _ _ _ h).mono ?_
  rintro e w1 ⟨rfl, rfl⟩
  go_wp2_with fail
  refine (rd_left _ _ _ _ _ _ _ h).mono ?_
  rintro e w1 ⟨rfl, q1⟩
  rw [leftOf_zero]
  have h1 := h.qt q1
  have s1 : Step F F w w1 := Step.qt q1
  have z1 := s1.1.size
  clear h
  have h1' := h1
  obtain ⟨v, B, ho, hb, rfl, hne, hk⟩ := h1
  obtain ⟨ao, c', rfl, hnone, hadr⟩ := ho.slice
  have hcap := ho.cap
  have cB := B.cell
  have fB := B.frozen
  go_wp2
  obtain ⟨h2, s2⟩ := h1'.set 1 (.int .i64 ((k : Int) + n)) (k + n) 0 (by omega) (fun v => by simp)
  have o2 : Own (w1.setCell ⟨p, 1, none⟩ (.int .i64 ((k : Int) + n))) base (.slice ao l.length c') l := ho.kept (fun x hx => Below.heap_setCell _ _ _ _ (hne x hx))
  have cB2 := (B.set 1 (.int .i64 ((k : Int) + n))).cell
  have hi1 : IntKind.i64.wrap ((k : Int) + n - n) = k := by rw [IntWalk.i64_in _ (by omega)]; omega
  have hi2 : IntKind.i64.wrap (k : Int) = k := IntWalk.i64_in _ (by omega)
  have hb2 : (k : Int) ≤ (k : Int) + n := by omega
  have hb3 : (k : Int) + n ≤ c' := by omega
  have hb4 : ((k : Int) + n).toNat = k + n := by omega
  have z2 := s2.1.size
  generalize w1.setCell ⟨p, 1, none⟩ (.int .i64 ((k : Int) + n)) = w2 at *
  cases ao with
  | none =>
    obtain ⟨rfl, rfl⟩ := hnone rfl
    obtain rfl : k = 0 := by simp at hn; omega
    obtain rfl : n = 0 := by simp at hn; omega
    have hA : Arr w2 .u8 (.slice none 0 0) [] := o2.arr hby
    have hi0 : IntKind.i64.wrap 0 = 0 := by decide
    go_still_tail 15, (by kernel_rfl)
    change wpList _ _ _ _ _ w2.drew
    have x2 : Ext w2 w2.drew := (Ext.refl _).drew
    go_wp2_with fail
    refine (clone_any _ _ _ (hA.ext x2) (by simp)).mono ?_
    rintro e w3 ⟨v3, rfl, o3, x3⟩
    have h3 := h2.ext (x2.trans x3)
    have s3 : Step _ _ w w3 := (s1.trans s2).trans (Step.of_ext (x2.trans x3))
    have z3 : w.heap.size ≤ w2.drew.heap.size := Nat.le_trans z1 (Nat.le_trans z2 x2.size)
    go_wp2
    go_ret
    exact ⟨v3, rfl, o3.mono z3, h3, s3⟩
  | some a =>
    obtain ⟨g, rfl⟩ : ∃ g, a = ⟨g, 0, none⟩ := ⟨a.block, hadr a rfl⟩
    clear hadr hnone
    have hA : Arr w2 .u8 (.slice (if c' = k then some ⟨g, 0, none⟩ else some ⟨g, k, none⟩) n (c' - k)) ((l.drop k).take n) := by
      by_cases hkc : c' = k
      · have hn0 : n = 0 := by omega
        subst hn0
        rw [if_pos hkc]
        exact ⟨⟨_, _, rfl, Nat.zero_le _, fun h => absurd rfl h, fun h => by cases h⟩, Nat.zero_le _, fun n hn => by cases hn⟩
      · rw [if_neg hkc]
        exact o2.sub hby k n hn
    obtain ⟨ax, hax⟩ : ∃ ax : Option Addr, (if c' = k then some (⟨g, 0, none⟩ : Addr) else some ⟨g, k, none⟩) = ax := ⟨_, rfl⟩
    rw [hax] at hA
    have HX := Lib.hid hax
    clear hax
    go_still_tail 15, (by kernel_rfl)
    rw [HX.out]
    change wpList _ _ _ _ _ w2.drew
    have x2 : Ext w2 w2.drew := (Ext.refl _).drew
    go_wp2_with fail
    refine (clone_any _ _ _ (hA.ext x2) (by simp; omega)).mono ?_
    rintro e w3 ⟨v3, rfl, o3, x3⟩
    have h3 := h2.ext (x2.trans x3)
    have s3 : Step _ _ w w3 := (s1.trans s2).trans (Step.of_ext (x2.trans x3))
    have z3 : w.heap.size ≤ w2.drew.heap.size := Nat.le_trans z1 (Nat.le_trans z2 x2.size)
    go_wp2
    go_ret
    exact ⟨v3, rfl, o3.mono z3, h3, s3⟩
end Go.Proofs.Ytbbfmlehddfneaa

namespace Go.Proofs.Ytbbfmlehddfneaa
open Go.RowKit
set_option linter.unusedVariables false

theorem rd_bytes_err (n : Int) (w : World) (base p : Nat) (l : List Int) (k : Nat) (err : Int) (F : List Nat) (h : Rdr w base p l k err F) (he : err ≠ 0) :
    Calls Try.prog 73 #[.pointer (some ⟨p, 0, none⟩), .int .i64 n] w fun e w' => e = .returned (.slice none 0 0) ∧ w = w' := by
  go_enter Try.func73, Try.ntmps73
  go_wp2_with fail
  refine (rd_err _ _ _ _ _ _ _ h).mono ?_
  rintro e w1 ⟨rfl, rfl⟩
  go_wp2
  go_ret
  exact ⟨rfl, rfl⟩
set_option maxRecDepth 100000 in
theorem rd_bytes_short (n : Int) (hn : -9223372036854775808 ≤ n ∧ n ≤ 9223372036854775807) (w : World) (base p : Nat) (l : List Int) (k : Nat) (F : List Nat) (h : Rdr w base p l k 0 F) (hs : n < 0 ∨ (l.length : Int) < k + n) :
    Calls Try.prog 73 #[.pointer (some ⟨p, 0, none⟩), .int .i64 n] w fun e w' => e = .returned (.slice none 0 0) ∧ Rdr w' base p l k 3 F ∧ Step F F w w' := by
  have hm := h.most
  by_cases hneg : n < 0
  · have hd : decide (n < 0) = true := by simpa using hneg
    go_enter Try.func73, Try.ntmps73
    go_wp2_with fail
    refine (rd_err _ _ _ _ _ _ _ h).mono ?_
    rintro e w1 ⟨rfl, rfl⟩
    go_wp2_with fail
    refine (rd_fail _ _ _ _ _ _ 3 _ h).mono ?_
    rintro e w1 ⟨rfl, h1, s1⟩
    rw [errOr_zero] at h1
    go_wp2
    go_ret
    exact ⟨rfl, h1, s1⟩
  · have hd : decide (n < 0) = false := by simpa using hneg
    go_enter Try.func73, Try.ntmps73
    go_wp2_with fail
    refine (rd_err _ _ _ _ _ _ _ h).mono ?_
    rintro e w1 ⟨rfl, rfl⟩
    go_wp2_with fail
    refine (rd_left _ _ _ _ _ _ _ h).mono ?_
    rintro e w1 ⟨rfl, q1⟩
    rw [leftOf_zero]
    have h1 := h.qt q1
    have s1 : Step F F w w1 := Step.qt q1
    go_wp2_with fail
    refine (rd_fail _ _ _ _ _ _ 3 _ h1).mono ?_
    rintro e w2 ⟨rfl, h2, s2⟩
    rw [errOr_zero] at h2
    go_wp2
    go_ret
    exact ⟨rfl, h2, s1.trans s2⟩
theorem rd_nil_Err (w : World) : Calls Try.prog 42 #[.pointer none] w fun e w' => e = .returned (.int .i64 1) ∧ w = w' := by
  go_enter Try.func42, Try.ntmps42
  go_wp2
  go_ret
  exact ⟨rfl, rfl⟩
theorem rd_nil_At (w : World) : Calls Try.prog 69 #[.pointer none] w fun e w' => e = .returned (.int .i64 0) ∧ w = w' := by
  go_enter Try.func69, Try.ntmps69
  go_wp2
  go_ret
  exact ⟨rfl, rfl⟩
theorem rd_nil_Fail (n : Int) (w : World) : Calls Try.prog 54 #[.pointer none, .int .i64 n] w fun e w' => e = .returned (.tuple #[]) ∧ w = w' := by
  go_enter Try.func54, Try.ntmps54
  go_wp2
  exact bodyPost_ret (v := .tuple #[]) (by simp [results, Try.results54]) rfl ⟨rfl, rfl⟩
theorem rd_nil_Left (w : World) : Calls Try.prog 41 #[.pointer none] w fun e w' => e = .returned (.int .i64 0) ∧ w = w' := by
  go_enter Try.func41, Try.ntmps41
  go_wp2_with fail
  refine (rd_nil_Err _).mono ?_
  rintro e w1 ⟨rfl, rfl⟩
  go_wp2
  go_ret
  exact ⟨rfl, rfl⟩
theorem rd_nil_End (w : World) : Calls Try.prog 23 #[.pointer none] w fun e w' => e = .returned (.int .i64 1) ∧ w = w' := by
  go_enter Try.func23, Try.ntmps23
  go_wp2_with fail
  refine (rd_nil_Left _).mono ?_
  rintro e w1 ⟨rfl, rfl⟩
  go_wp2_with fail
  refine (rd_nil_Err _).mono ?_
  rintro e w1 ⟨rfl, rfl⟩
  go_wp2
  go_ret
  exact ⟨rfl, rfl⟩
theorem rd_nil_Byte (w : World) : Calls Try.prog 58 #[.pointer none] w fun e w' => e = .returned (.int .u8 0) ∧ w = w' := by
  go_enter Try.func58, Try.ntmps58
  go_wp2_with fail
  refine (rd_nil_Left _).mono ?_
  rintro e w1 ⟨rfl, rfl⟩
  go_wp2_with fail
  refine (rd_nil_Fail 3 _).mono ?_
  rintro e w1 ⟨rfl, rfl⟩
  go_wp2
  go_ret
  exact ⟨rfl, rfl⟩
theorem rd_nil_Bytes (n : Int) (w : World) : Calls Try.prog 73 #[.pointer none, .int .i64 n] w fun e w' => e = .returned (.slice none 0 0) ∧ w = w' := by
  go_enter Try.func73, Try.ntmps73
  go_wp2_with fail
  refine (rd_nil_Err _).mono ?_
  rintro e w1 ⟨rfl, rfl⟩
  go_wp2
  go_ret
  exact ⟨rfl, rfl⟩
theorem rd_nil_number (w : World) : Calls Try.prog 53 #[.pointer none] w fun e w' => e = .returned (.int .u64 0) ∧ w = w' := by
  go_enter Try.func53, Try.ntmps53
  go_wp2_with fail
  refine (rd_nil_At _).mono ?_
  rintro e w1 ⟨rfl, rfl⟩
  go_wp2
  go_loopg [] 0 (fun gk wr => w = wr)
  case atStart => rfl
  case round =>
    subst hrel
    go_wp2_with fail
    refine (rd_nil_Byte _).mono ?_
    rintro e1 w2 ⟨rfl, rfl⟩
    go_wp2_with fail
    refine (rd_nil_Err _).mono ?_
    rintro e2 w3 ⟨rfl, rfl⟩
    go_wp2
    go_ret
    exact ⟨rfl, rfl⟩
theorem rd_nil_Int (w : World) : Calls Try.prog 55 #[.pointer none] w fun e w' => e = .returned (.int .i64 0) ∧ w = w' := by
  go_enter Try.func55, Try.ntmps55
  go_wp2_with fail
  refine (rd_nil_number _).mono ?_
  rintro e1 w1 ⟨rfl, rfl⟩
  go_wp2_with fail
  refine (unfolded_any 0 (by omega) _).mono ?_
  rintro e2 w2 ⟨rfl, rfl⟩
  go_wp2
  go_ret
  exact ⟨rfl, rfl⟩
end Go.Proofs.Ytbbfmlehddfneaa

namespace Go.Proofs.Ytbbfmlehddfneaa
open Go.RowKit
set_option linter.unusedVariables false
theorem str_inj11 {l m : List Int} (hl : ∀ y ∈ l, 0 ≤ y ∧ y ≤ 255) (hm : ∀ y ∈ m, 0 ≤ y ∧ y ≤ 255) (h : strOfNums l = strOfNums m) : l = m := by
  have h1 : l.map (fun n => UInt8.ofNat n.toNat) = m.map (fun n => UInt8.ofNat n.toNat) := by
    rw [← strOfNums_data, ← strOfNums_data, h]
  have h2 : ∀ x, 0 ≤ x ∧ x ≤ 255 → ((UInt8.ofNat x.toNat).toNat : Int) = x := fun x hx => by
    rw [UInt8.toNat_ofNat']
    omega
  have h3 : ∀ l : List Int, (∀ y ∈ l, 0 ≤ y ∧ y ≤ 255) → (l.map (fun n => UInt8.ofNat n.toNat)).map (fun u => (u.toNat : Int)) = l := fun l hl => by
    rw [List.map_map]
    conv => rhs; rw [← List.map_id l]
    exact List.map_congr_left fun y hy => h2 y (hl y hy)
  rw [← h3 l hl, ← h3 m hm, h1]
theorem str_eq11 (a b : ByteArray) : (a.toList == b.toList) = decide (a = b) := by
  rw [ByteArray.toList_eq, ByteArray.toList_eq]
  by_cases h : a = b
  · subst h
    simp
  · simp [h]
    intro k
    apply h
    cases a
    cases b
    congr 1
theorem strs_eq {l m : List Int} (hl : ∀ y ∈ l, 0 ≤ y ∧ y ≤ 255) (hm : ∀ y ∈ m, 0 ≤ y ∧ y ≤ 255) : ((strOfNums l).toList == (strOfNums m).toList) = decide (l = m) := by
  rw [str_eq11]
  by_cases h : l = m
  · subst h
    simp
  · have : strOfNums l ≠ strOfNums m := fun e => h (str_inj11 hl hm e)
    simp [h, this]
theorem Arr.byte {w : World} {v : Value} {l : List Int} (h : Arr w .u8 v l) : ∀ y ∈ l, 0 ≤ y ∧ y ≤ 255 := fun y hy => bounds_u8 (h.wf y hy)
theorem Arr.take11 {w : World} {ao : Option Addr} {c n : Nat} {l : List Int} (h : Arr w .u8 (.slice ao n c) l) (j : Nat) (hn : j ≤ l.length) : Arr w .u8 (.slice ao j c) (l.take j) := by
  obtain ⟨⟨ao', c', e, h1, h2, h3⟩, h4, h5⟩ := h
  cases e
  have hl : (l.take j).length = j := by simp [hn]
  refine ⟨⟨ao, c, by rw [hl], by rw [hl]; omega, fun hne => ?_, h3⟩, by rw [hl]; omega, fun y hy => h5 y (List.mem_of_mem_take hy)⟩
  obtain ⟨b, off, rfl, hc⟩ := h2 (by intro e; subst e; simp at hne)
  refine ⟨b, off, rfl, fun i hi => ?_⟩
  rw [hl] at hi
  rw [hc i (by omega)]
  simp [List.getD, hi]
theorem Arr.drop11 {w : World} {b off c n : Nat} {l : List Int} (h : Arr w .u8 (.slice (some ⟨b, off, none⟩) n c) l) (j : Nat) (hn : j ≤ l.length) : Arr w .u8 (.slice (some ⟨b, off + j, none⟩) (n - j) (c - j)) (l.drop j) := by
  obtain ⟨⟨ao', c', e, h1, h2, h3⟩, h4, h5⟩ := h
  cases e
  have hl : (l.drop j).length = l.length - j := by simp
  refine ⟨⟨_, c - j, by rw [hl], by rw [hl]; omega, fun hne => ?_, fun h => by cases h⟩, by rw [hl]; omega, fun y hy => h5 y (List.mem_of_mem_drop hy)⟩
  obtain ⟨b', off', e, hc⟩ := h2 (by intro e; subst e; simp at hne)
  cases e
  refine ⟨b, off + j, rfl, fun i hi => ?_⟩
  rw [hl] at hi
  rw [Nat.add_assoc, hc (j + i) (by omega)]
  simp [List.getD]
set_option maxRecDepth 100000 in
theorem bytesEqual_any (w : World) (v q : Value) (l m : List Int) (hl : Arr w .u8 v l) (hm : Arr w .u8 q m) : Calls Try.prog 52 #[v, q] w fun e w' => e = .returned (.bool (decide (l = m))) ∧ Ext w w' := by
  have h1 := hl.str
  have h2 := hm.str
  have h3 := strs_eq hl.byte hm.byte
  obtain ⟨r, hr⟩ : ∃ r, decide (l = m) = r := ⟨_, rfl⟩
  rw [hr] at h3
  rw [hr]
  go_enter Try.func52, Try.ntmps52
  go_wp2
  go_ret
  exact ⟨rfl, Ext.refl _⟩
set_option maxRecDepth 100000 in
theorem hasPrefix_any (w : World) (v q : Value) (l m : List Int) (hl : Arr w .u8 v l) (hm : Arr w .u8 q m) (hlm : l.length ≤ 1000000) (hmm : m.length ≤ 1000000) : Calls Try.prog 36 #[v, q] w fun e w' => e = .returned (.bool (decide (l.take m.length = m))) ∧ Ext w w' := by
  have A := hl
  have B := hm
  obtain ⟨⟨ao, c, rfl, hc, -, hno⟩, -, -⟩ := hl
  obtain ⟨⟨bo, d, rfl, hd, -, -⟩, -, -⟩ := hm
  go_enter Try.func36, Try.ntmps36
  by_cases hle : m.length ≤ l.length
  · have hleI : (m.length : Int) ≤ (l.length : Int) := by omega
    have hcI : (m.length : Int) ≤ (c : Int) := by omega
    cases ao with
    | none =>
      have hc0 : c = 0 := hno rfl
      subst hc0
      have hl0 : l.length = 0 := by omega
      have hm0 : m.length = 0 := by omega
      have hln : l = [] := List.eq_nil_of_length_eq_zero hl0
      have hmn : m = [] := List.eq_nil_of_length_eq_zero hm0
      subst hln
      subst hmn
      simp only [List.length_nil] at A B ⊢
      go_wp2_with fail
      refine (bytesEqual_any _ _ _ [] [] A B).mono ?_
      rintro e w1 ⟨rfl, x1⟩
      go_wp2
      go_ret
      exact ⟨by simp, x1⟩
    | some a =>
      have A2 := A.take11 m.length hle
      obtain ⟨r, hr⟩ : ∃ r, decide (l.take m.length = m) = r := ⟨_, rfl⟩
      rw [hr]
      go_wp2_with fail
      refine (bytesEqual_any _ _ _ _ m A2 B).mono ?_
      rintro e w1 ⟨rfl, x1⟩
      rw [hr]
      go_wp2
      go_ret
      exact ⟨rfl, x1⟩
  · have hleI : ¬ (m.length : Int) ≤ (l.length : Int) := by omega
    have hne : decide (l.take m.length = m) = false := by
      simp only [decide_eq_false_iff_not]
      intro h
      have := congrArg List.length h
      simp at this
      omega
    rw [hne]
    go_wp2
    go_ret
    exact ⟨rfl, Ext.refl _⟩
set_option maxRecDepth 100000 in
theorem cutPrefix_any (w : World) (v q : Value) (l m : List Int) (hl : Arr w .u8 v l) (hm : Arr w .u8 q m) (hlm : l.length ≤ 1000000) (hmm : m.length ≤ 1000000) (hm0 : m ≠ []) : Calls Try.prog 19 #[v, q] w fun e w' => Ext w w' ∧ ∃ u, (l.take m.length = m ∧ e = .returned (.tuple #[u, .bool true]) ∧ Arr w' .u8 u (l.drop m.length)) ∨ (l.take m.length ≠ m ∧ e = .returned (.tuple #[u, .bool false])) := by
  have A := hl
  have B := hm
  have hq := hasPrefix_any w v q l m hl hm hlm hmm
  obtain ⟨⟨ao, c, rfl, hc, hat, hno⟩, -, -⟩ := hl
  obtain ⟨⟨bo, d, rfl, hd, -, -⟩, -, -⟩ := hm
  go_enter Try.func19, Try.ntmps19
  go_wp2_with fail
  refine hq.mono ?_
  rintro e w1 ⟨rfl, x1⟩
  by_cases hp : l.take m.length = m
  · have hle : m.length ≤ l.length := by
      have := congrArg List.length hp
      simp at this
      omega
    have hl0 : l ≠ [] := fun h => by
      subst h
      have h1 := List.length_pos_iff.2 hm0
      simp only [List.length_nil] at hle
      omega
    obtain ⟨b, off, rfl, -⟩ := hat hl0
    have A2 := (A.ext x1).drop11 m.length hle
    have hd1 : decide (l.take m.length = m) = true := by simpa using hp
    have hleI : (m.length : Int) ≤ (l.length : Int) := by omega
    have hcI : (l.length : Int) ≤ (c : Int) := by omega
    have hsI : ((l.length - m.length : Nat) : Int) = (l.length : Int) - m.length := by omega
    have HP := Lib.hid hp
    clear hp hat
    rw [hd1]
    rcases Nat.lt_or_ge m.length c with hcm | hcm
    · have hcmI : (m.length : Int) < (c : Int) := by omega
      go_wp2
      exact bodyPost_ret (v := .tuple #[.slice (some ⟨b, off + m.length, none⟩) (l.length - m.length) (c - m.length), .bool true]) (by simp [results, Try.results19]) rfl ⟨x1, _, .inl ⟨HP.out, rfl, A2⟩⟩
    · have hcm2 : m.length = c := by omega
      have hdn : l.drop m.length = [] := List.drop_eq_nil_of_le (by omega)
      have AN : Arr w1 .u8 (.slice (some ⟨b, off, none⟩) 0 0) [] := ⟨⟨_, 0, rfl, by simp, fun h => absurd rfl h, fun h => by cases h⟩, by simp [maxLen], fun y hy => by cases hy⟩
      rw [← hdn] at AN
      have HAN := Lib.hid AN
      clear AN hdn
      go_wp2
      exact bodyPost_ret (v := .tuple #[.slice (some ⟨b, off, none⟩) 0 0, .bool true]) (by simp [results, Try.results19]) rfl ⟨x1, _, .inl ⟨HP.out, rfl, HAN.out⟩⟩
  · have hd1 : decide (l.take m.length = m) = false := by simpa using hp
    have HP := Lib.hid hp
    clear hp
    rw [hd1]
    go_wp2
    refine bodyPost_ret (v := .tuple #[.slice ao l.length c, .bool false]) (by simp [results, Try.results19]) rfl ⟨x1, _, .inr ⟨HP.out, rfl⟩⟩
end Go.Proofs.Ytbbfmlehddfneaa

