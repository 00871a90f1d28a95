/-
  DERIVED. append(own, make([]byte, n)...): noughts appended to a slice of the call's own.
-/
import Derived.Test.YtjghfknpgnecgaaCrcDiv
import Derived.Lib.AppendZerosOnto
namespace Go.Proofs.Ytjghfknpgnecgaa
open Go.RowKit
set_option linter.unusedVariables false

theorem toList_zeroCells_one (z : Value) (n : Nat) : (Builtin.zeroCells #[z] n).toList = List.replicate n z := by
  apply List.ext_getElem?
  intro j
  by_cases hj : j < n
  · simp [Builtin.zeroCells, hj, Nat.mod_one]
  · simp [Builtin.zeroCells, hj]
theorem zeroCells_one (z : Value) (n : Nat) : Builtin.zeroCells #[z] n = (List.replicate n z).toArray := by
  rw [← toList_zeroCells_one, Array.toArray_toList]

theorem Own.of {w : World} {base g c n : Nat} {L : List Int} {cur : Array Value} (hn : n = L.length) (h : Blk w g cur 5) (ht : cur.toList.take L.length = bytesV L) (hnc : n ≤ c) (hcm : c ≤ maxLen) (hcs : cur.size = c) (hb : base ≤ g) : Own w base (.slice (some ⟨g, 0, none⟩) n c) L := by
  subst hn
  exact Own.mk h ht hnc hcm hcs hb
theorem run_append_zeros {w : World} (ty : TypeId) (base : Nat) (v : Value) (l : List Int) (hown : Own w base v l) (n : Nat) (hn : 0 < n) (hlen : l.length + n ≤ 1000000) (hbase : base ≤ w.heap.size) :
    ∃ v' w', (Builtin.append_ #[22, 3] ty #[v, .int .i64 (n : Int)]).run Try.prog w = .ok v' w' ∧ Own w' base v' (l ++ List.replicate n 0) ∧ Calm v.ownBlock.toList w w' ∧ ∀ k, v'.ownBlock = some k → v.ownBlock = some k ∨ k = w.heap.size := by
  obtain ⟨i, hi, hz, h1, h2⟩ := info_parts info_u8
  have hbv : bytesV (l ++ List.replicate n 0) = bytesV l ++ List.replicate n (.int .u8 0) := by rw [bytesV_append]; congr 1; simp [bytesV]
  have hll : (l ++ List.replicate n 0).length = l.length + n := by simp
  have hzc : (Value.int .u8 0).cells = #[.int .u8 0] := rfl
  have grown : ∀ (old : Nat), old < l.length + n →
      Own (w.drew.alloc (.cells ((bytesV l).toArray ++ Builtin.zeroCells #[.int .u8 0] n ++ Builtin.zeroCells #[.int .u8 0] (grownCap w (l.length + n) old 5 - (l.length + n))) 5)) base
        (.slice (some ⟨w.heap.size, 0, none⟩) (l.length + n) (grownCap w (l.length + n) old 5)) (l ++ List.replicate n 0) := by
    intro old ho
    have hge := grownCap_ge w (l.length + n) old 5
    have hcm : grownCap w (l.length + n) old 5 ≤ maxLen := grownCap_le_maxLen w (l.length + n) old 5 (by simp only [maxLen]; omega)
    refine Own.of (cur := _) hll.symm (Blk.new w.drew _ _) ?_ hge hcm ?_ hbase
    · rw [hbv, hll, zeroCells_one, zeroCells_one]
      simp only [List.append_toArray]
      rw [List.take_left' (by simp [bytesV_length])]
    · rw [zeroCells_one, zeroCells_one]
      simp [bytesV_length]
      omega
  have calmG : ∀ (c : Array Value) (O : List Nat), Calm O w (w.drew.alloc (.cells c 5)) := fun c O =>
    ⟨rfl, rfl, rfl, by simp, fun k hk _ => Below.heap_alloc w.drew _ k hk⟩
  rcases hown.2 with ⟨rfl, h0⟩ | ⟨g, cap, cur, rfl, b1, b2, b3, b4, b5, b6⟩
  · have h0' : l = [] := List.eq_nil_of_length_eq_zero h0
    subst h0'
    have e := Lib.run_append_nil_zeros (P := Try.prog) w 22 3 ty 5 i (.int .u8 0) .i64 .i64 Try.underlying22 Try.underlying3 hi hz n hn (by omega) (by omega) (by rw [h2]; omega)
    have hG := grown 0 (by simp; omega)
    simp only [bytesV, List.map_nil, List.length_nil, Nat.zero_add, Array.empty_append, List.nil_append] at hG
    refine ⟨_, _, e, ?_, calmG _ _, fun k hk => .inr (Option.some.inj hk).symm⟩
    rw [hzc, List.nil_append]
    exact hG
  · rw [Nat.mul_one] at b5 b6
    by_cases hroom : l.length + n ≤ cap
    · have hst := run_storeCells_at Try.prog g l.length 5 (List.replicate n (.int .u8 0)) 0 cur w b2 (by simp; omega) (fun u hu => by rw [List.eq_of_mem_replicate hu]; rfl)
      simp only [Nat.add_zero] at hst
      have e : (Builtin.append_ #[22, 3] ty #[.slice (some ⟨g, 0, none⟩) l.length cap, .int .i64 (n : Int)]).run Try.prog w = .ok (.slice (some ⟨g, 0, none⟩) (l.length + n) cap) (w.setRow g (cur.toList.take l.length ++ List.replicate n (Value.int .u8 0) ++ cur.toList.drop (l.length + n)).toArray) := by
        have hw : IntKind.i64.wrap (n : Int) = n := by rw [IntKind.wrap_i64]; omega
        have hneg : ¬ ((n : Int) < 0) := by omega
        have h48 : ¬ (281474976710656 < (n : Int)) := by omega
        have hn0 : n ≠ 0 := by omega
        rw [List.length_replicate] at hst
        simp [Builtin.append_, run_underlying Try.underlying22, run_underlying Try.underlying3, sizeOf, typeInfo, zeroValue, hi, hz, h1, h2, hzc, asInt, asIntOf, hw, hneg, h48, hn0, hroom, toList_zeroCells_one, Addr.add_lit, hst]
      refine ⟨_, _, e, ?_, ⟨rfl, rfl, rfl, by simp, fun k _ hk => setRow_other w g k _ (fun e => hk (by simp [Value.ownBlock, e]))⟩, fun k hk => .inl hk⟩
      refine Own.of (cur := _) hll.symm (setRow_heap w g cur _ 5 _ b2) ?_ hroom b4 ?_ b1
      · rw [hbv, hll, b6]
        simp only []
        rw [List.take_left' (by simp [bytesV_length])]
      · have : cur.toList.length = cap := by simpa using b5
        simp
        omega
    · have hf := run_firstCells_some (P := Try.prog) w.drew i.size l.length ⟨g, 0, none⟩ l.length cap (bytesV l) (by rw [bytesV_length, h1, Nat.mul_one]) (World.ownsRow.cells hown (g := g) rfl)
      have e := Lib.run_append_grow_zeros (P := Try.prog) w 22 3 ty 5 i (.int .u8 0) .i64 .i64 Try.underlying22 Try.underlying3 hi hz (some ⟨g, 0, none⟩) l.length cap (bytesV l) hf n hn (by omega) (by omega) (by omega) (by rw [h2]; omega) (growslice_fits (by omega) (by rw [h2]; omega))
      refine ⟨_, _, e, ?_, calmG _ _, fun k hk => .inr (Option.some.inj hk).symm⟩
      rw [hzc]
      exact grown cap (by omega)
theorem wpList_append_zeros {ops : Array Oper} {rest : List Oper} {o : Oper} {a : Act} {w : World} {Q : Exit → Act → World → Prop} (hgd : o.guard = none) (s x : Operand)
    (ho : o.op = .call { callee := .builtin .append, args := #[s, x], argTypes := #[22, 3] }) (base : Nat) (v : Value) (l : List Int) (hs : a.eval s = v) (hown : Own w base v l)
    (n : Nat) (hx : a.eval x = .int .i64 (n : Int)) (hn : 0 < n) (hlen : l.length + n ≤ 1000000) (hbase : base ≤ w.heap.size)
    (h : ∀ v' w', Own w' base v' (l ++ List.replicate n 0) → Calm v.ownBlock.toList w w' → (∀ k, v'.ownBlock = some k → v.ownBlock = some k ∨ k = w.heap.size) → wpList Try.prog ops Q rest (a.put o.dst v') w') : wpList Try.prog ops Q (o :: rest) a w := by
  obtain ⟨v', w', hr, h1, h2, h3⟩ := run_append_zeros o.type base v l hown n hn hlen hbase
  exact Lib.wpList_append_run (P := Try.prog) w hgd s x 22 3 ho v (.int .i64 (n : Int)) hs hx v' w' hr (h v' w' h1 h2 h3)
end Go.Proofs.Ytjghfknpgnecgaa
