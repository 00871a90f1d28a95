/-
  DERIVED. Rows of bytes of the call's own as whole blocks; bytes mixed.
-/
import Derived.Test.YtmoihbpjcdmmbaaCrcPut
import Derived.Deep.DeepCutAuto
import Derived.Deep.CutBlock
import Derived.RegionTactic
namespace Go.Proofs.Ytmoihbpjcdmmbaa
open Go.RowKit
set_option linter.unusedVariables false

theorem row_arr {w : World} {g : Nat} {l : List Int} (h : Blk w g (bytesV l).toArray 5) (hb : ∀ y ∈ l, 0 ≤ y ∧ y ≤ 255) (hl : l.length ≤ 1000000) : Arr w .u8 (.slice (some ⟨g, 0, none⟩) l.length l.length) l := by
  refine ⟨⟨_, _, rfl, Nat.le_refl _, fun _ => ⟨g, 0, rfl, fun j hj => ?_⟩, fun h => by cases h⟩, by simp only [maxLen]; omega, fun y hy => wfu8 (hb y hy)⟩
  rw [h.cell, Nat.zero_add]
  simp [bytesV, List.getD, hj]
theorem row_set (l : List Int) (i : Nat) (y : Int) (hi : i < l.length) : ((bytesV l).toArray.toList.take i ++ (Value.int .u8 y).cells.toList ++ (bytesV l).toArray.toList.drop (i + (Value.int .u8 y).cells.size)).toArray = (bytesV (l.set i y)).toArray := by
  have e : (Value.int .u8 y).cells = #[.int .u8 y] := rfl
  simp only [e, List.size_toArray, List.length_cons, List.length_nil, Nat.zero_add]
  congr 1
  rw [bytesV, bytesV, List.map_set, List.set_eq_take_append_cons_drop, if_pos (by simpa using hi)]
  simp
/-- the block behind a slice of the call's own -/
theorem Own.blk {w : World} {base g c : Nat} {L : List Int} (h : Own w base (.slice (some ⟨g, 0, none⟩) L.length c) L) : ∃ cur : Array Value, Blk w g cur 5 ∧ cur.toList.take L.length = bytesV L ∧ L.length ≤ c ∧ c ≤ maxLen ∧ cur.size = c ∧ base ≤ g := by
  rcases h.2 with ⟨h', _⟩ | ⟨g', c', cur, h', hb, hg, hnc, hcm, hcs, ht⟩
  · cases h'
  · cases h'
    rw [Nat.mul_one] at hcs ht
    exact ⟨cur, hg, ht, hnc, hcm, hcs, hb⟩
theorem Own.mk {w : World} {base g c : Nat} {L : List Int} {cur : Array Value} (h : Blk w g cur 5) (ht : cur.toList.take L.length = bytesV L) (hnc : L.length ≤ c) (hcm : c ≤ maxLen) (hcs : cur.size = c) (hb : base ≤ g) : Own w base (.slice (some ⟨g, 0, none⟩) L.length c) L :=
  ⟨by rw [bytesV_length, Nat.mul_one], .inr ⟨g, c, cur, rfl, hb, h, hnc, hcm, by rw [hcs, Nat.mul_one], by rw [Nat.mul_one]; exact ht⟩⟩
theorem take_set_bytes {cur : List Value} {L : List Int} (h : cur.take L.length = bytesV L) (i : Nat) (y : Int) : (cur.set i (.int .u8 y)).take (L.set i y).length = bytesV (L.set i y) := by
  rw [List.length_set, List.take_set, h, bytesV, bytesV, List.map_set]
/-- a byte of a block of the call's own is stored -/
theorem tgt_row {l : List Oper} {bs : List Tmp} {O : List Nat} {w : World} {a F : Act} {j : Nat} {x y : Tmp} {b off : Nat} {n : Int} {cur : Array Value} {os : Oper} (hO : b ∈ O) (hB : Blk w b cur 5) (hj : l[j]? = some os)
    (hos : os.op = .store 5 (.tmp x) (.tmp y)) (hxb : bs.contains x = false) (hyb : bs.contains y = false) (hx : slot F x = .pointer (some ⟨b, off, none⟩)) (hy : slot F y = .int .u8 n) (hz : off < cur.size) : TgtOk Try.prog l bs O w a F ⟨none, 0, b, some j, 5, cur, (cur.toList.set off (.int .u8 n)).toArray⟩ := by
  refine tgt_mine hO hB hj hos hxb hyb hx hy (by kernel_rfl) (by kernel_rfl) (by simp [Value.cells]; omega) ?_
  have e : (Value.int .u8 n).cells = #[.int .u8 n] := rfl
  simp only [e, List.size_toArray, List.length_cons, List.length_nil, Nat.zero_add]
  congr 1
  rw [List.set_eq_take_append_cons_drop, if_pos (by simpa using hz)]
  simp
/-- a byte of a row of bytes of the call's own is stored -/
theorem tgt_byte {l : List Oper} {bs : List Tmp} {O : List Nat} {w : World} {a F : Act} {j : Nat} {x y : Tmp} {b off : Nat} {n : Int} {L L' : List Int} {os : Oper} (hO : b ∈ O) (hB : Blk w b (bytesV L).toArray 5) (hj : l[j]? = some os)
    (hos : os.op = .store 5 (.tmp x) (.tmp y)) (hxb : bs.contains x = false) (hyb : bs.contains y = false) (hx : slot F x = .pointer (some ⟨b, off, none⟩)) (hy : slot F y = .int .u8 n) (hz : off < L.length) (hz' : L.set off n = L') : TgtOk Try.prog l bs O w a F ⟨none, 0, b, some j, 5, (bytesV L).toArray, (bytesV L').toArray⟩ :=
  tgt_mine hO hB hj hos hxb hyb hx hy (by kernel_rfl) (by kernel_rfl) (by simp [bytesV_length, Value.cells]; omega) (by rw [row_set _ _ _ hz, hz'])
theorem Arr.nth {w : World} {ao : Option Addr} {c : Nat} {l : List Int} (h : Arr w .u8 (.slice ao l.length c) l) (i : Nat) (hi : i < l.length) :
    ∃ b off y, ao = some ⟨b, off, none⟩ ∧ l[i]? = some y ∧ (0 ≤ y ∧ y ≤ 255) ∧ w.cell? ⟨b, off + i, none⟩ = some (.int .u8 y) := by
  have hb := h.bd
  obtain ⟨⟨ao', c', e, h1, h2, h3⟩, h4, h5⟩ := h
  cases e
  obtain ⟨b, off, rfl, hc⟩ := h2 (by intro e; subst e; simp at hi)
  refine ⟨b, off, l[i], rfl, by simp [hi], hb _ (List.getElem_mem ..), ?_⟩
  rw [hc i hi]
  simp [List.getD, hi]
def xorI (x y : Int) : Int := ((x.toNat ^^^ y.toNat : Nat) : Int)
theorem xorI_u8 (x y : Int) (hx : 0 ≤ x ∧ x ≤ 255) (hy : 0 ≤ y ∧ y ≤ 255) : bits .xor .u8 x y = xorI x y := u8_xor x y hx.1 (by omega) hy.1 (by omega)
theorem xorI_bd (x y : Int) (hx : 0 ≤ x ∧ x ≤ 255) (hy : 0 ≤ y ∧ y ≤ 255) : 0 ≤ xorI x y ∧ xorI x y ≤ 255 := by
  have := Nat.xor_lt_two_pow (n := 8) (x := x.toNat) (y := y.toNat) (by omega) (by omega)
  unfold xorI
  omega
end Go.Proofs.Ytmoihbpjcdmmbaa
