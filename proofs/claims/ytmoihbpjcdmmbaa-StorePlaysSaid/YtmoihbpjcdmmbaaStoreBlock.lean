/-
  DERIVED. Layer 6's laws: rows filled one by one; block.
-/
import Derived.Test.YtmoihbpjcdmmbaaStoreAwake
import Derived.Test.YtmoihbpjcdmmbaaOwnPut
import Derived.Test.YtmoihbpjcdmmbaaIntsPut
namespace Go.Proofs.Ytmoihbpjcdmmbaa
open Go.RowKit Go.Maps
set_option linter.unusedVariables false

/-- the first i of n are as g says, the rest is 0 -/
def partL (g : Nat → Int) (n i : Nat) : List Int := (List.range n).map fun k => if k < i then g k else 0
theorem partL_length (g : Nat → Int) (n i : Nat) : (partL g n i).length = n := by simp [partL]
theorem partL_zero (g : Nat → Int) (n : Nat) : partL g n 0 = List.replicate n 0 := by
  unfold partL
  apply List.ext_getElem
  · simp
  · intro k h1 h2
    simp
theorem partL_get (g : Nat → Int) (n i k : Nat) (hk : k < n) : (partL g n i)[k]? = some (if k < i then g k else 0) := by
  simp [partL, hk]
theorem partL_set (g : Nat → Int) (n i : Nat) (hi : i < n) : (partL g n i).set i (g i) = partL g n (i + 1) := by
  apply List.ext_getElem?
  intro k
  rw [List.getElem?_set, partL_length]
  by_cases e : i = k
  · subst e
    rw [if_pos rfl, if_pos hi, partL_get g n (i + 1) i hi, if_pos (by omega)]
  · rw [if_neg e]
    rcases Nat.lt_or_ge k n with h | h
    · rw [partL_get g n i k h, partL_get g n (i + 1) k h]
      congr 1
      by_cases h1 : k < i
      · rw [if_pos h1, if_pos (by omega)]
      · rw [if_neg h1, if_neg (by omega)]
    · rw [List.getElem?_eq_none (by rw [partL_length]; exact h), List.getElem?_eq_none (by rw [partL_length]; exact h)]

/-- a block's bytes -/
def byteG (s : Int) (k : Nat) : Int := (s + (k : Int) * 7) % 256
def blkL (s : Int) (n : Nat) : List Int := partL (byteG s) n n
theorem blkL_length (s : Int) (n : Nat) : (blkL s n).length = n := partL_length _ _ _
theorem blkL_bd (s : Int) (n : Nat) : ∀ y ∈ blkL s n, 0 ≤ y ∧ y ≤ 255 := by
  intro y hy
  obtain ⟨k, _, rfl⟩ := List.mem_map.1 hy
  split
  · unfold byteG
    omega
  · omega

theorem makeN (n : Nat) (hn : n ≤ 1000000) : ∃ Z : Obj, (∀ w, (Instr.makeSlice 22 (.int .i64 (n : Int)) (.int .i64 (n : Int))).run Try.prog w = .ok (.slice (some ⟨w.heap.size, 0, none⟩) n n) (w.alloc Z)) ∧ ∀ w : World, Own (w.alloc Z) w.heap.size (.slice (some ⟨w.heap.size, 0, none⟩) n n) (List.replicate n 0) :=
  ⟨.cells (madeCells #[.int .u8 0] n) 5, fun w => make_bytes n n (Nat.le_refl _) hn w, fun w => own_zeros w n hn⟩
theorem makeNI (n : Nat) (hn : n ≤ 1000000) : ∃ Z : Obj, (∀ w, (Instr.makeSlice 27 (.int .i64 (n : Int)) (.int .i64 (n : Int))).run Try.prog w = .ok (.slice (some ⟨w.heap.size, 0, none⟩) n n) (w.alloc Z)) ∧ ∀ w : World, OwnI (w.alloc Z) w.heap.size (.slice (some ⟨w.heap.size, 0, none⟩) n n) (List.replicate n 0) :=
  ⟨.cells (madeCells #[.int .i64 0] n) 3, fun w => make_ints n n (Nat.le_refl _) hn w, fun w => ownI_zeros w n hn⟩

set_option maxRecDepth 100000 in
set_option maxHeartbeats 4000000 in
theorem block_any (w : World) (s : Int) (hs : 0 ≤ s ∧ s ≤ 255) (long : Bool) :
    Calls Try.prog 9 #[.int .u8 s, .bool long] w fun e w' => ∃ v', e = .returned v' ∧ Own w' w.heap.size v' (blkL s (if long then s.toNat else 64)) ∧ Ext w w' := by
  obtain ⟨t, rfl⟩ : ∃ t : Nat, s = t := ⟨s.toNat, by omega⟩
  cases long
  · obtain ⟨Z, hmk0, hZ0⟩ := makeN 64 (by omega)
    have hmk : ∀ w, (Instr.makeSlice 22 (.int .i64 64) (.int .i64 64)).run Try.prog w = .ok (.slice (some ⟨w.heap.size, 0, none⟩) 64 64) (w.alloc Z) := hmk0
    have hO := hZ0 w
    rw [← partL_zero (byteG t)] at hO
    have hE := (Ext.refl w).obj Z
    have hlt : w.heap.size < (w.alloc Z).heap.size := by simp
    clear hZ0 hmk0
    go_enter Try.func9, Try.ntmps9
    go_wp2
    clear hmk
    generalize hd : w.heap.size = d at *
    generalize w.alloc Z = w1 at *
    go_loopg [15] 64 (fun k iv wr => ∃ i : Nat, i + k = 64 ∧ iv = .int .i64 i ∧ Own wr d (.slice (some ⟨d, 0, none⟩) 64 64) (partL (byteG t) 64 i) ∧ Ext w wr)
    case atStart => exact ⟨0, by omega, rfl, hO, hE⟩
    case round =>
      obtain ⟨i, hik, rfl, o2, E2⟩ := hrel
      clear hO hE hlt
      by_cases hi : i < 64
      · have hget := partL_get (byteG t) 64 i i hi
        rw [if_neg (by omega)] at hget
        have hc := o2.at (partL_length _ _ _).symm hget
        have hf := o2.thaw (partL_length _ _ _).symm i
        have hput := o2.put (partL_length _ _ _).symm i (byteG t i)
        rw [partL_set _ _ _ hi] at hput
        have E3 := E2.setCell (p := ⟨d, i, none⟩) (by show w.heap.size ≤ d; omega) (.int .u8 (byteG t i))
        clear hget
        go_wp2
        go_roundg (gk - 1)
        case measure => omega
        case rel => exact ⟨i + 1, by omega, rfl, hput, E3⟩
      · obtain rfl : i = 64 := by omega
        go_wp2
        go_ret
        exact ⟨_, rfl, o2, E2⟩
  · obtain ⟨Z, hmk0, hZ0⟩ := makeN t (by omega)
    have hmk : ∀ w, (Instr.makeSlice 22 (.int .i64 t) (.int .i64 t)).run Try.prog w = .ok (.slice (some ⟨w.heap.size, 0, none⟩) t t) (w.alloc Z) := hmk0
    have hO := hZ0 w
    rw [← partL_zero (byteG t)] at hO
    have hE := (Ext.refl w).obj Z
    have hlt : w.heap.size < (w.alloc Z).heap.size := by simp
    clear hZ0 hmk0
    go_enter Try.func9, Try.ntmps9
    go_wp2
    clear hmk
    generalize hd : w.heap.size = d at *
    generalize w.alloc Z = w1 at *
    go_loopg [15] t (fun k iv wr => ∃ i : Nat, i + k = t ∧ iv = .int .i64 i ∧ Own wr d (.slice (some ⟨d, 0, none⟩) t t) (partL (byteG t) t i) ∧ Ext w wr)
    case atStart => exact ⟨0, by omega, rfl, hO, hE⟩
    case round =>
      obtain ⟨i, hik, rfl, o2, E2⟩ := hrel
      clear hO hE hlt
      by_cases hi : i < t
      · have hget := partL_get (byteG t) t i i hi
        rw [if_neg (by omega)] at hget
        have hc := o2.at (partL_length _ _ _).symm hget
        have hf := o2.thaw (partL_length _ _ _).symm i
        have hput := o2.put (partL_length _ _ _).symm i (byteG t i)
        rw [partL_set _ _ _ hi] at hput
        have E3 := E2.setCell (p := ⟨d, i, none⟩) (by show w.heap.size ≤ d; omega) (.int .u8 (byteG t i))
        clear hget
        go_wp2
        go_roundg (gk - 1)
        case measure => omega
        case rel => exact ⟨i + 1, by omega, rfl, hput, E3⟩
      · obtain rfl : i = t := by omega
        go_wp2
        go_ret
        exact ⟨_, rfl, o2, E2⟩
end Go.Proofs.Ytmoihbpjcdmmbaa
