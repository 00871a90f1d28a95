/-
  DERIVED. THE WALKS of layer 5 (crc): Put, Awake.
-/
import Derived.Test.YtmoihbpjcdmmbaaCrcRight
import Derived.Lib.SlBytesConst
namespace Go.Proofs.Ytmoihbpjcdmmbaa
open Go.RowKit
set_option linter.unusedVariables false

theorem info_zero8 {i : TypeInfo} (h : (i.zero, i.size, i.bytes) = (some (.int .u8 0), 1, 1)) : i.zero = some (.int .u8 0) ∧ i.size = 1 ∧ i.bytes = 1 := by
  simp at h; exact h
/-- make([]byte, m, n) -/
theorem make_bytes (m n : Nat) (hmn : m ≤ n) (hn : n ≤ 1000000) (w : World) :
    (Instr.makeSlice 22 (.int .i64 (m : Int)) (.int .i64 (n : Int))).run Try.prog w = .ok (.slice (some ⟨w.heap.size, 0, none⟩) m n) (w.alloc (.cells (madeCells #[.int .u8 0] n) 5)) := by
  obtain ⟨i, hi, hz, h1, h2⟩ := info_parts info_u8
  have := run_make (P := Try.prog) w 22 5 i (.int .u8 0) Try.underlying22 hi hz .i64 .i64 m n (by omega) (by omega) (by rw [h2]; omega) (by omega)
  rw [this, h1]
  simp [Value.cells]
theorem own_made (w : World) (n : Nat) (hn : n ≤ 1000000) : Own (w.alloc (.cells (madeCells #[.int .u8 0] n) 5)) w.heap.size (.slice (some ⟨w.heap.size, 0, none⟩) 0 n) [] :=
  World.ownsRow_made w _ n (Nat.le_refl _) (by simp only [maxLen]; omega) (by rw [size_madeCells, Nat.mul_one])
theorem own_zeros (w : World) (n : Nat) (hn : n ≤ 1000000) : Own (w.alloc (.cells (madeCells #[.int .u8 0] n) 5)) w.heap.size (.slice (some ⟨w.heap.size, 0, none⟩) n n) (List.replicate n 0) := by
  unfold Own
  have := World.ownsRow_lit (base := w.heap.size) (e := 5) (size := 1) w (madeCells #[.int .u8 0] n) n (Nat.le_refl _) (by simp only [maxLen]; omega) (by rw [size_madeCells, Nat.mul_one])
  rw [toList_madeCells_one] at this
  rw [List.length_replicate, bytesV, List.map_replicate]
  exact this

/-- a sum's four bytes, the highest first -/
def sum4 (n : Int) : List Int := [n / 16777216, n / 65536 % 256, n / 256 % 256, n % 256]
theorem four_cells (w : World) (a b c d : Int) : ∀ j y, [a, b, c, d][j]? = some y → (w.alloc (.cells #[.int .u8 a, .int .u8 b, .int .u8 c, .int .u8 d] 5)).cell? ((⟨w.heap.size, 0, none⟩ : Addr).add j) = some (.int .u8 y) := by
  intro j y h
  match j, h with
  | 0, h => simp at h; subst h; simp [go_sem]
  | 1, h => simp at h; subst h; simp [go_sem]
  | 2, h => simp at h; subst h; simp [go_sem]
  | 3, h => simp at h; subst h; simp [go_sem]
  | j + 4, h => simp at h
theorem four_arr (w : World) (a b c d : Int) (ha : 0 ≤ a ∧ a ≤ 255) (hb : 0 ≤ b ∧ b ≤ 255) (hc : 0 ≤ c ∧ c ≤ 255) (hd : 0 ≤ d ∧ d ≤ 255) :
    Arr (w.alloc (.cells #[.int .u8 a, .int .u8 b, .int .u8 c, .int .u8 d] 5)) .u8 (.slice (some ⟨w.heap.size, 0, none⟩) 4 4) [a, b, c, d] := by
  refine ⟨⟨_, 4, rfl, by simp, fun _ => ⟨w.heap.size, 0, rfl, fun j hj => ?_⟩, fun h => by cases h⟩, by simp [maxLen], fun y hy => wfu8 ?_⟩
  · match j, hj with
    | 0, _ => simp [go_sem]
    | 1, _ => simp [go_sem]
    | 2, _ => simp [go_sem]
    | 3, _ => simp [go_sem]
    | j + 4, h => simp at h; omega
  · simp at hy
    rcases hy with rfl | rfl | rfl | rfl <;> assumption
def nineC : Array Value := #[.int .u8 49, .int .u8 50, .int .u8 51, .int .u8 52, .int .u8 53, .int .u8 54, .int .u8 55, .int .u8 56, .int .u8 57]
theorem nine_arr {w : World} :
    Arr (w.alloc (.cells nineC 5 (nineC.size, nineC.size + 1))) .u8 (.slice (some ⟨w.heap.size, 0, none⟩) 9 9) [49, 50, 51, 52, 53, 54, 55, 56, 57] := by
  refine ⟨⟨_, 9, rfl, by simp, fun _ => ⟨w.heap.size, 0, rfl, fun j hj => ?_⟩, fun h => by cases h⟩, by simp [maxLen], fun y hy => wfu8 ?_⟩
  · rw [World.cell?_alloc_mark]
    match j, hj with
    | 0, _ => rfl
    | 1, _ => rfl
    | 2, _ => rfl
    | 3, _ => rfl
    | 4, _ => rfl
    | 5, _ => rfl
    | 6, _ => rfl
    | 7, _ => rfl
    | 8, _ => rfl
    | j + 9, h => simp at h; omega
  · simp at hy
    omega
set_option maxRecDepth 100000 in
theorem put_any (w : World) (v : Value) (l : List Int) (h : Arr w .u8 v l) (hlen : l.length ≤ 100000) :
    Calls Try.prog 21 #[v] w fun e w' => ∃ v', e = .returned v' ∧ Own w' w.heap.size v' (l ++ sum4 (bN (crcSum l))) ∧ Ext w w' := by
  have h' := h
  obtain ⟨⟨ao, c, rfl, h1, h2, h3⟩, h4, h5⟩ := h
  have hs := bN_lt (crcSum l)
  have hmk := make_bytes 0 (l.length + 4) (by omega) (by omega)
  rw [show ((0 : Nat) : Int) = 0 from rfl, show ((l.length + 4 : Nat) : Int) = (l.length : Int) + 4 by omega] at hmk
  clear h2 h3 h5
  go_enter Try.func21, Try.ntmps21
  go_wp2_with fail
  refine (sum_any _ _ _ h').mono ?_
  rintro e w1 ⟨rfl, rfl⟩
  generalize hS : bN (crcSum l) = s at *
  have HS := Lib.hid hS
  clear hS
  have hA := h'.ext ((Ext.refl w).alloc (madeCells #[.int .u8 0] (l.length + 4)) 5)
  have hO := own_made w (l.length + 4) (by omega)
  go_wp2_with (at_builtin; refine wpList_append_arr rfl _ _ rfl w.heap.size _ [] rfl hO _ l rfl hA (by simp; omega) (by simp) ?_)
  intro v1 w1 ho1 hc1 hk1
  have e1 : Ext w w1 := Ext.calm_trans ((Ext.refl w).alloc _ _) hc1 (fun g hg => by
    have := Option.mem_toList.1 hg
    simp [Value.ownBlock] at this
    omega)
  clear hmk hA hO
  obtain ⟨ao1, c1, rfl, -, -⟩ := ho1.slice
  have z1 := e1.size
  have hb1 : ∀ k, (Value.slice ao1 l.length c1).ownBlock = some k → w.heap.size ≤ k := fun k hk => (ho1.lt k hk).1
  have hO2 := ho1.alloc (.cells #[.int .u8 (s / 16777216), .int .u8 (s / 65536 % 256), .int .u8 (s / 256 % 256), .int .u8 (s % 256)] 5)
  go_wp2_with (at_builtin; refine wpList_append_bytes rfl _ _ rfl w.heap.size _ l rfl hO2 ⟨w1.heap.size, 0, none⟩ 4 (sum4 s) rfl (four_cells _ _ _ _ _) (by simp [sum4]; omega) (by simp; omega) ?_)
  intro v2 w2 ho2 hc2 hk2
  have e2 : Ext w w2 := Ext.calm_trans (e1.alloc _ _) hc2 (fun g hg => hb1 g (Option.mem_toList.1 hg))
  go_wp2
  go_ret
  exact ⟨v2, rfl, by rw [HS.out]; exact ho2, e2⟩

end Go.Proofs.Ytmoihbpjcdmmbaa
