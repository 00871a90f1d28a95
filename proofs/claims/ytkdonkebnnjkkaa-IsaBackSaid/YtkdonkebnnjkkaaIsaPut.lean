/-
  DERIVED. THE WALKS of layer 7 (isa): Put.
-/
import Derived.Test.YtkdonkebnnjkkaaIsaCheck
import Derived.Test.YtkdonkebnnjkkaaWirePen
namespace Go.Proofs.Ytkdonkebnnjkkaa
open Go.RowKit
set_option linter.unusedVariables false
theorem Pen.ext {w w' : World} {base p : Nat} {l : List Int} {F : List Nat} (h : Pen w base p l F) (hx : Ext w w') : Pen w' base p l F :=
  h.kept (hx.calm []) (fun b hb => by simp)
theorem Step.of_ext {F : List Nat} {w w' : World} (hx : Ext w w') : Step F F w w' :=
  ⟨hx.calm F, fun b hm => .inl hm⟩
theorem lit4_arr (w : World) (a b c d : Int) (ha : 0 ≤ a ∧ a ≤ 255) (hb : 0 ≤ b ∧ b ≤ 255) (hc : 0 ≤ c ∧ c ≤ 255) (hd : 0 ≤ d ∧ d ≤ 255) :
    Arr (w.alloc (.cells #[.int .u8 a, .int .u8 b, .int .u8 c, .int .u8 d] 5)) .u8 (.slice (some ⟨w.heap.size, 0, none⟩) 4 4) [a, b, c, d] := by
  refine ⟨⟨_, 4, rfl, by simp, fun _ => ⟨w.heap.size, 0, rfl, fun j hj => ?_⟩, fun h => by cases h⟩, by simp [maxLen], fun y hy => wfu8 ?_⟩
  · match j, hj with
    | 0, _ => simp [go_sem]
    | 1, _ => simp [go_sem]
    | 2, _ => simp [go_sem]
    | 3, _ => simp [go_sem]
    | j + 4, h => simp at h; omega
  · simp at hy
    rcases hy with rfl | rfl | rfl | rfl <;> assumption
theorem OwnP.step {F F' : List Nat} {w w' : World} {base : Nat} {v : Value} {l : List In} (h : OwnP w base v l) (hs : Step F F' w w') (hF : ∀ k, v.ownBlock = some k → k ∉ F) : OwnP w' base v l ∧ ∀ k, v.ownBlock = some k → k ∉ F' :=
  ⟨h.calm hs.1 hF, fun k hk hin => by
    rcases hs.2 k hin with h1 | h1
    · exact hF k hk h1
    · have := (h.lt k hk).2
      omega⟩
set_option maxRecDepth 100000 in
set_option maxHeartbeats 1000000 in
theorem putP_any (w : World) (base p : Nat) (l : List Int) (F : List Nat) (hP : Pen w base p l F) (base' : Nat) (v : Value) (xs : List In) (h : OwnP w base' v xs) (hF : ∀ k, v.ownBlock = some k → k ∉ F) (hok : ∀ x ∈ xs, x.ok) (hl : xs.length ≤ 1000) (hlen : l.length < 1000) (hb : base ≤ w.heap.size) :
    Calls Try.prog 9 #[v, .pointer (some ⟨p, 0, none⟩)] w fun e w' => e = .returned (.tuple #[]) ∧ ∃ F', Pen w' base p (l ++ enc xs) F' ∧ Step F F' w w' := by
  obtain ⟨ao, c, rfl, -, -⟩ := h.slice
  have hlI : (xs.length : Int) ≤ 1000 := by omega
  go_enter Try.func9, Try.ntmps9
  go_wp2_with fail
  refine (pen_count (xs.length : Int) (by omega) _ _ _ _ _ hP (by omega) hb).mono ?_
  rintro e w1 ⟨rfl, F1, P1, s1⟩
  rw [Int.toNat_natCast] at P1
  have hl1 : (leb xs.length).length ≤ 10 := leb_len10 (by omega)
  go_wp2_with fail
  go_loopg [12] xs.length (fun k iv wr => ∃ (j : Nat) (F' : List Nat), j + k = xs.length ∧ iv = .int .i64 j ∧ Pen wr base p (l ++ leb xs.length ++ encs (xs.take j)) F' ∧ Step F F' w wr)
  case atStart => exact ⟨0, F1, by omega, rfl, by simpa [encs] using P1, s1⟩
  case round =>
    clear P1 s1
    obtain ⟨j, F2, hjk, rfl, P2, s2⟩ := hrel
    by_cases hj : j < xs.length
    · have hjI : (j : Int) < (xs.length : Int) := by omega
      obtain ⟨h2, hF2⟩ := h.step s2 hF
      obtain ⟨g, x, rfl, -, hx, c0, c1, c2, c3, c4⟩ := h2.nth j hj
      have hxo := hok x (List.mem_of_getElem? hx)
      have hsz := s2.1.size
      have him := hxo.2.2.2.2
      have hel : (encs (xs.take j)).length ≤ 7000 := by
        have := encs_len (xs := xs.take j) fun y hy => hok y (List.mem_of_mem_take hy)
        simp at this
        omega
      have hes := encs_snoc hx
      have HES := Lib.hid hes
      clear hes hx
      have x3 := ((Ext.refl wr).alloc #[.int .u8 x.op, .int .u8 x.dst, .int .u8 x.a, .int .u8 x.b, .int .i16 x.imm] 49)
      have x4 := x3.alloc #[.int .u8 x.op, .int .u8 x.dst, .int .u8 x.a, .int .u8 x.b] 5
      have B4 := (Blk.new wr #[.int .u8 x.op, .int .u8 x.dst, .int .u8 x.a, .int .u8 x.b, .int .i16 x.imm] 49).alloc (.cells #[.int .u8 x.op, .int .u8 x.dst, .int .u8 x.a, .int .u8 x.b] 5)
      have P4 := P2.ext x4
      have A4 := lit4_arr (wr.alloc (.cells #[.int .u8 x.op, .int .u8 x.dst, .int .u8 x.a, .int .u8 x.b, .int .i16 x.imm] 49)) x.op x.dst x.a x.b hxo.1 hxo.2.1 hxo.2.2.1 hxo.2.2.2.1
      have z4 : (wr.alloc (.cells #[.int .u8 x.op, .int .u8 x.dst, .int .u8 x.a, .int .u8 x.b, .int .i16 x.imm] 49)).heap.size = wr.heap.size + 1 := by simp
      rw [z4] at A4
      clear z4
      have s4 := s2.trans (Step.of_ext x4)
      go_wp2_with fail
      refine (pen_put _ base p _ _ P4 _ _ A4 (by simp only [List.length_append, List.length_cons, List.length_nil]; omega) (by have := x4.size; omega)).mono ?_
      rintro e w5 ⟨rfl, F5, P5, s5⟩
      have B5 := B4.calm s5.1 (fun hin => by have := (P2.lt _ hin).2; omega)
      have b5 := B5.cell
      have s6 := s4.trans s5
      clear x3 x4 B4 P4 A4 s4 s5 P2
      go_wp2_with fail
      refine (pen_int x.imm (by have := hxo.2.2.2.2; omega) _ _ _ _ _ P5 (by simp only [List.length_append, List.length_cons, List.length_nil]; omega) (by have := s6.1.size; omega)).mono ?_
      rintro e w7 ⟨rfl, F7, P7, s7⟩
      have s8 := s6.trans s7
      go_wp2
      go_roundg (gk - 1)
      case measure => omega
      case rel => exact ⟨j + 1, F7, by omega, rfl, by rw [HES.out]; simpa [encI] using P7, s8⟩
    · obtain rfl : j = xs.length := by omega
      rw [List.take_length] at P2
      go_wp2
      exact bodyPost_end (v := .tuple #[]) (by simp [results, Try.results9]) rfl ⟨rfl, F2, by simpa [enc] using P2, s2⟩
end Go.Proofs.Ytkdonkebnnjkkaa
