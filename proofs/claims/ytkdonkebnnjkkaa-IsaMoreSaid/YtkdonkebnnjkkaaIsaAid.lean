/-
  DERIVED. Layer 7's laws: Awake, raw, same.
-/
import Derived.Test.YtkdonkebnnjkkaaIsaTake
import Derived.Test.YtkdonkebnnjkkaaRowIsa
namespace Go.Proofs.Ytkdonkebnnjkkaa
open Go.RowKit
set_option linter.unusedVariables false
theorem lit_in (W : World) (y : In) (T : TypeId) : ∀ i u, y.cells[i]? = some u → (W.alloc (.cells #[.int .u8 y.op, .int .u8 y.dst, .int .u8 y.a, .int .u8 y.b, .int .i16 y.imm] T)).cell? ⟨W.heap.size, i, none⟩ = some u := by
  intro i u h
  match i, h with
  | 0, h => simp [In.cells] at h; subst h; simp [go_sem]
  | 1, h => simp [In.cells] at h; subst h; simp [go_sem]
  | 2, h => simp [In.cells] at h; subst h; simp [go_sem]
  | 3, h => simp [In.cells] at h; subst h; simp [go_sem]
  | 4, h => simp [In.cells] at h; subst h; simp [go_sem]
  | i + 5, h => simp [In.cells] at h
theorem lit_own (W : World) (y : In) : OwnP (W.alloc (.cells #[.int .u8 y.op, .int .u8 y.dst, .int .u8 y.a, .int .u8 y.b, .int .i16 y.imm] 49)) W.heap.size (.slice (some ⟨W.heap.size, 0, none⟩) 1 1) [y] :=
  World.ownsRow_lit (base := W.heap.size) (e := 49) (size := 5) W _ 1 (Nat.le_refl _) (by simp [maxLen]) rfl
theorem lit_none (W : World) : OwnP (W.alloc (.cells #[] 49)) W.heap.size (.slice (some ⟨W.heap.size, 0, none⟩) 0 0) [] :=
  World.ownsRow_lit (base := W.heap.size) (e := 49) (size := 5) W #[] 0 (Nat.le_refl _) (by simp [maxLen]) rfl
set_option maxRecDepth 100000 in
theorem awake7_any (w : World) : Calls Try.prog 7 #[] w fun e w' => e = .returned (.bool true) ∧ Ext w w' := by
  have P1 := Pen.new (w := w) (base := w.heap.size) (Nat.le_refl _)
  have x1 := (Ext.refl w).alloc #[.slice none 0 0] 30
  have z1 : (w.alloc (.cells #[.slice none 0 0] 30)).heap.size = w.heap.size + 1 := by simp
  have o2 := lit_none (w.alloc (.cells #[.slice none 0 0] 30))
  have x2 := (Ext.refl (w.alloc (.cells #[.slice none 0 0] 30))).alloc #[] 49
  have P2 := P1.ext x2
  have hck : chk true [⟨11, 0, 0, 0, 1⟩] = 12 := by decide
  have hen : enc [] = [0] := by simp [enc, encs, leb_small]
  rw [z1] at o2
  go_enter Try.func7, Try.ntmps7
  go_wp2_with fail
  refine (putP_any _ _ _ _ _ P2 _ _ _ o2 (fun k hk hin => by simp [Value.ownBlock] at hk; simp at hin; omega) (fun x hx => absurd hx (by simp)) (by simp) (by simp) (by simp; omega)).mono ?_
  rintro e w3 ⟨rfl, F3, P3, s3⟩
  have e3 : Ext w w3 := s3.ext (x1.trans x2) (by simp)
  rw [List.nil_append, hen] at P3
  go_wp2_with fail
  refine (pen_bytes _ _ _ _ _ P3 (by simp) (by simp)).mono ?_
  rintro e w4 ⟨v4, rfl, o4, x4⟩
  have hs4 := o4.str
  have e4 := e3.trans x4
  have o5 := lit_own w4 ⟨11, 0, 0, 0, 1⟩
  have hstr : strOfNums [0] = { data := #[0] } := by rfl
  rw [hstr] at hs4
  go_wp2_with fail
  refine (check_any true _ _ _ [⟨11, 0, 0, 0, 1⟩] o5 (by simp [In.ok]) (by simp)).mono ?_
  rintro e w6 ⟨rfl, x6⟩
  rw [hck]
  have e6 := (e4.alloc _ _).trans x6
  go_wp2
  go_ret
  exact ⟨rfl, e6⟩
def rawI (s : Sm) : In := if s.raw = true then ⟨s.op, s.dst, s.a, s.b, s.imm⟩ else ⟨s.op % 15, s.dst % 12, s.a % 12, s.b % 12, s.imm.tmod 6⟩
def rawL (sl : List Sm) : List In := sl.map rawI
theorem rawL_snoc {sl : List Sm} {j : Nat} {s : Sm} (h : sl[j]? = some s) : rawL (sl.take (j + 1)) = rawL (sl.take j) ++ [rawI s] := by
  unfold rawL
  rw [List.take_add_one, h]
  simp
set_option maxRecDepth 100000 in
theorem raw_any (w : World) (v : Value) (sl : List Sm) (h : SArr w v sl) (hl : sl.length ≤ 40) : Calls Try.prog 16 #[v] w fun e w' => ∃ v', e = .returned v' ∧ OwnP w' w.heap.size v' (rawL sl) ∧ Ext w w' := by
  have hA := h
  obtain ⟨⟨ao, c, rfl, -⟩, -, -⟩ := h
  have hlI : (sl.length : Int) ≤ 40 := by omega
  go_enter Try.func16, Try.ntmps16
  go_wp2_with fail
  go_loopg [9, 3] sl.length (fun k iv pv wr => ∃ (j : Nat), j + k = sl.length ∧ iv = .int .i64 j ∧ OwnP wr w.heap.size pv (rawL (sl.take j)) ∧ Ext w wr)
  case atStart => exact ⟨0, by omega, rfl, OwnP.nil _ _, Ext.refl _⟩
  case round =>
    obtain ⟨j, hjk, rfl, o1, e1⟩ := hrel
    by_cases hj : j < sl.length
    · have hjI : (j : Int) < (sl.length : Int) := by omega
      obtain ⟨b, off, s, rfl, hs, hsb, c0, c1, c2, c3, c4, c5⟩ := (hA.ext e1).nth j hj
      have hsn := rawL_snoc hs
      have HSN := Lib.hid hsn
      clear hsn hs
      obtain ⟨b0, b1, b2, b3, b4⟩ := hsb
      cases hr : s.raw
      · have x2 := ((Ext.refl wr).alloc #[.int .u8 s.op, .int .u8 s.dst, .int .u8 s.a, .int .u8 s.b, .int .i16 s.imm, .bool false] 52).alloc #[.int .u8 (s.op % 15), .int .u8 (s.dst % 12), .int .u8 (s.a % 12), .int .u8 (s.b % 12), .int .i16 (s.imm.tmod 6)] 49
        have x3 := x2.alloc #[.int .u8 (s.op % 15), .int .u8 (s.dst % 12), .int .u8 (s.a % 12), .int .u8 (s.b % 12), .int .i16 (s.imm.tmod 6)] 49
        have o3 := o1.ext x3
        have e3 := e1.trans x3
        have hcn := lit_in ((wr.alloc (.cells #[.int .u8 s.op, .int .u8 s.dst, .int .u8 s.a, .int .u8 s.b, .int .i16 s.imm, .bool false] 52)).alloc (.cells #[.int .u8 (s.op % 15), .int .u8 (s.dst % 12), .int .u8 (s.a % 12), .int .u8 (s.b % 12), .int .i16 (s.imm.tmod 6)] 49)) ⟨s.op % 15, s.dst % 12, s.a % 12, s.b % 12, s.imm.tmod 6⟩ 49
        have z3 : ((wr.alloc (.cells #[.int .u8 s.op, .int .u8 s.dst, .int .u8 s.a, .int .u8 s.b, .int .i16 s.imm, .bool false] 52)).alloc (.cells #[.int .u8 (s.op % 15), .int .u8 (s.dst % 12), .int .u8 (s.a % 12), .int .u8 (s.b % 12), .int .i16 (s.imm.tmod 6)] 49)).heap.size = wr.heap.size + 1 + 1 := by simp
        rw [z3] at hcn
        dsimp only at hcn
        have hri : rawI s = ⟨s.op % 15, s.dst % 12, s.a % 12, s.b % 12, s.imm.tmod 6⟩ := by simp [rawI, hr]
        have HRI := Lib.hid hri
        have hrl : (rawL (sl.take j)).length = j := by simp [rawL]; omega
        have hzz := e1.size
        clear hri z3 x2 x3 o1 e1
        go_wp2_with (at_builtin; refine wpList_append_in rfl _ _ rfl w.heap.size _ _ rfl o3 (wr.heap.size + 1 + 1) 1 ⟨s.op % 15, s.dst % 12, s.a % 12, s.b % 12, s.imm.tmod 6⟩ rfl hcn (by rw [hrl]; omega) (by simp; omega) ?_)
        intro v4 w4 o4 K4 hk4
        have e4 := Ext.calm_trans e3 K4 (fun g hg => (o3.lt g (Option.mem_toList.1 hg)).1)
        obtain ⟨ao4, c4', rfl, -, -⟩ := o4.slice
        clear o3 e3 hcn K4 hk4
        go_wp2
        go_roundg (gk - 1)
        case measure => omega
        case rel => exact ⟨j + 1, by omega, rfl, by rw [HSN.out, HRI.out]; exact o4, e4⟩
      · have x2 := ((Ext.refl wr).alloc #[.int .u8 s.op, .int .u8 s.dst, .int .u8 s.a, .int .u8 s.b, .int .i16 s.imm, .bool true] 52).alloc #[.int .u8 (s.op), .int .u8 (s.dst), .int .u8 (s.a), .int .u8 (s.b), .int .i16 (s.imm)] 49
        have x3 := x2.alloc #[.int .u8 (s.op), .int .u8 (s.dst), .int .u8 (s.a), .int .u8 (s.b), .int .i16 (s.imm)] 49
        have o3 := o1.ext x3
        have e3 := e1.trans x3
        have hcn := lit_in ((wr.alloc (.cells #[.int .u8 s.op, .int .u8 s.dst, .int .u8 s.a, .int .u8 s.b, .int .i16 s.imm, .bool true] 52)).alloc (.cells #[.int .u8 (s.op), .int .u8 (s.dst), .int .u8 (s.a), .int .u8 (s.b), .int .i16 (s.imm)] 49)) ⟨s.op, s.dst, s.a, s.b, s.imm⟩ 49
        have z3 : ((wr.alloc (.cells #[.int .u8 s.op, .int .u8 s.dst, .int .u8 s.a, .int .u8 s.b, .int .i16 s.imm, .bool true] 52)).alloc (.cells #[.int .u8 (s.op), .int .u8 (s.dst), .int .u8 (s.a), .int .u8 (s.b), .int .i16 (s.imm)] 49)).heap.size = wr.heap.size + 1 + 1 := by simp
        rw [z3] at hcn
        dsimp only at hcn
        have hri : rawI s = ⟨s.op, s.dst, s.a, s.b, s.imm⟩ := by simp [rawI, hr]
        have HRI := Lib.hid hri
        have hrl : (rawL (sl.take j)).length = j := by simp [rawL]; omega
        have hzz := e1.size
        clear hri z3 x2 x3 o1 e1
        go_wp2_with (at_builtin; refine wpList_append_in rfl _ _ rfl w.heap.size _ _ rfl o3 (wr.heap.size + 1 + 1) 1 ⟨s.op, s.dst, s.a, s.b, s.imm⟩ rfl hcn (by rw [hrl]; omega) (by simp; omega) ?_)
        intro v4 w4 o4 K4 hk4
        have e4 := Ext.calm_trans e3 K4 (fun g hg => (o3.lt g (Option.mem_toList.1 hg)).1)
        obtain ⟨ao4, c4', rfl, -, -⟩ := o4.slice
        clear o3 e3 hcn K4 hk4
        go_wp2
        go_roundg (gk - 1)
        case measure => omega
        case rel => exact ⟨j + 1, by omega, rfl, by rw [HSN.out, HRI.out]; exact o4, e4⟩
    · obtain rfl : j = sl.length := by omega
      rw [List.take_length] at o1
      go_wp2
      go_ret
      exact ⟨_, rfl, o1, e1⟩
theorem rawI_ok {s : Sm} (h : s.ok) : (rawI s).ok := by
  unfold Sm.ok at h
  have ht : -6 < s.imm.tmod 6 ∧ s.imm.tmod 6 < 6 := by
    rcases Int.le_total 0 s.imm with h0 | h0
    · rw [Int.tmod_eq_emod_of_nonneg h0]; omega
    · obtain ⟨m, hm⟩ : ∃ m, s.imm = -m := ⟨-s.imm, by omega⟩
      rw [hm, Int.neg_tmod, Int.tmod_eq_emod_of_nonneg (by omega)]; omega
  unfold rawI In.ok
  split <;> simp only <;> omega
theorem rawL_ok {sl : List Sm} (h : ∀ s ∈ sl, s.ok) : ∀ x ∈ rawL sl, x.ok := fun x hx => by
  obtain ⟨s, hs, rfl⟩ := List.mem_map.1 hx
  exact rawI_ok (h s hs)
theorem rawL_length (sl : List Sm) : (rawL sl).length = sl.length := by simp [rawL]
set_option maxRecDepth 100000 in
theorem same_any (w : World) (base base' : Nat) (v v' : Value) (xs : List In) (h : OwnP w base v xs) (h' : OwnP w base' v' xs) (hl : xs.length ≤ 1000) : Calls Try.prog 14 #[v, v'] w fun e w' => e = .returned (.bool true) ∧ Qt w w' := by
  obtain ⟨ao, c, rfl, -, -⟩ := h.slice
  obtain ⟨ao', c', rfl, -, -⟩ := h'.slice
  have hlI : (xs.length : Int) ≤ 1000 := by omega
  go_enter Try.func14, Try.ntmps14
  go_wp2_with fail
  go_loopg [13] xs.length (fun k iv wr => ∃ (j : Nat), j + k = xs.length ∧ iv = .int .i64 j ∧ Qt w wr)
  case atStart => exact ⟨0, by omega, rfl, Qt.refl _⟩
  case round =>
    obtain ⟨j, hjk, rfl, q1⟩ := hrel
    by_cases hj : j < xs.length
    · have hjI : (j : Int) < (xs.length : Int) := by omega
      obtain ⟨g, x, rfl, -, hx, c0, c1, c2, c3, c4⟩ := (h.qt q1).nth j hj
      obtain ⟨g', x', rfl, -, hx', d0, d1, d2, d3, d4⟩ := (h'.qt q1).nth j hj
      rw [hx] at hx'
      cases hx'
      clear hx
      go_wp2_with fail
      go_region
      go_wp2
      go_roundg (gk - 1)
      case measure => omega
      case rel => exact ⟨j + 1, by omega, rfl, q1.trans ⟨1, rfl⟩⟩
    · obtain rfl : j = xs.length := by omega
      go_wp2
      go_ret
      exact ⟨rfl, q1⟩
end Go.Proofs.Ytkdonkebnnjkkaa
