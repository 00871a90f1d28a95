/-
  DERIVED. THE WALK of IsaAny.
-/
import Derived.Test.YtkdonkebnnjkkaaIsaAnyParts
namespace Go.Proofs.Ytkdonkebnnjkkaa
open Go.RowKit
set_option linter.unusedVariables false
theorem Rdr.of_step {w w' : World} {base p : Nat} {l : List Int} {k : Nat} {err : Int} {F O O' : List Nat} (h : Rdr w base p l k err F) (hs : Step O O' w w') (hO : ∀ b ∈ F, b ∉ O) : Rdr w' base p l k err F := h.kept hs.1 hO
theorem Arr.calm {O : List Nat} {w w' : World} {k : IntKind} {v : Value} {xs : List Int} (h : Arr w k v xs) (hx : Calm O w w') (hO : ∀ b, v.ownBlock = some b → b ∉ O) : Arr w' k v xs := by
  obtain ⟨⟨ao, cap, rfl, hc, h1, h2⟩, h3, h4⟩ := h
  refine ⟨⟨ao, cap, rfl, hc, fun hne => ?_, h2⟩, h3, h4⟩
  obtain ⟨b, off, rfl, hcell⟩ := h1 hne
  refine ⟨b, off, rfl, fun j hj => ?_⟩
  have h5 := hcell j hj
  have hlt := World.block_lt_of_cell? w _ h5
  rw [World.cell?_of_block (hx.block b hlt (hO b rfl))]
  exact h5
theorem take_of_drop {l e : List Int} {k : Nat} (hk : k ≤ l.length) (h : l = e ++ l.drop k) : l.take k = e := by
  have h1 : e.length = k := by
    have := congrArg List.length h
    simp at this
    omega
  rw [h, List.take_left' h1]
set_option maxRecDepth 100000 in
set_option maxHeartbeats 2000000 in
theorem isaAny_main {w : World} (v : Value) (bs : List Int) (u : Value) (sl : List Sm) (d : Bool) (h1 : Arr w .u8 v bs) (h2 : SArr w u sl) (l1 : bs.length ≤ 150) (l2 : sl.length ≤ 40) :
    Calls Try.prog 4 #[v, u, .bool d] w fun e w' => e = .returned (.bool true) ∧ Ext w w' := by
  have hA := h1
  have hS := h2
  obtain ⟨⟨a1, c1, rfl, -⟩, -, -⟩ := h1
  obtain ⟨⟨a2, c2, rfl, -⟩, -, hsb⟩ := h2
  have i1 : (bs.length : Int) ≤ 150 := by omega
  have i2 : (sl.length : Int) ≤ 40 := by omega
  go_enter Try.func4, Try.ntmps4
  go_wp2_with fail
  refine (awake7_any _).mono ?_
  rintro e w1 ⟨rfl, e1⟩
  have P2 := Pen.new (w := w1) (base := w1.heap.size) (Nat.le_refl _)
  have x2 := (Ext.refl w1).alloc #[.slice none 0 0] 30
  have e2 := e1.trans x2
  go_wp2_with fail
  refine (raw_any _ _ sl (hS.ext e2) l2).mono ?_
  rintro e w3 ⟨v3, rfl, o3, x3⟩
  have P3 := P2.ext x3
  have e3 := e2.trans x3
  have z2 : (w1.alloc (.cells #[.slice none 0 0] 30)).heap.size = w1.heap.size + 1 := by simp
  have z3 := x3.size
  have z1 := e1.size
  obtain ⟨ao3, c3, rfl, -, -⟩ := o3.slice
  rw [rawL_length] at o3 ⊢
  have hok := rawL_ok hsb
  go_wp2_with fail
  refine (putP_any _ _ _ _ _ P3 _ _ _ o3 (fun k hk hin => by have := (o3.lt k hk).1; simp at hin; omega) hok (by rw [rawL_length]; omega) (by simp) (by omega)).mono ?_
  rintro e w4 ⟨rfl, F4, P4, s4⟩
  rw [List.nil_append] at P4
  have e4 : Ext w w4 := s4.ext e3 (fun b hb => by simp at hb; omega)
  have hen : (enc (rawL sl)).length < 1000 := by
    have h1 := encs_len hok
    have h2 := leb_len10 (n := (rawL sl).length) (by rw [rawL_length]; omega)
    rw [rawL_length] at h1
    simp only [enc, List.length_append]
    omega
  have hby := enc_bytes hok
  go_wp2_with fail
  refine (pen_bytes _ _ _ _ _ P4 hby (by omega)).mono ?_
  rintro e w5 ⟨v5, rfl, o5, x5⟩
  have e5 := e4.trans x5
  have A5 := o5.arr hby
  have A5' := hA.ext e5
  obtain ⟨ao5, c5, rfl, -, -⟩ := o5.slice
  generalize enc (rawL sl) = eb at *
  clear P2 x2 e1 e2 P3 e3 z2 z3 z1 o3 hok P4 s4 e4 x5 o5 x3 hsb
  have x6 := (Ext.refl w5).alloc #[.slice a1 bs.length c1, .slice ao5 eb.length c5] 28
  have B6 := Blk.new w5 #[.slice a1 bs.length c1, .slice ao5 eb.length c5] 28
  have e6 := e5.trans x6
  have A6 := A5.ext x6
  have A6' := A5'.ext x6
  go_wp2
  generalize (w5.alloc (.cells #[.slice a1 bs.length c1, .slice ao5 eb.length c5] 28)) = w6 at *
  generalize w5.heap.size = gl at *
  clear e5 A5 A5' x6
  go_loopg [34] 2 (fun k iv wr => ∃ (j : Nat), j + k = 2 ∧ iv = .int .i64 j ∧ Ext w6 wr)
  case atStart => exact ⟨0, by omega, rfl, Ext.refl _⟩
  case round =>
    obtain ⟨j, hjk, rfl, x7⟩ := hrel
    have hlt : gl < w6.heap.size := B6.lt
    by_cases hj : j < 2
    · have hjI : (j : Int) < 2 := by omega
      obtain ⟨ax, cx, lx, hcx, hAx, hlx, hbx⟩ : ∃ (ax : Option Addr) (cx : Nat) (lx : List Int), wr.cell? ⟨gl, j, none⟩ = some (.slice ax lx.length cx) ∧ Arr wr .u8 (.slice ax lx.length cx) lx ∧ lx.length < 1000 ∧ (∀ y ∈ lx, 0 ≤ y ∧ y ≤ 255) := by
        have hc := (B6.ext x7).cell
        match j, hj with
        | 0, _ => exact ⟨a1, c1, bs, by simpa using hc 0, A6'.ext x7, by omega, A6'.bd⟩
        | 1, _ => exact ⟨ao5, c5, eb, by simpa using hc 1, A6.ext x7, hen, hby⟩
      go_wp2_with fail
      refine (rd_read _ _ lx hAx (by omega)).mono ?_
      rintro e w8 ⟨pr, Fr, rfl, R8, x8⟩
      have A8 := hAx.ext x8
      have x8' := x7.trans x8
      have hF8 : ∀ b ∈ Fr, wr.heap.size ≤ b := fun b hb => (R8.lt b hb).1
      go_wp2_with fail
      refine (take_any d _ _ _ _ _ _ _ R8).mono ?_
      rintro e w9 ⟨vp, xs, k9, err9, rfl, o9, hok9, hl9, R9, s9, T9⟩
      have x9 : Ext wr w9 := s9.ext x8 hF8
      have A9 := hAx.ext x9
      have x9' := x7.trans x9
      clear R8 A8 x8 x8' hAx
      go_wp2_with fail
      refine (rd_err _ _ _ _ _ _ _ R9).mono ?_
      rintro e w9' ⟨rfl, rfl⟩
      obtain ⟨aop, cp, rfl, -, -⟩ := o9.slice
      rcases T9 with ⟨_, rfl, hck, hdr⟩ | ⟨hne, rfl, _⟩
      · rw [List.drop_zero] at hdr
        have hk9 := R9.most
        have HTK := Lib.hid (take_of_drop hk9.1 hdr)
        have hlne : lx ≠ [] := by
          intro e
          have h1 := congrArg List.length hdr
          have h2 := leb_pos xs.length
          rw [e] at h1
          simp [enc] at h1
          omega
        have HCK := Lib.hid hck
        clear hdr hck
        have P10 := Pen.new (w := w9) (base := w9.heap.size) (Nat.le_refl _)
        have x10 := (Ext.refl w9).alloc #[.slice none 0 0] 30
        have o10 := o9.ext x10
        have R10 := R9.ext x10
        have A10 := A9.ext x10
        have x10' := x9'.trans x10
        go_wp2_with fail
        refine (putP_any _ _ _ _ _ P10 _ _ _ o10 (fun k hk hin => by have := (o9.lt k hk).2; simp at hin; omega) hok9 (by omega) (by simp) (by simp)).mono ?_
        rintro e w11 ⟨rfl, F11, P11, s11⟩
        rw [List.nil_append] at P11
        have x11 : Ext w9 w11 := s11.ext x10 (by simp)
        have o11 := o9.ext x11
        have R11 := R9.ext x11
        have A11 := A9.ext x11
        have x11' := x9'.trans x11
        obtain ⟨bx, ox, rfl⟩ : ∃ bx ox, ax = some ⟨bx, ox, none⟩ := by
          obtain ⟨⟨ao', c', e, _, h2, _⟩, _⟩ := A11
          cases e
          obtain ⟨b, off, e, _⟩ := h2 hlne
          exact ⟨b, off, e⟩
        clear P10 x10 o10 R10 A10 x10' s11 R9 o9 A9 x9'
        go_wp2_with fail
        refine any_r17 _ _ _ _ _ _ _ _ _ _ _ _ _ _ _ _ _ _ _ _ _ _ _ _ _ _ _ _ _ _ _ _ _ _ _ _ _ _ _ _ _ _ _ _ _ _ _ _ _ _ _ _ _ _ _ _ _ _ _ _ _ _ _ _ _ d bx ox lx.length cx pr _ _ _ _ k9 _ lx xs Fr F11 w11 A11 R11 o11 hok9 hl9 HCK.out P11 HTK.out ?_
        intro c0 c1 c2 c3 c4 c5 c6 c7 c8 c9 c10 c11 c12 c13 w12 x12
        have x12' := x11'.trans x12
        go_wp2
        go_roundg (gk - 1)
        case measure => omega
        case rel => exact ⟨j + 1, by omega, rfl, x12'⟩
      · have hneb : (err9 != 0) = true := by simpa using hne
        go_wp2
        go_roundg (gk - 1)
        case measure => omega
        case rel => exact ⟨j + 1, by omega, rfl, x9'⟩
    · obtain rfl : j = 2 := by omega
      go_wp2
      go_ret
      exact ⟨rfl, e6.trans x7⟩
set_option maxRecDepth 100000 in
theorem isaAny_row {w : World} (v : Value) (bs : List Int) (u : Value) (sl : List Sm) (d : Bool) (h1 : Arr w .u8 v bs) (h2 : SArr w u sl) :
    Calls Try.prog 4 #[v, u, .bool d] w fun e w' => e = .returned (.bool true) ∧ Ext w w' := by
  have m1 := h1.most
  have m2 := h2.most
  unfold maxLen at m1 m2
  have hmain := fun l1 l2 => isaAny_main v bs u sl d h1 h2 l1 l2
  obtain ⟨⟨a1, c1, rfl, -⟩, -, -⟩ := h1
  obtain ⟨⟨a2, c2, rfl, -⟩, -, -⟩ := h2
  by_cases l1 : bs.length ≤ 150
  · by_cases l2 : sl.length ≤ 40
    · exact hmain l1 l2
    · clear hmain
      have i1 : ¬ (150 : Int) < (bs.length : Int) := by omega
      have i2 : (40 : Int) < (sl.length : Int) := by omega
      clear l1 l2
      go_enter Try.func4, Try.ntmps4
      go_wp2_with fail
      refine (awake7_any _).mono ?_
      rintro e w1 ⟨rfl, e1⟩
      go_wp2
      go_ret
      exact ⟨rfl, e1⟩
  · clear hmain
    have i1 : (150 : Int) < (bs.length : Int) := by omega
    clear l1
    go_enter Try.func4, Try.ntmps4
    go_wp2_with fail
    refine (awake7_any _).mono ?_
    rintro e w1 ⟨rfl, e1⟩
    go_wp2
    go_ret
    exact ⟨rfl, e1⟩
end Go.Proofs.Ytkdonkebnnjkkaa
