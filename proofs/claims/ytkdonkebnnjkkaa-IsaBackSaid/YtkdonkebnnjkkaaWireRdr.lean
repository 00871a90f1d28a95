/-
  DERIVED. THE WALKS of layer 4 (wire): the Reader.
-/
import Derived.Test.YtkdonkebnnjkkaaWireNums
import Derived.Test.YtkdonkebnnjkkaaWirePen
import Derived.Lib.EndianBits
import Derived.Deep.QuietTactic
import Derived.BigQuiet
namespace Go.Proofs.Ytkdonkebnnjkkaa
open Go.RowKit
set_option linter.unusedVariables false

/-- a Reader of the call's own at p: its bytes l, of which k have been read, its error; it lives in the blocks F -/
def Rdr (w : World) (base p : Nat) (l : List Int) (k : Nat) (err : Int) (F : List Nat) : Prop :=
  ∃ v, Blk w p #[v, .int .i64 k, .int .i64 err] 58 ∧ Own w base v l ∧ base ≤ p ∧ F = p :: v.ownBlock.toList ∧ (∀ x, v.ownBlock = some x → x ≠ p) ∧ k ≤ l.length ∧ (∀ y ∈ l, 0 ≤ y ∧ y ≤ 255) ∧ l.length < 1000000
theorem Rdr.kept {w w' : World} {base p : Nat} {l : List Int} {k : Nat} {err : Int} {F O : List Nat} (h : Rdr w base p l k err F) (hc : Calm O w w') (hO : ∀ b ∈ F, b ∉ O) : Rdr w' base p l k err F := by
  obtain ⟨v, B, ho, hb, rfl, hne, hk⟩ := h
  exact ⟨v, B.calm hc (hO p (by simp)), ho.calm hc (fun k hk => hO k (by simp [hk])), hb, rfl, hne, hk⟩
theorem Rdr.ext {w w' : World} {base p : Nat} {l : List Int} {k : Nat} {err : Int} {F : List Nat} (h : Rdr w base p l k err F) (hx : Ext w w') : Rdr w' base p l k err F := by
  obtain ⟨v, B, ho, hb, rfl, hne, hk⟩ := h
  exact ⟨v, B.ext hx, ho.ext hx, hb, rfl, hne, hk⟩
theorem Rdr.lt {w : World} {base p : Nat} {l : List Int} {k : Nat} {err : Int} {F : List Nat} (h : Rdr w base p l k err F) : ∀ b ∈ F, base ≤ b ∧ b < w.heap.size := by
  obtain ⟨v, B, ho, hb, rfl, hne, hk⟩ := h
  intro b hm
  rcases List.mem_cons.1 hm with rfl | hm
  · exact ⟨hb, B.lt⟩
  · exact ho.lt b (Option.mem_toList.1 hm)
theorem Rdr.mono {w : World} {base base' p : Nat} {l : List Int} {k : Nat} {err : Int} {F : List Nat} (h : Rdr w base p l k err F) (hb' : base' ≤ base) : Rdr w base' p l k err F := by
  obtain ⟨v, B, ho, hb, rfl, hne, hk⟩ := h
  exact ⟨v, B, ho.mono hb', Nat.le_trans hb' hb, rfl, hne, hk⟩
theorem Rdr.most {w : World} {base p : Nat} {l : List Int} {k : Nat} {err : Int} {F : List Nat} (h : Rdr w base p l k err F) : k ≤ l.length ∧ l.length < 1000000 := by
  obtain ⟨v, B, ho, hb, rfl, hne, hk⟩ := h
  exact ⟨hk.1, hk.2.2⟩
theorem Rdr.bytes {w : World} {base p : Nat} {l : List Int} {k : Nat} {err : Int} {F : List Nat} (h : Rdr w base p l k err F) : ∀ y ∈ l, 0 ≤ y ∧ y ≤ 255 := by
  obtain ⟨v, B, ho, hb, rfl, hne, hk⟩ := h
  exact hk.2.1
theorem Rdr.mem {w : World} {base p : Nat} {l : List Int} {k : Nat} {err : Int} {F : List Nat} (h : Rdr w base p l k err F) : p ∈ F := by
  obtain ⟨v, B, ho, hb, rfl, hne, hk⟩ := h
  simp
/-- a store into the reader's own block -/
theorem Rdr.set {w : World} {base p : Nat} {l : List Int} {k : Nat} {err : Int} {F : List Nat} (h : Rdr w base p l k err F) (i : Nat) (u : Value) (k' : Nat) (err' : Int) (hk' : k' ≤ l.length)
    (hz : ∀ v, (#[v, Value.int .i64 k, .int .i64 err].setIfInBounds i u) = #[v, .int .i64 k', .int .i64 err'] ) : Rdr (w.setCell ⟨p, i, none⟩ u) base p l k' err' F ∧ Step F F w (w.setCell ⟨p, i, none⟩ u) := by
  obtain ⟨v, B, ho, hb, rfl, hne, hk⟩ := h
  refine ⟨⟨v, ?_, ho.kept (fun x hx => Below.heap_setCell _ _ _ _ (hne x hx)), hb, rfl, hne, hk', hk.2⟩, ⟨⟨rfl, rfl, rfl, by simp, fun x hx hO => ?_⟩, fun b hm => .inl hm⟩⟩
  · have := B.set i u
    rw [hz v] at this
    exact this
  · simp only [List.mem_cons, not_or] at hO
    exact Below.heap_setCell _ _ _ _ hO.1

set_option maxRecDepth 100000 in
theorem rd_read (w : World) (v : Value) (l : List Int) (h : Arr w .u8 v l) (hlen : l.length < 1000000) :
    Calls Try.prog 10 #[v] w fun e w' => ∃ p F, e = .returned (.pointer (some ⟨p, 0, none⟩)) ∧ Rdr w' w.heap.size p l 0 0 F ∧ Ext w w' := by
  go_enter Try.func10, Try.ntmps10
  go_wp2_with fail
  refine (clone_any _ _ _ h (by omega)).mono ?_
  rintro e w1 ⟨v', rfl, o1, x1⟩
  obtain ⟨ao, c', rfl, -, -⟩ := o1.slice
  have hz := x1.size
  go_wp2
  go_ret
  refine ⟨_, _, rfl, ⟨_, Blk.new _ _ _, o1.alloc _, hz, rfl, fun x hx => ?_, Nat.zero_le _, h.bd, hlen⟩, x1.alloc _ _⟩
  have := o1.lt x hx
  omega
/-- the error behind Fail(n) -/
def errOr (err n : Int) : Int := if err = 0 then n else err
theorem errOr_zero (n : Int) : errOr 0 n = n := rfl
theorem errOr_ne {err n : Int} (h : err ≠ 0) : errOr err n = err := if_neg h
/-- how many bytes are left -/
def leftOf (err : Int) (n k : Nat) : Int := if err = 0 then (n : Int) - k else 0
theorem leftOf_zero (n k : Nat) : leftOf 0 n k = (n : Int) - k := rfl
theorem leftOf_ne {err : Int} {n k : Nat} (h : err ≠ 0) : leftOf err n k = 0 := if_neg h
theorem rd_err (w : World) (base p : Nat) (l : List Int) (k : Nat) (err : Int) (F : List Nat) (h : Rdr w base p l k err F) :
    Calls Try.prog 17 #[.pointer (some ⟨p, 0, none⟩)] w fun e w' => e = .returned (.int .i64 err) ∧ w = w' := by
  obtain ⟨v, B, ho, hb, rfl, hne, hk⟩ := h
  have cB := B.cell
  go_enter Try.func17, Try.ntmps17
  go_wp2
  go_ret
  exact ⟨rfl, rfl⟩
theorem rd_at (w : World) (base p : Nat) (l : List Int) (k : Nat) (err : Int) (F : List Nat) (h : Rdr w base p l k err F) :
    Calls Try.prog 19 #[.pointer (some ⟨p, 0, none⟩)] w fun e w' => e = .returned (.int .i64 k) ∧ w = w' := by
  obtain ⟨v, B, ho, hb, rfl, hne, hk⟩ := h
  have cB := B.cell
  go_enter Try.func19, Try.ntmps19
  go_wp2
  go_ret
  exact ⟨rfl, rfl⟩
set_option maxRecDepth 100000 in
theorem rd_left (w : World) (base p : Nat) (l : List Int) (k : Nat) (err : Int) (F : List Nat) (h : Rdr w base p l k err F) :
    Calls Try.prog 28 #[.pointer (some ⟨p, 0, none⟩)] w fun e w' => e = .returned (.int .i64 (leftOf err l.length k)) ∧ Qt w w' := by
  have h' := h
  obtain ⟨v, B, ho, hb, rfl, hne, hk⟩ := h
  obtain ⟨ao, c', rfl, -, -⟩ := ho.slice
  have cB := B.cell
  by_cases he : err = 0
  · subst he
    rw [leftOf_zero]
    go_enter Try.func28, Try.ntmps28
    go_wp2_with fail
    refine (rd_err _ _ _ _ _ _ _ h').mono ?_
    rintro e w1 ⟨rfl, rfl⟩
    go_wp2
    go_quiet (fail)
    go_wp2
    go_ret
    exact ⟨rfl, _, rfl⟩
  · rw [leftOf_ne he]
    go_enter Try.func28, Try.ntmps28
    go_wp2_with fail
    refine (rd_err _ _ _ _ _ _ _ h').mono ?_
    rintro e w1 ⟨rfl, rfl⟩
    go_wp2
    go_ret
    exact ⟨rfl, Qt.refl _⟩
set_option maxRecDepth 100000 in
theorem rd_fail (w : World) (base p : Nat) (l : List Int) (k : Nat) (err n : Int) (F : List Nat) (h : Rdr w base p l k err F) :
    Calls Try.prog 27 #[.pointer (some ⟨p, 0, none⟩), .int .i64 n] w fun e w' => e = .returned (.tuple #[]) ∧ Rdr w' base p l k (errOr err n) F ∧ Step F F w w' := by
  have h' := h
  obtain ⟨v, B, ho, hb, rfl, hne, hk⟩ := h
  have cB := B.cell
  have fB := B.frozen
  by_cases he : err = 0
  · subst he
    rw [errOr_zero]
    go_enter Try.func27, Try.ntmps27
    go_wp2
    refine bodyPost_end (v := .tuple #[]) (by simp [results, Try.results27]) rfl ⟨rfl, ?_⟩
    exact h'.set 2 (.int .i64 n) k n hk.1 (fun v => rfl)
  · rw [errOr_ne he]
    go_enter Try.func27, Try.ntmps27
    go_wp2
    exact bodyPost_ret (v := .tuple #[]) (by simp [results, Try.results27]) rfl ⟨rfl, h', Step.refl _ _⟩
/-- Byte, while there is no error and a byte is left -/
theorem Rdr.qt {w w' : World} {base p : Nat} {l : List Int} {k : Nat} {err : Int} {F : List Nat} (h : Rdr w base p l k err F) (hx : Qt w w') : Rdr w' base p l k err F := h.ext ((Ext.refl w).qt hx)
theorem Step.qt {F : List Nat} {w w' : World} (hx : Qt w w') : Step F F w w' := by
  obtain ⟨n, rfl⟩ := hx
  exact ⟨⟨rfl, rfl, rfl, Nat.le_refl _, fun x hx hO => rfl⟩, fun b hm => .inl hm⟩
set_option maxRecDepth 100000 in
theorem rd_byte (w : World) (base p : Nat) (l : List Int) (k : Nat) (F : List Nat) (h : Rdr w base p l k 0 F) (y : Int) (hy : l[k]? = some y) :
    Calls Try.prog 34 #[.pointer (some ⟨p, 0, none⟩)] w fun e w' => e = .returned (.int .u8 y) ∧ Rdr w' base p l (k + 1) 0 F ∧ Step F F w w' := by
  have hkl : k < l.length := (List.getElem?_eq_some_iff.1 hy).1
  have hmost := h.most
  go_enter Try.func34, Try.ntmps34
  go_wp2_with fail
  refine (rd_left _ _ _ _ _ _ _ h).mono ?_
  rintro e w1 ⟨rfl, q1⟩
  rw [leftOf_zero]
  have h1 := h.qt q1
  have s1 : Step F F w w1 := Step.qt q1
  clear h
  have h1' := h1
  obtain ⟨v, B, ho, hb, rfl, hne, hk⟩ := h1
  obtain ⟨ao, c', rfl, hnone, hadr⟩ := ho.slice
  obtain ⟨g, rfl⟩ : ∃ g, ao = some ⟨g, 0, none⟩ := by
    cases ao with
    | none => have := (hnone rfl).1; subst this; simp at hkl
    | some a => exact ⟨a.block, by rw [← hadr a rfl]⟩
  have hcell := ho.cell k y hy
  have hgp := hne g rfl
  clear hadr hnone
  have cB := B.cell
  have fB := B.frozen
  go_wp2
  obtain ⟨h2, s2⟩ := h1'.set 1 (.int .i64 ((k : Int) + 1)) (k + 1) 0 (by omega) (fun v => by simp)
  have hcell2 : (w1.setCell ⟨p, 1, none⟩ (.int .i64 ((k : Int) + 1))).cell? ⟨g, k, none⟩ = some (.int .u8 y) := by
    rw [World.cell?_of_block (Below.heap_setCell _ _ _ _ hgp)]
    exact hcell
  have cB2 := (B.set 1 (.int .i64 ((k : Int) + 1))).cell
  have hi1 : IntKind.i64.wrap ((k : Int) + 1 - 1) = k := by rw [IntWalk.i64_in _ (by omega)]; omega
  generalize w1.setCell ⟨p, 1, none⟩ (.int .i64 ((k : Int) + 1)) = w2 at *
  go_quiet (fail)
  go_wp2
  go_ret
  exact ⟨rfl, h2.qt ⟨_, rfl⟩, (s1.trans s2).trans (Step.qt ⟨_, rfl⟩)⟩
end Go.Proofs.Ytkdonkebnnjkkaa
