/-
  DERIVED. The walk of the law WireGrows: it returns true, whatever the numbers.
-/
import Derived.Test.YtgmjfmmandbekaaWireAwake
import Derived.Laws.BitsAllLaws
namespace Go.Proofs.Ytgmjfmmandbekaa
open Go.RowKit
set_option linter.unusedVariables false

theorem not64 (n : Int) (h : -9223372036854775808 ≤ n ∧ n ≤ 9223372036854775807) : bits .xor .i64 (-1) n = -n - 1 := by
  show IntKind.i64.wrap ((BitVec.ofInt 64 (-1) ^^^ BitVec.ofInt 64 n).toNat : Int) = _
  have h1 : BitVec.ofInt 64 (-1) = BitVec.allOnes 64 := by decide
  rw [h1, BitVec.allOnes_xor, BitVec.toNat_not, BitVec.toNat_ofInt]
  have h2 : ((2 ^ 64 : Nat) : Int) = 18446744073709551616 := by decide
  rw [h2]
  simp [IntKind.wrap, IntKind.bits, IntKind.signed]
  omega
set_option maxRecDepth 100000 in
theorem put2_any (a b : Int) (ha : 0 ≤ a ∧ a ≤ 4294967295) (hb : 0 ≤ b ∧ b ≤ 4294967295) (x y p : Nat) (w : World) (X : Blk w x #[.int .u32 a] 31) (Y : Blk w y #[.int .u32 b] 31) (base : Nat) (l : List Int) (F : List Nat) (hP : Pen w base p l F) (hlen : l.length < 1000) (hbase : base ≤ w.heap.size) :
    Calls Try.prog 28 #[.pointer (some ⟨p, 0, none⟩), .pointer (some ⟨x, 0, none⟩), .pointer (some ⟨y, 0, none⟩)] w fun e w' => e = .returned (.tuple #[]) ∧ ∃ F', Pen w' base p (l ++ leb (min a b).toNat) F' ∧ Step F F' w w' := by
  have cX := X.cell
  have cY := Y.cell
  have hf : ∀ x y : Int, (if y < x then y else x) = min x y := fun x y => by omega
  go_enter Try.func28, Try.ntmps28
  go_wp2_with fail
  refine (pen_count _ (by omega) _ _ _ _ _ hP (by omega) (by omega)).mono ?_
  rintro e w1 ⟨rfl, F1, P1, s1⟩
  go_wp2
  exact bodyPost_end (v := .tuple #[]) (by simp [results, Try.results28]) rfl ⟨rfl, F1, P1, s1⟩
set_option maxRecDepth 100000 in
theorem size2_any (a b : Int) (ha : 0 ≤ a ∧ a ≤ 4294967295) (hb : 0 ≤ b ∧ b ≤ 4294967295) (x y : Nat) (w : World) (X : Blk w x #[.int .u32 a] 31) (Y : Blk w y #[.int .u32 b] 31) :
    Calls Try.prog 27 #[Value.func (Fn.func 28) #[] #[.pointer (some ⟨x, 0, none⟩), .pointer (some ⟨y, 0, none⟩)]] w fun e w' => e = .returned (.int .i64 (leb (min a b).toNat).length) ∧ Ext w w' := by
  have h10 := leb_len10 (n := (min a b).toNat) (by omega)
  go_enter Try.func27, Try.ntmps27
  go_wp2_with fail
  refine (put2_any a b ha hb x y _ _ (X.alloc _) (Y.alloc _) w.heap.size [] _ (Pen.new (Nat.le_refl _)) (by simp) (by simp)).mono ?_
  rintro e w1 ⟨rfl, F1, P1, s1⟩
  have e1 : Ext w w1 := Step.ext ((Ext.refl w).alloc _ _) s1 (by simp)
  rw [List.nil_append] at P1
  go_wp2_with fail
  refine (pen_len _ _ _ _ _ P1 (by omega)).mono ?_
  rintro e w2 ⟨rfl, rfl⟩
  go_wp2
  go_ret
  exact ⟨rfl, e1⟩
set_option maxRecDepth 100000 in
theorem put3_any (a b : Int) (ha : 0 ≤ a ∧ a ≤ 4294967295) (hb : 0 ≤ b ∧ b ≤ 4294967295) (x y p : Nat) (w : World) (X : Blk w x #[.int .u32 a] 31) (Y : Blk w y #[.int .u32 b] 31) (base : Nat) (l : List Int) (F : List Nat) (hP : Pen w base p l F) (hlen : l.length < 1000) (hbase : base ≤ w.heap.size) :
    Calls Try.prog 29 #[.pointer (some ⟨p, 0, none⟩), .pointer (some ⟨x, 0, none⟩), .pointer (some ⟨y, 0, none⟩)] w fun e w' => e = .returned (.tuple #[]) ∧ ∃ F', Pen w' base p (l ++ leb (max a b).toNat) F' ∧ Step F F' w w' := by
  have cX := X.cell
  have cY := Y.cell
  have hf : ∀ x y : Int, (if x < y then y else x) = max x y := fun x y => by omega
  go_enter Try.func29, Try.ntmps29
  go_wp2_with fail
  refine (pen_count _ (by omega) _ _ _ _ _ hP (by omega) (by omega)).mono ?_
  rintro e w1 ⟨rfl, F1, P1, s1⟩
  go_wp2
  exact bodyPost_end (v := .tuple #[]) (by simp [results, Try.results29]) rfl ⟨rfl, F1, P1, s1⟩
set_option maxRecDepth 100000 in
theorem size3_any (a b : Int) (ha : 0 ≤ a ∧ a ≤ 4294967295) (hb : 0 ≤ b ∧ b ≤ 4294967295) (x y : Nat) (w : World) (X : Blk w x #[.int .u32 a] 31) (Y : Blk w y #[.int .u32 b] 31) :
    Calls Try.prog 27 #[Value.func (Fn.func 29) #[] #[.pointer (some ⟨x, 0, none⟩), .pointer (some ⟨y, 0, none⟩)]] w fun e w' => e = .returned (.int .i64 (leb (max a b).toNat).length) ∧ Ext w w' := by
  have h10 := leb_len10 (n := (max a b).toNat) (by omega)
  go_enter Try.func27, Try.ntmps27
  go_wp2_with fail
  refine (put3_any a b ha hb x y _ _ (X.alloc _) (Y.alloc _) w.heap.size [] _ (Pen.new (Nat.le_refl _)) (by simp) (by simp)).mono ?_
  rintro e w1 ⟨rfl, F1, P1, s1⟩
  have e1 : Ext w w1 := Step.ext ((Ext.refl w).alloc _ _) s1 (by simp)
  rw [List.nil_append] at P1
  go_wp2_with fail
  refine (pen_len _ _ _ _ _ P1 (by omega)).mono ?_
  rintro e w2 ⟨rfl, rfl⟩
  go_wp2
  go_ret
  exact ⟨rfl, e1⟩
set_option maxRecDepth 100000 in
theorem put4_any (n : Int) (hn : -9223372036854775808 ≤ n ∧ n ≤ 9223372036854775807) (x p : Nat) (w : World) (X : Blk w x #[.int .i64 n] 3) (base : Nat) (l : List Int) (F : List Nat) (hP : Pen w base p l F) (hlen : l.length < 1000) (hbase : base ≤ w.heap.size) :
    Calls Try.prog 30 #[.pointer (some ⟨p, 0, none⟩), .pointer (some ⟨x, 0, none⟩)] w fun e w' => e = .returned (.tuple #[]) ∧ ∃ F', Pen w' base p (l ++ leb (zig n)) F' ∧ Step F F' w w' := by
  have cX := X.cell
  have h64 := not64 n hn
  go_enter Try.func30, Try.ntmps30
  go_wp2_with fail
  refine (pen_int n (by omega) _ _ _ _ _ hP (by omega) (by omega)).mono ?_
  rintro e w1 ⟨rfl, F1, P1, s1⟩
  go_wp2
  exact bodyPost_end (v := .tuple #[]) (by simp [results, Try.results30]) rfl ⟨rfl, F1, P1, s1⟩
set_option maxRecDepth 100000 in
theorem size4_any (n : Int) (hn : -9223372036854775808 ≤ n ∧ n ≤ 9223372036854775807) (x : Nat) (w : World) (X : Blk w x #[.int .i64 n] 3) :
    Calls Try.prog 27 #[Value.func (Fn.func 30) #[] #[.pointer (some ⟨x, 0, none⟩)]] w fun e w' => e = .returned (.int .i64 (leb (zig n)).length) ∧ Ext w w' := by
  have h10 := leb_len10 (zig_lt (n := n) (by omega))
  go_enter Try.func27, Try.ntmps27
  go_wp2_with fail
  refine (put4_any n hn x _ _ (X.alloc _) w.heap.size [] _ (Pen.new (Nat.le_refl _)) (by simp) (by simp)).mono ?_
  rintro e w1 ⟨rfl, F1, P1, s1⟩
  have e1 : Ext w w1 := Step.ext ((Ext.refl w).alloc _ _) s1 (by simp)
  rw [List.nil_append] at P1
  go_wp2_with fail
  refine (pen_len _ _ _ _ _ P1 (by omega)).mono ?_
  rintro e w2 ⟨rfl, rfl⟩
  go_wp2
  go_ret
  exact ⟨rfl, e1⟩
set_option maxRecDepth 100000 in
theorem put5_any (n : Int) (hn : -9223372036854775808 ≤ n ∧ n ≤ 9223372036854775807) (x p : Nat) (w : World) (X : Blk w x #[.int .i64 n] 3) (base : Nat) (l : List Int) (F : List Nat) (hP : Pen w base p l F) (hlen : l.length < 1000) (hbase : base ≤ w.heap.size) :
    Calls Try.prog 31 #[.pointer (some ⟨p, 0, none⟩), .pointer (some ⟨x, 0, none⟩)] w fun e w' => e = .returned (.tuple #[]) ∧ ∃ F', Pen w' base p (l ++ leb (zig (-n - 1))) F' ∧ Step F F' w w' := by
  have cX := X.cell
  have h64 := not64 n hn
  go_enter Try.func31, Try.ntmps31
  go_wp2_with fail
  refine (pen_int (-n - 1) (by omega) _ _ _ _ _ hP (by omega) (by omega)).mono ?_
  rintro e w1 ⟨rfl, F1, P1, s1⟩
  go_wp2
  exact bodyPost_end (v := .tuple #[]) (by simp [results, Try.results31]) rfl ⟨rfl, F1, P1, s1⟩
set_option maxRecDepth 100000 in
theorem size5_any (n : Int) (hn : -9223372036854775808 ≤ n ∧ n ≤ 9223372036854775807) (x : Nat) (w : World) (X : Blk w x #[.int .i64 n] 3) :
    Calls Try.prog 27 #[Value.func (Fn.func 31) #[] #[.pointer (some ⟨x, 0, none⟩)]] w fun e w' => e = .returned (.int .i64 (leb (zig (-n - 1))).length) ∧ Ext w w' := by
  have h10 := leb_len10 (zig_lt (n := (-n - 1)) (by omega))
  go_enter Try.func27, Try.ntmps27
  go_wp2_with fail
  refine (put5_any n hn x _ _ (X.alloc _) w.heap.size [] _ (Pen.new (Nat.le_refl _)) (by simp) (by simp)).mono ?_
  rintro e w1 ⟨rfl, F1, P1, s1⟩
  have e1 : Ext w w1 := Step.ext ((Ext.refl w).alloc _ _) s1 (by simp)
  rw [List.nil_append] at P1
  go_wp2_with fail
  refine (pen_len _ _ _ _ _ P1 (by omega)).mono ?_
  rintro e w2 ⟨rfl, rfl⟩
  go_wp2
  go_ret
  exact ⟨rfl, e1⟩
set_option maxRecDepth 100000 in
theorem wireGrows_row (a b n : Int) (ha : 0 ≤ a ∧ a ≤ 4294967295) (hb : 0 ≤ b ∧ b ≤ 4294967295) (hn : -9223372036854775808 ≤ n ∧ n ≤ 9223372036854775807) (w : World) :
    Calls Try.prog 6 #[.int .u32 a, .int .u32 b, .int .i64 n] w fun e w' => e = .returned (.bool true) ∧ Ext w w' := by
  have l1 := leb_mono (min a b).toNat (max a b).toNat (by omega)
  have l2 := leb_pos (min a b).toNat
  have l3 := leb_len5 (n := (max a b).toNat) (by omega)
  have l4 := zig_not n
  have l5 := leb_len10 (zig_lt hn)
  go_enter Try.func6, Try.ntmps6
  go_wp2_with fail
  with_reducible refine (awake4_any _).mono ?_
  rintro e w1 ⟨rfl, hx1⟩
  have A1 : Blk w1 w.heap.size #[.int .u32 a] 31 := (((Blk.new w _ _).alloc _).alloc _).ext hx1
  have B1 : Blk w1 (w.heap.size + 1) #[.int .u32 b] 31 := ((Blk.new' (by simp) _ _).alloc _).ext hx1
  have N1 : Blk w1 (w.heap.size + 1 + 1) #[.int .i64 n] 3 := (Blk.new' (by simp) _ _).ext hx1
  have e1 : Ext w w1 := ((((Ext.refl w).alloc _ _).alloc _ _).alloc _ _).trans hx1
  clear hx1
  go_wp2_with fail
  refine (size2_any a b ha hb _ _ _ A1 B1).mono ?_
  rintro e w2 ⟨rfl, hx2⟩
  have e2 := e1.trans hx2
  go_wp2_with fail
  refine (size3_any a b ha hb _ _ _ (A1.ext hx2) (B1.ext hx2)).mono ?_
  rintro e w3 ⟨rfl, hx3⟩
  have e3 := e2.trans hx3
  go_wp2_with fail
  refine (size4_any n hn _ _ ((N1.ext hx2).ext hx3)).mono ?_
  rintro e w4 ⟨rfl, hx4⟩
  have e4 := e3.trans hx4
  go_wp2_with fail
  refine (size5_any n hn _ _ (((N1.ext hx2).ext hx3).ext hx4)).mono ?_
  rintro e w5 ⟨rfl, hx5⟩
  have e5 := e4.trans hx5
  rw [l4]
  generalize (leb (min a b).toNat).length = x at *
  generalize (leb (max a b).toNat).length = y at *
  generalize (leb (zig n)).length = z at *
  go_wp2
  all_goals (go_ret; exact ⟨by simp <;> omega, e5⟩)
end Go.Proofs.Ytgmjfmmandbekaa
