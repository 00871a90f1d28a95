/-
  DERIVED. THE WALKS of layer 7 (isa): checkAt, Check (made by mkcheckat.py).
-/
import Derived.Test.YtbbfmlehddfneaaPkIsa
namespace Go.Proofs.Ytbbfmlehddfneaa
open Go.RowKit
set_option linter.unusedVariables false
set_option maxRecDepth 100000 in
theorem checkAt_op (d : Bool) (w : World) (v : Value) (xs : List In) (h : PArr w v xs) (hok : ∀ x ∈ xs, x.ok) (hl : xs.length ≤ 1000000) (k : Nat) (x : In) (hx : xs[k]? = some x) (ho : 15 ≤ x.op) : Calls Try.prog 61 #[v, .int .i64 k, .bool d] w fun e w' => e = .returned (.int .i64 5) ∧ Ext w w' := by
  have hlI : (xs.length : Int) ≤ 1000000 := by omega
  have hk : k < xs.length := (List.getElem?_eq_some_iff.1 hx).1
  have hkI : (k : Int) < (xs.length : Int) := by omega
  have hxo := hok x (List.mem_of_getElem? hx)
  obtain ⟨ao, c, rfl, -, -⟩ := h.slice
  have h' := h
  obtain ⟨g, off, y, rfl, -, hy, c0, c1, c2, c3, c4⟩ := h.nth k hk
  rw [hx] at hy
  cases hy
  clear h
  obtain ⟨op, dst, a, b, imm⟩ := x
  dsimp only at ho c0 c1 c2 c3 c4
  have HX := Lib.hid hx
  clear hx
  have E1 := (Ext.refl w).alloc #[.int .u8 op, .int .u8 dst, .int .u8 a, .int .u8 b, .int .i16 imm] 72
  have B1 := Blk.new w #[.int .u8 op, .int .u8 dst, .int .u8 a, .int .u8 b, .int .i16 imm] 72
  have HO := h'.ext E1
  go_enter Try.func61, Try.ntmps61
  go_wp2
  go_ret
  exact ⟨rfl, E1⟩
set_option maxRecDepth 100000 in
theorem checkAt_dis (d : Bool) (w : World) (v : Value) (xs : List In) (h : PArr w v xs) (hok : ∀ x ∈ xs, x.ok) (hl : xs.length ≤ 1000000) (k : Nat) (x : In) (hx : xs[k]? = some x) (ho : x.op = 13) (hd : d = false) : Calls Try.prog 61 #[v, .int .i64 k, .bool d] w fun e w' => e = .returned (.int .i64 5) ∧ Ext w w' := by
  have hlI : (xs.length : Int) ≤ 1000000 := by omega
  have hk : k < xs.length := (List.getElem?_eq_some_iff.1 hx).1
  have hkI : (k : Int) < (xs.length : Int) := by omega
  have hxo := hok x (List.mem_of_getElem? hx)
  obtain ⟨ao, c, rfl, -, -⟩ := h.slice
  have h' := h
  obtain ⟨g, off, y, rfl, -, hy, c0, c1, c2, c3, c4⟩ := h.nth k hk
  rw [hx] at hy
  cases hy
  clear h
  obtain ⟨op, dst, a, b, imm⟩ := x
  dsimp only at ho c0 c1 c2 c3 c4
  subst ho
  subst hd
  have HX := Lib.hid hx
  clear hx
  have E1 := (Ext.refl w).alloc #[.int .u8 13, .int .u8 dst, .int .u8 a, .int .u8 b, .int .i16 imm] 72
  have B1 := Blk.new w #[.int .u8 13, .int .u8 dst, .int .u8 a, .int .u8 b, .int .i16 imm] 72
  have HO := h'.ext E1
  go_enter Try.func61, Try.ntmps61
  go_wp2
  go_ret
  exact ⟨rfl, E1⟩
set_option maxRecDepth 100000 in
theorem checkAt_noregs (d : Bool) (w : World) (v : Value) (xs : List In) (h : PArr w v xs) (hok : ∀ x ∈ xs, x.ok) (hl : xs.length ≤ 1000000) (k : Nat) (x : In) (hx : xs[k]? = some x) (ho : x.op < 15) (h11 : x.op ≠ 11) (h12 : x.op ≠ 12) (h13 : x.op ≠ 13) (hr : regs x = false) : Calls Try.prog 61 #[v, .int .i64 k, .bool d] w fun e w' => e = .returned (.int .i64 2) ∧ Ext w w' := by
  have hlI : (xs.length : Int) ≤ 1000000 := by omega
  have hk : k < xs.length := (List.getElem?_eq_some_iff.1 hx).1
  have hkI : (k : Int) < (xs.length : Int) := by omega
  have hxo := hok x (List.mem_of_getElem? hx)
  obtain ⟨ao, c, rfl, -, -⟩ := h.slice
  have h' := h
  obtain ⟨g, off, y, rfl, -, hy, c0, c1, c2, c3, c4⟩ := h.nth k hk
  rw [hx] at hy
  cases hy
  clear h
  obtain ⟨op, dst, a, b, imm⟩ := x
  dsimp only at ho h11 h12 h13 c0 c1 c2 c3 c4
  have h15 : ¬ 15 ≤ op := by omega
  have HX := Lib.hid hx
  clear hx
  have E1 := (Ext.refl w).alloc #[.int .u8 op, .int .u8 dst, .int .u8 a, .int .u8 b, .int .i16 imm] 72
  have B1 := Blk.new w #[.int .u8 op, .int .u8 dst, .int .u8 a, .int .u8 b, .int .i16 imm] 72
  have HO := h'.ext E1
  go_enter Try.func61, Try.ntmps61
  go_wp2_with fail
  refine (regs_any ⟨op, dst, a, b, imm⟩ hxo _).mono ?_
  rintro e w1 ⟨rfl, x1⟩
  have E2 := E1.trans x1
  have O2 := HO.ext x1
  have B2 := B1.ext x1
  have b2 := B2.cell
  clear x1 E1 HO B1
  rw [hr]
  go_wp2
  go_ret
  exact ⟨rfl, E2⟩
set_option maxRecDepth 100000 in
theorem checkAt_noregs11 (d : Bool) (w : World) (v : Value) (xs : List In) (h : PArr w v xs) (hok : ∀ x ∈ xs, x.ok) (hl : xs.length ≤ 1000000) (k : Nat) (x : In) (hx : xs[k]? = some x) (ho : x.op = 11) (hr : regs x = false) : Calls Try.prog 61 #[v, .int .i64 k, .bool d] w fun e w' => e = .returned (.int .i64 2) ∧ Ext w w' := by
  have hlI : (xs.length : Int) ≤ 1000000 := by omega
  have hk : k < xs.length := (List.getElem?_eq_some_iff.1 hx).1
  have hkI : (k : Int) < (xs.length : Int) := by omega
  have hxo := hok x (List.mem_of_getElem? hx)
  obtain ⟨ao, c, rfl, -, -⟩ := h.slice
  have h' := h
  obtain ⟨g, off, y, rfl, -, hy, c0, c1, c2, c3, c4⟩ := h.nth k hk
  rw [hx] at hy
  cases hy
  clear h
  obtain ⟨op, dst, a, b, imm⟩ := x
  dsimp only at ho c0 c1 c2 c3 c4
  subst ho
  have HX := Lib.hid hx
  clear hx
  have E1 := (Ext.refl w).alloc #[.int .u8 11, .int .u8 dst, .int .u8 a, .int .u8 b, .int .i16 imm] 72
  have B1 := Blk.new w #[.int .u8 11, .int .u8 dst, .int .u8 a, .int .u8 b, .int .i16 imm] 72
  have HO := h'.ext E1
  go_enter Try.func61, Try.ntmps61
  go_wp2_with fail
  refine (regs_any ⟨11, dst, a, b, imm⟩ hxo _).mono ?_
  rintro e w1 ⟨rfl, x1⟩
  have E2 := E1.trans x1
  have O2 := HO.ext x1
  have B2 := B1.ext x1
  have b2 := B2.cell
  clear x1 E1 HO B1
  rw [hr]
  go_wp2
  go_ret
  exact ⟨rfl, E2⟩
set_option maxRecDepth 100000 in
theorem checkAt_noregs12 (d : Bool) (w : World) (v : Value) (xs : List In) (h : PArr w v xs) (hok : ∀ x ∈ xs, x.ok) (hl : xs.length ≤ 1000000) (k : Nat) (x : In) (hx : xs[k]? = some x) (ho : x.op = 12) (hr : regs x = false) : Calls Try.prog 61 #[v, .int .i64 k, .bool d] w fun e w' => e = .returned (.int .i64 2) ∧ Ext w w' := by
  have hlI : (xs.length : Int) ≤ 1000000 := by omega
  have hk : k < xs.length := (List.getElem?_eq_some_iff.1 hx).1
  have hkI : (k : Int) < (xs.length : Int) := by omega
  have hxo := hok x (List.mem_of_getElem? hx)
  obtain ⟨ao, c, rfl, -, -⟩ := h.slice
  have h' := h
  obtain ⟨g, off, y, rfl, -, hy, c0, c1, c2, c3, c4⟩ := h.nth k hk
  rw [hx] at hy
  cases hy
  clear h
  obtain ⟨op, dst, a, b, imm⟩ := x
  dsimp only at ho c0 c1 c2 c3 c4
  subst ho
  have HX := Lib.hid hx
  clear hx
  have E1 := (Ext.refl w).alloc #[.int .u8 12, .int .u8 dst, .int .u8 a, .int .u8 b, .int .i16 imm] 72
  have B1 := Blk.new w #[.int .u8 12, .int .u8 dst, .int .u8 a, .int .u8 b, .int .i16 imm] 72
  have HO := h'.ext E1
  go_enter Try.func61, Try.ntmps61
  go_wp2_with fail
  refine (regs_any ⟨12, dst, a, b, imm⟩ hxo _).mono ?_
  rintro e w1 ⟨rfl, x1⟩
  have E2 := E1.trans x1
  have O2 := HO.ext x1
  have B2 := B1.ext x1
  have b2 := B2.cell
  clear x1 E1 HO B1
  rw [hr]
  go_wp2
  go_ret
  exact ⟨rfl, E2⟩
set_option maxRecDepth 100000 in
theorem checkAt_noregs13 (d : Bool) (w : World) (v : Value) (xs : List In) (h : PArr w v xs) (hok : ∀ x ∈ xs, x.ok) (hl : xs.length ≤ 1000000) (k : Nat) (x : In) (hx : xs[k]? = some x) (ho : x.op = 13) (hd : d = true) (hr : regs x = false) : Calls Try.prog 61 #[v, .int .i64 k, .bool d] w fun e w' => e = .returned (.int .i64 2) ∧ Ext w w' := by
  have hlI : (xs.length : Int) ≤ 1000000 := by omega
  have hk : k < xs.length := (List.getElem?_eq_some_iff.1 hx).1
  have hkI : (k : Int) < (xs.length : Int) := by omega
  have hxo := hok x (List.mem_of_getElem? hx)
  obtain ⟨ao, c, rfl, -, -⟩ := h.slice
  have h' := h
  obtain ⟨g, off, y, rfl, -, hy, c0, c1, c2, c3, c4⟩ := h.nth k hk
  rw [hx] at hy
  cases hy
  clear h
  obtain ⟨op, dst, a, b, imm⟩ := x
  dsimp only at ho c0 c1 c2 c3 c4
  subst ho
  subst hd
  have HX := Lib.hid hx
  clear hx
  have E1 := (Ext.refl w).alloc #[.int .u8 13, .int .u8 dst, .int .u8 a, .int .u8 b, .int .i16 imm] 72
  have B1 := Blk.new w #[.int .u8 13, .int .u8 dst, .int .u8 a, .int .u8 b, .int .i16 imm] 72
  have HO := h'.ext E1
  go_enter Try.func61, Try.ntmps61
  go_wp2_with fail
  refine (regs_any ⟨13, dst, a, b, imm⟩ hxo _).mono ?_
  rintro e w1 ⟨rfl, x1⟩
  have E2 := E1.trans x1
  have O2 := HO.ext x1
  have B2 := B1.ext x1
  have b2 := B2.cell
  clear x1 E1 HO B1
  rw [hr]
  go_wp2
  go_ret
  exact ⟨rfl, E2⟩
set_option maxRecDepth 100000 in
theorem checkAt_plain (d : Bool) (w : World) (v : Value) (xs : List In) (h : PArr w v xs) (hok : ∀ x ∈ xs, x.ok) (hl : xs.length ≤ 1000000) (k : Nat) (x : In) (hx : xs[k]? = some x) (ho : x.op < 15) (h11 : x.op ≠ 11) (h12 : x.op ≠ 12) (h13 : x.op ≠ 13) (hr : regs x = true) : Calls Try.prog 61 #[v, .int .i64 k, .bool d] w fun e w' => e = .returned (.int .i64 0) ∧ Ext w w' := by
  have hlI : (xs.length : Int) ≤ 1000000 := by omega
  have hk : k < xs.length := (List.getElem?_eq_some_iff.1 hx).1
  have hkI : (k : Int) < (xs.length : Int) := by omega
  have hxo := hok x (List.mem_of_getElem? hx)
  obtain ⟨ao, c, rfl, -, -⟩ := h.slice
  have h' := h
  obtain ⟨g, off, y, rfl, -, hy, c0, c1, c2, c3, c4⟩ := h.nth k hk
  rw [hx] at hy
  cases hy
  clear h
  obtain ⟨op, dst, a, b, imm⟩ := x
  dsimp only at ho h11 h12 h13 c0 c1 c2 c3 c4
  have h15 : ¬ 15 ≤ op := by omega
  have HX := Lib.hid hx
  clear hx
  have E1 := (Ext.refl w).alloc #[.int .u8 op, .int .u8 dst, .int .u8 a, .int .u8 b, .int .i16 imm] 72
  have B1 := Blk.new w #[.int .u8 op, .int .u8 dst, .int .u8 a, .int .u8 b, .int .i16 imm] 72
  have HO := h'.ext E1
  go_enter Try.func61, Try.ntmps61
  go_wp2_with fail
  refine (regs_any ⟨op, dst, a, b, imm⟩ hxo _).mono ?_
  rintro e w1 ⟨rfl, x1⟩
  have E2 := E1.trans x1
  have O2 := HO.ext x1
  have B2 := B1.ext x1
  have b2 := B2.cell
  clear x1 E1 HO B1
  rw [hr]
  go_wp2
  go_ret
  exact ⟨rfl, E2⟩
set_option maxRecDepth 100000 in
theorem checkAt_plain13 (d : Bool) (w : World) (v : Value) (xs : List In) (h : PArr w v xs) (hok : ∀ x ∈ xs, x.ok) (hl : xs.length ≤ 1000000) (k : Nat) (x : In) (hx : xs[k]? = some x) (ho : x.op = 13) (hd : d = true) (hr : regs x = true) : Calls Try.prog 61 #[v, .int .i64 k, .bool d] w fun e w' => e = .returned (.int .i64 0) ∧ Ext w w' := by
  have hlI : (xs.length : Int) ≤ 1000000 := by omega
  have hk : k < xs.length := (List.getElem?_eq_some_iff.1 hx).1
  have hkI : (k : Int) < (xs.length : Int) := by omega
  have hxo := hok x (List.mem_of_getElem? hx)
  obtain ⟨ao, c, rfl, -, -⟩ := h.slice
  have h' := h
  obtain ⟨g, off, y, rfl, -, hy, c0, c1, c2, c3, c4⟩ := h.nth k hk
  rw [hx] at hy
  cases hy
  clear h
  obtain ⟨op, dst, a, b, imm⟩ := x
  dsimp only at ho c0 c1 c2 c3 c4
  subst ho
  subst hd
  have HX := Lib.hid hx
  clear hx
  have E1 := (Ext.refl w).alloc #[.int .u8 13, .int .u8 dst, .int .u8 a, .int .u8 b, .int .i16 imm] 72
  have B1 := Blk.new w #[.int .u8 13, .int .u8 dst, .int .u8 a, .int .u8 b, .int .i16 imm] 72
  have HO := h'.ext E1
  go_enter Try.func61, Try.ntmps61
  go_wp2_with fail
  refine (regs_any ⟨13, dst, a, b, imm⟩ hxo _).mono ?_
  rintro e w1 ⟨rfl, x1⟩
  have E2 := E1.trans x1
  have O2 := HO.ext x1
  have B2 := B1.ext x1
  have b2 := B2.cell
  clear x1 E1 HO B1
  rw [hr]
  go_wp2
  go_ret
  exact ⟨rfl, E2⟩
set_option maxRecDepth 100000 in
theorem checkAt_at12_false (d : Bool) (w : World) (v : Value) (xs : List In) (h : PArr w v xs) (hok : ∀ x ∈ xs, x.ok) (hl : xs.length ≤ 1000000) (k : Nat) (x : In) (hx : xs[k]? = some x) (ho : x.op = 12) (hr : regs x = true) (hh : loopH xs k x = false) : Calls Try.prog 61 #[v, .int .i64 k, .bool d] w fun e w' => e = .returned (.int .i64 12) ∧ Ext w w' := by
  have hlI : (xs.length : Int) ≤ 1000000 := by omega
  have hk : k < xs.length := (List.getElem?_eq_some_iff.1 hx).1
  have hkI : (k : Int) < (xs.length : Int) := by omega
  have hxo := hok x (List.mem_of_getElem? hx)
  obtain ⟨ao, c, rfl, -, -⟩ := h.slice
  have h' := h
  obtain ⟨g, off, y, rfl, -, hy, c0, c1, c2, c3, c4⟩ := h.nth k hk
  rw [hx] at hy
  cases hy
  clear h
  obtain ⟨op, dst, a, b, imm⟩ := x
  dsimp only at ho c0 c1 c2 c3 c4
  subst ho
  have HX := Lib.hid hx
  clear hx
  have E1 := (Ext.refl w).alloc #[.int .u8 12, .int .u8 dst, .int .u8 a, .int .u8 b, .int .i16 imm] 72
  have B1 := Blk.new w #[.int .u8 12, .int .u8 dst, .int .u8 a, .int .u8 b, .int .i16 imm] 72
  have HO := h'.ext E1
  go_enter Try.func61, Try.ntmps61
  go_wp2_with fail
  refine (regs_any ⟨12, dst, a, b, imm⟩ hxo _).mono ?_
  rintro e w1 ⟨rfl, x1⟩
  have E2 := E1.trans x1
  have O2 := HO.ext x1
  have B2 := B1.ext x1
  have b2 := B2.cell
  clear x1 E1 HO B1
  rw [hr]
  go_wp2_with fail
  refine (loopHolds_any _ _ xs O2 hok hl k ⟨12, dst, a, b, imm⟩ HX.out rfl).mono ?_
  rintro e w2 ⟨rfl, q2⟩
  have E3 := E2.qt q2
  have B3 := B2.ext ((Ext.refl _).qt q2)
  have b3 := B3.cell
  clear q2 E2 B2 O2 b2
  rw [hh]
  go_wp2
  go_ret
  exact ⟨rfl, E3⟩
set_option maxRecDepth 100000 in
theorem checkAt_at12_true (d : Bool) (w : World) (v : Value) (xs : List In) (h : PArr w v xs) (hok : ∀ x ∈ xs, x.ok) (hl : xs.length ≤ 1000000) (k : Nat) (x : In) (hx : xs[k]? = some x) (ho : x.op = 12) (hr : regs x = true) (hh : loopH xs k x = true) : Calls Try.prog 61 #[v, .int .i64 k, .bool d] w fun e w' => e = .returned (.int .i64 0) ∧ Ext w w' := by
  have hlI : (xs.length : Int) ≤ 1000000 := by omega
  have hk : k < xs.length := (List.getElem?_eq_some_iff.1 hx).1
  have hkI : (k : Int) < (xs.length : Int) := by omega
  have hxo := hok x (List.mem_of_getElem? hx)
  obtain ⟨ao, c, rfl, -, -⟩ := h.slice
  have h' := h
  obtain ⟨g, off, y, rfl, -, hy, c0, c1, c2, c3, c4⟩ := h.nth k hk
  rw [hx] at hy
  cases hy
  clear h
  obtain ⟨op, dst, a, b, imm⟩ := x
  dsimp only at ho c0 c1 c2 c3 c4
  subst ho
  have HX := Lib.hid hx
  clear hx
  have E1 := (Ext.refl w).alloc #[.int .u8 12, .int .u8 dst, .int .u8 a, .int .u8 b, .int .i16 imm] 72
  have B1 := Blk.new w #[.int .u8 12, .int .u8 dst, .int .u8 a, .int .u8 b, .int .i16 imm] 72
  have HO := h'.ext E1
  go_enter Try.func61, Try.ntmps61
  go_wp2_with fail
  refine (regs_any ⟨12, dst, a, b, imm⟩ hxo _).mono ?_
  rintro e w1 ⟨rfl, x1⟩
  have E2 := E1.trans x1
  have O2 := HO.ext x1
  have B2 := B1.ext x1
  have b2 := B2.cell
  clear x1 E1 HO B1
  rw [hr]
  go_wp2_with fail
  refine (loopHolds_any _ _ xs O2 hok hl k ⟨12, dst, a, b, imm⟩ HX.out rfl).mono ?_
  rintro e w2 ⟨rfl, q2⟩
  have E3 := E2.qt q2
  have B3 := B2.ext ((Ext.refl _).qt q2)
  have b3 := B3.cell
  clear q2 E2 B2 O2 b2
  rw [hh]
  go_wp2
  go_ret
  exact ⟨rfl, E3⟩
set_option maxRecDepth 100000 in
theorem checkAt_at11_false (d : Bool) (w : World) (v : Value) (xs : List In) (h : PArr w v xs) (hok : ∀ x ∈ xs, x.ok) (hl : xs.length ≤ 1000000) (k : Nat) (x : In) (hx : xs[k]? = some x) (ho : x.op = 11) (hr : regs x = true) (hh : skipH xs k x = false) : Calls Try.prog 61 #[v, .int .i64 k, .bool d] w fun e w' => e = .returned (.int .i64 12) ∧ Ext w w' := by
  have hlI : (xs.length : Int) ≤ 1000000 := by omega
  have hk : k < xs.length := (List.getElem?_eq_some_iff.1 hx).1
  have hkI : (k : Int) < (xs.length : Int) := by omega
  have hxo := hok x (List.mem_of_getElem? hx)
  obtain ⟨ao, c, rfl, -, -⟩ := h.slice
  have h' := h
  obtain ⟨g, off, y, rfl, -, hy, c0, c1, c2, c3, c4⟩ := h.nth k hk
  rw [hx] at hy
  cases hy
  clear h
  obtain ⟨op, dst, a, b, imm⟩ := x
  dsimp only at ho c0 c1 c2 c3 c4
  subst ho
  have HX := Lib.hid hx
  clear hx
  have E1 := (Ext.refl w).alloc #[.int .u8 11, .int .u8 dst, .int .u8 a, .int .u8 b, .int .i16 imm] 72
  have B1 := Blk.new w #[.int .u8 11, .int .u8 dst, .int .u8 a, .int .u8 b, .int .i16 imm] 72
  have HO := h'.ext E1
  go_enter Try.func61, Try.ntmps61
  go_wp2_with fail
  refine (regs_any ⟨11, dst, a, b, imm⟩ hxo _).mono ?_
  rintro e w1 ⟨rfl, x1⟩
  have E2 := E1.trans x1
  have O2 := HO.ext x1
  have B2 := B1.ext x1
  have b2 := B2.cell
  clear x1 E1 HO B1
  rw [hr]
  go_wp2_with fail
  refine (skipHolds_any _ _ xs O2 hok hl k ⟨11, dst, a, b, imm⟩ HX.out).mono ?_
  rintro e w2 ⟨rfl, q2⟩
  have E3 := E2.qt q2
  have B3 := B2.ext ((Ext.refl _).qt q2)
  have b3 := B3.cell
  clear q2 E2 B2 O2 b2
  rw [hh]
  go_wp2
  go_ret
  exact ⟨rfl, E3⟩
set_option maxRecDepth 100000 in
theorem checkAt_at11_true (d : Bool) (w : World) (v : Value) (xs : List In) (h : PArr w v xs) (hok : ∀ x ∈ xs, x.ok) (hl : xs.length ≤ 1000000) (k : Nat) (x : In) (hx : xs[k]? = some x) (ho : x.op = 11) (hr : regs x = true) (hh : skipH xs k x = true) : Calls Try.prog 61 #[v, .int .i64 k, .bool d] w fun e w' => e = .returned (.int .i64 0) ∧ Ext w w' := by
  have hlI : (xs.length : Int) ≤ 1000000 := by omega
  have hk : k < xs.length := (List.getElem?_eq_some_iff.1 hx).1
  have hkI : (k : Int) < (xs.length : Int) := by omega
  have hxo := hok x (List.mem_of_getElem? hx)
  obtain ⟨ao, c, rfl, -, -⟩ := h.slice
  have h' := h
  obtain ⟨g, off, y, rfl, -, hy, c0, c1, c2, c3, c4⟩ := h.nth k hk
  rw [hx] at hy
  cases hy
  clear h
  obtain ⟨op, dst, a, b, imm⟩ := x
  dsimp only at ho c0 c1 c2 c3 c4
  subst ho
  have HX := Lib.hid hx
  clear hx
  have E1 := (Ext.refl w).alloc #[.int .u8 11, .int .u8 dst, .int .u8 a, .int .u8 b, .int .i16 imm] 72
  have B1 := Blk.new w #[.int .u8 11, .int .u8 dst, .int .u8 a, .int .u8 b, .int .i16 imm] 72
  have HO := h'.ext E1
  go_enter Try.func61, Try.ntmps61
  go_wp2_with fail
  refine (regs_any ⟨11, dst, a, b, imm⟩ hxo _).mono ?_
  rintro e w1 ⟨rfl, x1⟩
  have E2 := E1.trans x1
  have O2 := HO.ext x1
  have B2 := B1.ext x1
  have b2 := B2.cell
  clear x1 E1 HO B1
  rw [hr]
  go_wp2_with fail
  refine (skipHolds_any _ _ xs O2 hok hl k ⟨11, dst, a, b, imm⟩ HX.out).mono ?_
  rintro e w2 ⟨rfl, q2⟩
  have E3 := E2.qt q2
  have B3 := B2.ext ((Ext.refl _).qt q2)
  have b3 := B3.cell
  clear q2 E2 B2 O2 b2
  rw [hh]
  go_wp2
  go_ret
  exact ⟨rfl, E3⟩
theorem checkAt_any (d : Bool) (w : World) (v : Value) (xs : List In) (h : PArr w v xs) (hok : ∀ x ∈ xs, x.ok) (hl : xs.length ≤ 1000000) (k : Nat) (x : In) (hx : xs[k]? = some x) : Calls Try.prog 61 #[v, .int .i64 k, .bool d] w fun e w' => e = .returned (.int .i64 (at1 d xs k x)) ∧ Ext w w' := by
  by_cases h15 : 15 ≤ x.op
  · rw [show at1 d xs k x = 5 by simp [at1, h15]]
    exact checkAt_op d w v xs h hok hl k x hx h15
  · have ho : x.op < 15 := by omega
    by_cases h13 : x.op = 13
    · cases d with
      | false =>
        rw [show at1 false xs k x = 5 by simp [at1, h13]]
        exact checkAt_dis false w v xs h hok hl k x hx h13 rfl
      | true =>
        cases hr : regs x with
        | false =>
          rw [show at1 true xs k x = 2 by simp [at1, h13, hr]]
          exact checkAt_noregs13 true w v xs h hok hl k x hx h13 rfl hr
        | true =>
          rw [show at1 true xs k x = 0 by simp [at1, h13, hr]]
          exact checkAt_plain13 true w v xs h hok hl k x hx h13 rfl hr
    · by_cases h12 : x.op = 12
      · cases hr : regs x with
        | false =>
          rw [show at1 d xs k x = 2 by simp [at1, h12, hr]]
          exact checkAt_noregs12 d w v xs h hok hl k x hx h12 hr
        | true =>
          cases hh : loopH xs k x with
          | false =>
            rw [show at1 d xs k x = 12 by simp [at1, h12, hr, hh]]
            exact checkAt_at12_false d w v xs h hok hl k x hx h12 hr hh
          | true =>
            rw [show at1 d xs k x = 0 by simp [at1, h12, hr, hh]]
            exact checkAt_at12_true d w v xs h hok hl k x hx h12 hr hh
      · by_cases h11 : x.op = 11
        · cases hr : regs x with
          | false =>
            rw [show at1 d xs k x = 2 by simp [at1, h11, hr]]
            exact checkAt_noregs11 d w v xs h hok hl k x hx h11 hr
          | true =>
            cases hh : skipH xs k x with
            | false =>
              rw [show at1 d xs k x = 12 by simp [at1, h11, hr, hh]]
              exact checkAt_at11_false d w v xs h hok hl k x hx h11 hr hh
            | true =>
              rw [show at1 d xs k x = 0 by simp [at1, h11, hr, hh]]
              exact checkAt_at11_true d w v xs h hok hl k x hx h11 hr hh
        · cases hr : regs x with
          | false =>
            rw [show at1 d xs k x = 2 by simp [at1, h15, h13, hr]]
            exact checkAt_noregs d w v xs h hok hl k x hx ho h11 h12 h13 hr
          | true =>
            rw [show at1 d xs k x = 0 by simp [at1, h15, h13, h12, h11, hr]]
            exact checkAt_plain d w v xs h hok hl k x hx ho h11 h12 h13 hr
set_option maxRecDepth 100000 in
theorem checkP_any (d : Bool) (w : World) (v : Value) (xs : List In) (h : PArr w v xs) (hok : ∀ x ∈ xs, x.ok) (hl : xs.length ≤ 1000000) : Calls Try.prog 44 #[v, .bool d] w fun e w' => e = .returned (.int .i64 (chk d xs)) ∧ Ext w w' := by
  have h' := h
  obtain ⟨ao, c, rfl, -, -⟩ := h.slice
  have hlI : (xs.length : Int) ≤ 1000000 := by omega
  by_cases hm : 24 < xs.length
  · rw [chk_many hm]
    have hmI : (24 : Int) < (xs.length : Int) := by omega
    go_enter Try.func44, Try.ntmps44
    go_wp2
    go_ret
    exact ⟨rfl, Ext.refl _⟩
  · have hmI : ¬ (24 : Int) < (xs.length : Int) := by omega
    go_enter Try.func44, Try.ntmps44
    go_wp2_with fail
    go_loopg [12] xs.length (fun k iv wr => ∃ j : Nat, j + k = xs.length ∧ iv = .int .i64 j ∧ (∀ (n : Nat) x, n < j → xs[n]? = some x → at1 d xs n x = 0) ∧ Ext w wr)
    case atStart => exact ⟨0, by omega, rfl, fun n x hn => by omega, Ext.refl _⟩
    case round =>
      obtain ⟨j, hjk, rfl, hb, e1⟩ := hrel
      by_cases hj : j < xs.length
      · have hjI : (j : Int) < (xs.length : Int) := by omega
        obtain ⟨x, hx⟩ : ∃ x, xs[j]? = some x := ⟨xs[j], by simp [hj]⟩
        have HX := Lib.hid hx
        clear hx
        go_wp2_with fail
        refine (checkAt_any d _ _ xs (h'.ext e1) hok hl j x HX.out).mono ?_
        rintro e w2 ⟨rfl, x2⟩
        have e2 := e1.trans x2
        clear e1 x2
        by_cases ha : at1 d xs j x = 0
        · rw [ha]
          have HA := Lib.hid ha
          clear ha
          go_wp2
          go_roundg (gk - 1)
          case measure => omega
          case rel => exact ⟨j + 1, by omega, rfl, fun n y hn hy => by
            rcases Nat.lt_or_ge n j with h1 | h1
            · exact hb n y h1 hy
            · obtain rfl : n = j := by omega
              rw [HX.out] at hy
              cases hy
              exact HA.out, e2⟩
        · have hc : chk d xs = at1 d xs j x := chk_at (by omega) HX.out ha hb
          have HC := Lib.hid hc
          clear hc
          have han : (at1 d xs j x != 0) = true := by simpa using ha
          go_wp2
          go_ret
          exact ⟨by rw [HC.out]; rfl, e2⟩
      · obtain rfl : j = xs.length := by omega
        have hc : chk d xs = if 200 < fuelL xs then 6 else 0 := chk_all (by omega) fun n x hx => hb n x (List.getElem?_eq_some_iff.1 hx).1 hx
        have HC := Lib.hid hc
        clear hc
        go_wp2_with fail
        refine (checkFuel_any _ _ xs (h'.ext e1) hok hl).mono ?_
        rintro e w2 ⟨rfl, x2⟩
        rw [← HC.out]
        go_wp2
        go_ret
        exact ⟨rfl, e1.trans x2⟩
theorem check_any (d : Bool) (w : World) (base : Nat) (v : Value) (xs : List In) (h : OwnP w base v xs) (hok : ∀ x ∈ xs, x.ok) (hl : xs.length ≤ 1000000) : Calls Try.prog 44 #[v, .bool d] w fun e w' => e = .returned (.int .i64 (chk d xs)) ∧ Ext w w' := checkP_any d w v xs h.parr hok hl
end Go.Proofs.Ytbbfmlehddfneaa

