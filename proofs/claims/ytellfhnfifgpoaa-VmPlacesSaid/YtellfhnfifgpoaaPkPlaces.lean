/-
  DERIVED. THE LAW VmPlaces: what a program makes of a vertex, of a pixel (made by mkvm.py).
-/
import Derived.Test.YtellfhnfifgpoaaPkPlc
import Derived.Test.YtellfhnfifgpoaaPkPle
import Derived.Test.YtellfhnfifgpoaaPkProg
namespace Go.Proofs.Ytellfhnfifgpoaa
open Go.RowKit
set_option linter.unusedVariables false
theorem chk_more {xs : List In} (h : chk false xs = 0) : chk true xs = 0 := by
  obtain ⟨h1, h2, h3⟩ := chk_zero h
  rw [chk_all h1 (fun i x hx => ?_), if_neg (by omega)]
  obtain ⟨a1, _, a3, a4, a5⟩ := at1_zero.1 (h2 i x hx)
  exact at1_zero.2 ⟨a1, fun _ => rfl, a3, a4, a5⟩
theorem shade_same (c : V4) (x y d : Int) (hx : 0 ≤ x ∧ x ≤ 63) (hy : 0 ≤ y ∧ y ≤ 63) (hd : 0 ≤ d ∧ d ≤ 65535) : shadeR c x y d = shadeL c x y d := by
  have ho : ∀ n : Int, 0 ≤ n → n ≤ 63 → ofZ n = n * 65536 := fun n h1 h2 => by unfold ofZ clampZ withinZ; omega
  unfold shadeR shadeL
  rw [ho x hx.1 hx.2, ho y hy.1 hy.2, limI_eq (by omega), show max 0 (min d 65535) = d by omega]
  rfl
theorem Calm.more {O O' : List Nat} {a b : World} (h : Calm O a b) (hs : ∀ x ∈ O, x ∈ O') : Calm O' a b := ⟨h.os, h.tape, h.output, h.size, fun k hk hn => h.block k hk (fun e => hn (hs k e))⟩
theorem getD_i32 {l : List Int} (h : ∀ n ∈ l, -2147483648 ≤ n ∧ n ≤ 2147483647) (j : Nat) : IntKind.i64.wrap (l.getD j 0) = l.getD j 0 := by
  have : -2147483648 ≤ l.getD j 0 ∧ l.getD j 0 ≤ 2147483647 := by
    by_cases hj : j < l.length
    · have e : l.getD j 0 = l[j] := by simp [List.getD, hj]
      rw [e]
      exact h _ (List.getElem_mem hj)
    · have e : l.getD j 0 = 0 := by simp [List.getD, List.getElem?_eq_none (Nat.le_of_not_lt hj)]
      rw [e]
      omega
  rw [IntKind.wrap_i64]
  omega
set_option maxRecDepth 100000 in
set_option maxHeartbeats 4000000 in
theorem vmPlaces_main {w : World} (u : Value) (sl : List Sm) (m0 m1 m2 m3 : V4) (p c : V4) (tx ty d : Int) (h0 : SArr w u sl) (d00 : -2147483648 ≤ m0.c0 ∧ m0.c0 ≤ 2147483647) (d01 : -2147483648 ≤ m0.c1 ∧ m0.c1 ≤ 2147483647) (d02 : -2147483648 ≤ m0.c2 ∧ m0.c2 ≤ 2147483647) (d03 : -2147483648 ≤ m0.c3 ∧ m0.c3 ≤ 2147483647) (d10 : -2147483648 ≤ m1.c0 ∧ m1.c0 ≤ 2147483647) (d11 : -2147483648 ≤ m1.c1 ∧ m1.c1 ≤ 2147483647) (d12 : -2147483648 ≤ m1.c2 ∧ m1.c2 ≤ 2147483647) (d13 : -2147483648 ≤ m1.c3 ∧ m1.c3 ≤ 2147483647) (d20 : -2147483648 ≤ m2.c0 ∧ m2.c0 ≤ 2147483647) (d21 : -2147483648 ≤ m2.c1 ∧ m2.c1 ≤ 2147483647) (d22 : -2147483648 ≤ m2.c2 ∧ m2.c2 ≤ 2147483647) (d23 : -2147483648 ≤ m2.c3 ∧ m2.c3 ≤ 2147483647) (d30 : -2147483648 ≤ m3.c0 ∧ m3.c0 ≤ 2147483647) (d31 : -2147483648 ≤ m3.c1 ∧ m3.c1 ≤ 2147483647) (d32 : -2147483648 ≤ m3.c2 ∧ m3.c2 ≤ 2147483647) (d33 : -2147483648 ≤ m3.c3 ∧ m3.c3 ≤ 2147483647) (b0 : -2147483648 ≤ p.c0 ∧ p.c0 ≤ 2147483647) (b1 : -2147483648 ≤ p.c1 ∧ p.c1 ≤ 2147483647) (b2 : -2147483648 ≤ p.c2 ∧ p.c2 ≤ 2147483647) (b3 : -2147483648 ≤ p.c3 ∧ p.c3 ≤ 2147483647) (g0 : -2147483648 ≤ c.c0 ∧ c.c0 ≤ 2147483647) (g1 : -2147483648 ≤ c.c1 ∧ c.c1 ≤ 2147483647) (g2 : -2147483648 ≤ c.c2 ∧ c.c2 ≤ 2147483647) (g3 : -2147483648 ≤ c.c3 ∧ c.c3 ≤ 2147483647) (hx : 0 ≤ tx ∧ tx ≤ 65535) (hy : 0 ≤ ty ∧ ty ≤ 65535) (hd : 0 ≤ d ∧ d ≤ 65535) (l0 : sl.length ≤ 40) :
    Calls Try.prog 4 #[u, .agg #[.int .i32 m0.c0, .int .i32 m0.c1, .int .i32 m0.c2, .int .i32 m0.c3, .int .i32 m1.c0, .int .i32 m1.c1, .int .i32 m1.c2, .int .i32 m1.c3, .int .i32 m2.c0, .int .i32 m2.c1, .int .i32 m2.c2, .int .i32 m2.c3, .int .i32 m3.c0, .int .i32 m3.c1, .int .i32 m3.c2, .int .i32 m3.c3], .agg #[.int .i32 p.c0, .int .i32 p.c1, .int .i32 p.c2, .int .i32 p.c3], .agg #[.int .i32 c.c0, .int .i32 c.c1, .int .i32 c.c2, .int .i32 c.c3], .int .u16 tx, .int .u16 ty, .int .u16 d] w fun e w' => e = .returned (.bool true) ∧ Ext w w' := by
  have hS := Lib.hid h0
  obtain ⟨⟨a0, c0, rfl, -⟩, -, -⟩ := h0
  have i0 : (sl.length : Int) ≤ 40 := by omega
  have wM := Lib.hid (getD_i32 (l := [m0.c0, m0.c1, m0.c2, m0.c3, m1.c0, m1.c1, m1.c2, m1.c3, m2.c0, m2.c1, m2.c2, m2.c3, m3.c0, m3.c1, m3.c2, m3.c3]) (by intro n hn; simp only [List.mem_cons, List.not_mem_nil, or_false] at hn; rcases hn with rfl | rfl | rfl | rfl | rfl | rfl | rfl | rfl | rfl | rfl | rfl | rfl | rfl | rfl | rfl | rfl <;> omega))
  have wP := Lib.hid (getD_i32 (l := [p.c0, p.c1, p.c2, p.c3]) (by intro n hn; simp only [List.mem_cons, List.not_mem_nil, or_false] at hn; rcases hn with rfl | rfl | rfl | rfl <;> omega))
  have wC := Lib.hid (getD_i32 (l := [c.c0, c.c1, c.c2, c.c3]) (by intro n hn; simp only [List.mem_cons, List.not_mem_nil, or_false] at hn; rcases hn with rfl | rfl | rfl | rfl <;> omega))
  have Qb0 : Hid (-9223372036854775808 ≤ p.c0 ∧ p.c0 ≤ 9223372036854775807) := Lib.hid (by omega)
  have Qb1 : Hid (-9223372036854775808 ≤ p.c1 ∧ p.c1 ≤ 9223372036854775807) := Lib.hid (by omega)
  have Qb2 : Hid (-9223372036854775808 ≤ p.c2 ∧ p.c2 ≤ 9223372036854775807) := Lib.hid (by omega)
  have Qb3 : Hid (-9223372036854775808 ≤ p.c3 ∧ p.c3 ≤ 9223372036854775807) := Lib.hid (by omega)
  have Qg0 : Hid (-9223372036854775808 ≤ c.c0 ∧ c.c0 ≤ 9223372036854775807) := Lib.hid (by omega)
  have Qg1 : Hid (-9223372036854775808 ≤ c.c1 ∧ c.c1 ≤ 9223372036854775807) := Lib.hid (by omega)
  have Qg2 : Hid (-9223372036854775808 ≤ c.c2 ∧ c.c2 ≤ 9223372036854775807) := Lib.hid (by omega)
  have Qg3 : Hid (-9223372036854775808 ≤ c.c3 ∧ c.c3 ≤ 9223372036854775807) := Lib.hid (by omega)
  have Qd00 : Hid (-9223372036854775808 ≤ m0.c0 ∧ m0.c0 ≤ 9223372036854775807) := Lib.hid (by omega)
  have Qd01 : Hid (-9223372036854775808 ≤ m0.c1 ∧ m0.c1 ≤ 9223372036854775807) := Lib.hid (by omega)
  have Qd02 : Hid (-9223372036854775808 ≤ m0.c2 ∧ m0.c2 ≤ 9223372036854775807) := Lib.hid (by omega)
  have Qd03 : Hid (-9223372036854775808 ≤ m0.c3 ∧ m0.c3 ≤ 9223372036854775807) := Lib.hid (by omega)
  have Qd10 : Hid (-9223372036854775808 ≤ m1.c0 ∧ m1.c0 ≤ 9223372036854775807) := Lib.hid (by omega)
  have Qd11 : Hid (-9223372036854775808 ≤ m1.c1 ∧ m1.c1 ≤ 9223372036854775807) := Lib.hid (by omega)
  have Qd12 : Hid (-9223372036854775808 ≤ m1.c2 ∧ m1.c2 ≤ 9223372036854775807) := Lib.hid (by omega)
  have Qd13 : Hid (-9223372036854775808 ≤ m1.c3 ∧ m1.c3 ≤ 9223372036854775807) := Lib.hid (by omega)
  have Qd20 : Hid (-9223372036854775808 ≤ m2.c0 ∧ m2.c0 ≤ 9223372036854775807) := Lib.hid (by omega)
  have Qd21 : Hid (-9223372036854775808 ≤ m2.c1 ∧ m2.c1 ≤ 9223372036854775807) := Lib.hid (by omega)
  have Qd22 : Hid (-9223372036854775808 ≤ m2.c2 ∧ m2.c2 ≤ 9223372036854775807) := Lib.hid (by omega)
  have Qd23 : Hid (-9223372036854775808 ≤ m2.c3 ∧ m2.c3 ≤ 9223372036854775807) := Lib.hid (by omega)
  have Qd30 : Hid (-9223372036854775808 ≤ m3.c0 ∧ m3.c0 ≤ 9223372036854775807) := Lib.hid (by omega)
  have Qd31 : Hid (-9223372036854775808 ≤ m3.c1 ∧ m3.c1 ≤ 9223372036854775807) := Lib.hid (by omega)
  have Qd32 : Hid (-9223372036854775808 ≤ m3.c2 ∧ m3.c2 ≤ 9223372036854775807) := Lib.hid (by omega)
  have Qd33 : Hid (-9223372036854775808 ≤ m3.c3 ∧ m3.c3 ≤ 9223372036854775807) := Lib.hid (by omega)
  have M0 := ((Blk.new w #[.int .i32 m0.c0, .int .i32 m0.c1, .int .i32 m0.c2, .int .i32 m0.c3, .int .i32 m1.c0, .int .i32 m1.c1, .int .i32 m1.c2, .int .i32 m1.c3, .int .i32 m2.c0, .int .i32 m2.c1, .int .i32 m2.c2, .int .i32 m2.c3, .int .i32 m3.c0, .int .i32 m3.c1, .int .i32 m3.c2, .int .i32 m3.c3] 47).alloc (.cells #[.int .i32 p.c0, .int .i32 p.c1, .int .i32 p.c2, .int .i32 p.c3] 46)).alloc (.cells #[.int .i32 c.c0, .int .i32 c.c1, .int .i32 c.c2, .int .i32 c.c3] 46)
  have P0 := (Blk.new' (w := w.alloc (.cells #[.int .i32 m0.c0, .int .i32 m0.c1, .int .i32 m0.c2, .int .i32 m0.c3, .int .i32 m1.c0, .int .i32 m1.c1, .int .i32 m1.c2, .int .i32 m1.c3, .int .i32 m2.c0, .int .i32 m2.c1, .int .i32 m2.c2, .int .i32 m2.c3, .int .i32 m3.c0, .int .i32 m3.c1, .int .i32 m3.c2, .int .i32 m3.c3] 47)) (b := w.heap.size + 1) (by simp) #[.int .i32 p.c0, .int .i32 p.c1, .int .i32 p.c2, .int .i32 p.c3] 46).alloc (.cells #[.int .i32 c.c0, .int .i32 c.c1, .int .i32 c.c2, .int .i32 c.c3] 46)
  have C0 := Blk.new' (w := (w.alloc (.cells #[.int .i32 m0.c0, .int .i32 m0.c1, .int .i32 m0.c2, .int .i32 m0.c3, .int .i32 m1.c0, .int .i32 m1.c1, .int .i32 m1.c2, .int .i32 m1.c3, .int .i32 m2.c0, .int .i32 m2.c1, .int .i32 m2.c2, .int .i32 m2.c3, .int .i32 m3.c0, .int .i32 m3.c1, .int .i32 m3.c2, .int .i32 m3.c3] 47)).alloc (.cells #[.int .i32 p.c0, .int .i32 p.c1, .int .i32 p.c2, .int .i32 p.c3] 46)) (b := w.heap.size + 1 + 1) (by simp) #[.int .i32 c.c0, .int .i32 c.c1, .int .i32 c.c2, .int .i32 c.c3] 46
  have E0 := (((Ext.refl w).alloc #[.int .i32 m0.c0, .int .i32 m0.c1, .int .i32 m0.c2, .int .i32 m0.c3, .int .i32 m1.c0, .int .i32 m1.c1, .int .i32 m1.c2, .int .i32 m1.c3, .int .i32 m2.c0, .int .i32 m2.c1, .int .i32 m2.c2, .int .i32 m2.c3, .int .i32 m3.c0, .int .i32 m3.c1, .int .i32 m3.c2, .int .i32 m3.c3] 47).alloc #[.int .i32 p.c0, .int .i32 p.c1, .int .i32 p.c2, .int .i32 p.c3] 46).alloc #[.int .i32 c.c0, .int .i32 c.c1, .int .i32 c.c2, .int .i32 c.c3] 46
  have HM0 := Lib.hid M0
  have HP0 := Lib.hid P0
  have HC0 := Lib.hid C0
  have HE0 := Lib.hid E0
  clear M0 P0 C0 E0 b0 b1 b2 b3 g0 g1 g2 g3 d00 d01 d02 d03 d10 d11 d12 d13 d20 d21 d22 d23 d30 d31 d32 d33
  go_enter Try.func4, Try.ntmps4
  go_upto_region 1 with fail
  generalize ((w.alloc (.cells #[.int .i32 m0.c0, .int .i32 m0.c1, .int .i32 m0.c2, .int .i32 m0.c3, .int .i32 m1.c0, .int .i32 m1.c1, .int .i32 m1.c2, .int .i32 m1.c3, .int .i32 m2.c0, .int .i32 m2.c1, .int .i32 m2.c2, .int .i32 m2.c3, .int .i32 m3.c0, .int .i32 m3.c1, .int .i32 m3.c2, .int .i32 m3.c3] 47)).alloc (.cells #[.int .i32 p.c0, .int .i32 p.c1, .int .i32 p.c2, .int .i32 p.c3] 46)).alloc (.cells #[.int .i32 c.c0, .int .i32 c.c1, .int .i32 c.c2, .int .i32 c.c3] 46) = w0 at *
  have hsz0 := HC0.out.lt
  go_wp2_with fail
  refine (awake8_any _).mono ?_
  rintro e w1 ⟨rfl, x1⟩
  have hsz1 := x1.size
  have A15 := (((Blk.new w1 #[.int .i64 0, .int .i64 0, .int .i64 0, .int .i64 0, .int .i64 0, .int .i64 0, .int .i64 0, .int .i64 0, .int .i64 0, .int .i64 0, .int .i64 0, .int .i64 0, .int .i64 0, .int .i64 0, .int .i64 0, .int .i64 0] 50).alloc (.cells #[.int .i64 0, .int .i64 0, .int .i64 0, .int .i64 0, .int .i64 0, .int .i64 0, .int .i64 0, .int .i64 0, .int .i64 0, .int .i64 0, .int .i64 0, .int .i64 0, .int .i64 0, .int .i64 0, .int .i64 0, .int .i64 0] 51)).alloc (.cells #[.int .i64 0, .int .i64 0, .int .i64 0, .int .i64 0] 29)).alloc (.cells #[.int .i64 0, .int .i64 0, .int .i64 0, .int .i64 0] 29)
  have A16 := ((Blk.new' (w := w1.alloc (.cells #[.int .i64 0, .int .i64 0, .int .i64 0, .int .i64 0, .int .i64 0, .int .i64 0, .int .i64 0, .int .i64 0, .int .i64 0, .int .i64 0, .int .i64 0, .int .i64 0, .int .i64 0, .int .i64 0, .int .i64 0, .int .i64 0] 50)) (b := w1.heap.size + 1) (by simp) #[.int .i64 0, .int .i64 0, .int .i64 0, .int .i64 0, .int .i64 0, .int .i64 0, .int .i64 0, .int .i64 0, .int .i64 0, .int .i64 0, .int .i64 0, .int .i64 0, .int .i64 0, .int .i64 0, .int .i64 0, .int .i64 0] 51).alloc (.cells #[.int .i64 0, .int .i64 0, .int .i64 0, .int .i64 0] 29)).alloc (.cells #[.int .i64 0, .int .i64 0, .int .i64 0, .int .i64 0] 29)
  have A17 := (Blk.new' (w := (w1.alloc (.cells #[.int .i64 0, .int .i64 0, .int .i64 0, .int .i64 0, .int .i64 0, .int .i64 0, .int .i64 0, .int .i64 0, .int .i64 0, .int .i64 0, .int .i64 0, .int .i64 0, .int .i64 0, .int .i64 0, .int .i64 0, .int .i64 0] 50)).alloc (.cells #[.int .i64 0, .int .i64 0, .int .i64 0, .int .i64 0, .int .i64 0, .int .i64 0, .int .i64 0, .int .i64 0, .int .i64 0, .int .i64 0, .int .i64 0, .int .i64 0, .int .i64 0, .int .i64 0, .int .i64 0, .int .i64 0] 51)) (b := w1.heap.size + 1 + 1) (by simp) #[.int .i64 0, .int .i64 0, .int .i64 0, .int .i64 0] 29).alloc (.cells #[.int .i64 0, .int .i64 0, .int .i64 0, .int .i64 0] 29)
  have A18 := Blk.new' (w := ((w1.alloc (.cells #[.int .i64 0, .int .i64 0, .int .i64 0, .int .i64 0, .int .i64 0, .int .i64 0, .int .i64 0, .int .i64 0, .int .i64 0, .int .i64 0, .int .i64 0, .int .i64 0, .int .i64 0, .int .i64 0, .int .i64 0, .int .i64 0] 50)).alloc (.cells #[.int .i64 0, .int .i64 0, .int .i64 0, .int .i64 0, .int .i64 0, .int .i64 0, .int .i64 0, .int .i64 0, .int .i64 0, .int .i64 0, .int .i64 0, .int .i64 0, .int .i64 0, .int .i64 0, .int .i64 0, .int .i64 0] 51)).alloc (.cells #[.int .i64 0, .int .i64 0, .int .i64 0, .int .i64 0] 29)) (b := w1.heap.size + 1 + 1 + 1) (by simp) #[.int .i64 0, .int .i64 0, .int .i64 0, .int .i64 0] 29
  have E7 := ((((Ext.refl w1).alloc #[.int .i64 0, .int .i64 0, .int .i64 0, .int .i64 0, .int .i64 0, .int .i64 0, .int .i64 0, .int .i64 0, .int .i64 0, .int .i64 0, .int .i64 0, .int .i64 0, .int .i64 0, .int .i64 0, .int .i64 0, .int .i64 0] 50).alloc #[.int .i64 0, .int .i64 0, .int .i64 0, .int .i64 0, .int .i64 0, .int .i64 0, .int .i64 0, .int .i64 0, .int .i64 0, .int .i64 0, .int .i64 0, .int .i64 0, .int .i64 0, .int .i64 0, .int .i64 0, .int .i64 0] 51).alloc #[.int .i64 0, .int .i64 0, .int .i64 0, .int .i64 0] 29).alloc #[.int .i64 0, .int .i64 0, .int .i64 0, .int .i64 0] 29
  have HX := Lib.hid (x1.trans E7)
  have H15 := Lib.hid A15
  have H16 := Lib.hid A16
  have H17 := Lib.hid A17
  have H18 := Lib.hid A18
  clear x1 E7 A15 A16 A17 A18
  go_upto_region 8 with fail
  generalize (((w1.alloc (.cells #[.int .i64 0, .int .i64 0, .int .i64 0, .int .i64 0, .int .i64 0, .int .i64 0, .int .i64 0, .int .i64 0, .int .i64 0, .int .i64 0, .int .i64 0, .int .i64 0, .int .i64 0, .int .i64 0, .int .i64 0, .int .i64 0] 50)).alloc (.cells #[.int .i64 0, .int .i64 0, .int .i64 0, .int .i64 0, .int .i64 0, .int .i64 0, .int .i64 0, .int .i64 0, .int .i64 0, .int .i64 0, .int .i64 0, .int .i64 0, .int .i64 0, .int .i64 0, .int .i64 0, .int .i64 0] 51)).alloc (.cells #[.int .i64 0, .int .i64 0, .int .i64 0, .int .i64 0] 29)).alloc (.cells #[.int .i64 0, .int .i64 0, .int .i64 0, .int .i64 0] 29) = w2 at *
  generalize hk : w1.heap.size = k at *
  generalize hn : w.heap.size = n at *
  have HE2 := Lib.hid (HE0.out.trans HX.out)
  have h8 : Blk w2 n (RK .i32 [m0.c0, m0.c1, m0.c2, m0.c3, m1.c0, m1.c1, m1.c2, m1.c3, m2.c0, m2.c1, m2.c2, m2.c3, m3.c0, m3.c1, m3.c2, m3.c3]) 47 := HM0.out.ext HX.out
  have h9 : Blk w2 (n + 1) (RK .i32 [p.c0, p.c1, p.c2, p.c3]) 46 := HP0.out.ext HX.out
  have h10 : Blk w2 (n + 1 + 1) (RK .i32 [c.c0, c.c1, c.c2, c.c3]) 46 := HC0.out.ext HX.out
  have H8 := Lib.hid h8
  have H9 := Lib.hid h9
  have H10 := Lib.hid h10
  have hks : n + 1 + 1 < k := by omega
  have HN := Lib.hid hn
  clear h8 h9 h10 HM0 HP0 HC0 HE0 HX hk hn hsz0 hsz1
  go_wp2_with fail
  go_loopg [37] 4 (fun m iv wr => ∃ i : Nat, i + m = 4 ∧ iv = .int .i64 (i : Int) ∧ Blk wr (k + 1 + 1) (RK .i64 (cpyN [p.c0, p.c1, p.c2, p.c3] 4 i)) 29 ∧ Blk wr (k + 1 + 1 + 1) (RK .i64 (cpyN [c.c0, c.c1, c.c2, c.c3] 4 i)) 29 ∧ Blk wr (k + 1) (RK .i64 (cpyN [m0.c0, m0.c1, m0.c2, m0.c3, m1.c0, m1.c1, m1.c2, m1.c3, m2.c0, m2.c1, m2.c2, m2.c3, m3.c0, m3.c1, m3.c2, m3.c3] 16 (i * 4))) 51 ∧ Blk wr k (RK .i64 (cpyN [m0.c0, m0.c1, m0.c2, m0.c3, m1.c0, m1.c1, m1.c2, m1.c3, m2.c0, m2.c1, m2.c2, m2.c3, m3.c0, m3.c1, m3.c2, m3.c3] 16 (i * 4))) 50 ∧ Calm [k, k + 1, k + 1 + 1, k + 1 + 1 + 1] w2 wr)
  case atStart => exact ⟨0, by omega, rfl, H17.out, H18.out, H16.out, H15.out, Calm.refl _ _⟩
  case round =>
    obtain ⟨i, him, rfl, a17, a18, a16, a15, K3⟩ := hrel
    generalize wr = wo at *
    have G17 := Lib.hid a17
    have G18 := Lib.hid a18
    have G16 := Lib.hid a16
    have G15 := Lib.hid a15
    have HK3 := Lib.hid K3
    clear a17 a18 a16 a15 K3
    by_cases hi : i < 4
    · have hiI : (i : Int) < 4 := by omega
      go_wp2_with fail
      refine pl_r11 _ _ _ _ _ _ _ _ _ _ _ _ _ _ _ _ _ _ _ _ _ _ _ _ _ _ _ _ _ _ _ _ _ _ _ _ _ _ _ _ _ _ _ _ _ _ _ _ _ _ _ _ _ _ _ _ _ _ _ _ _ _ _ _ _ _ _ _ _ _ _ _ _ _ _ _ _ _ _ _ _ _ _ _ _ _ _ _ _ _ _ _ _ _ _ _ _ _ _ _ _ _ _ _ _ _ _ _ _ _ _ _ _ _ _ _ _ _ _ _ _ _ _ _ _ _ _ _ _ _ _ _ _ _ _ _ _ _ _ _ _ _ _ _ _ _ _ _ _ _ _ _ _ (n + 1) (n + 1 + 1) (k + 1 + 1) (k + 1 + 1 + 1) i [p.c0, p.c1, p.c2, p.c3] [c.c0, c.c1, c.c2, c.c3] rfl rfl wo (H9.out.calm HK3.out (by simp; omega)) (H10.out.calm HK3.out (by simp; omega)) G17.out G18.out (by omega) (by omega) (by omega) hi _ _ (Lib.hid rfl) (Lib.hid rfl) (wP.out i) (wC.out i) ?_
      rintro g_0 g_1 g_2 g_3 g_4 g_5 g_6 g_7 g_8 g_9 g_10 g_11 w4 ⟨a17, a18, K4⟩
      have HK4 := Lib.hid (HK3.out.trans (K4.more (by simp)))
      have T16 := Lib.hid (G16.out.calm K4 (by first | (simp; done) | (simp; omega)))
      have T15 := Lib.hid (G15.out.calm K4 (by first | (simp; done) | (simp; omega)))
      have T17 := Lib.hid a17
      have T18 := Lib.hid a18
      clear a17 a18 K4 G16 G15 G17 G18 HK3
      go_wp2_with fail
      go_loopg [52] 4 (fun m iv wr => ∃ j : Nat, j + m = 4 ∧ iv = .int .i64 (j : Int) ∧ Blk wr (k + 1) (RK .i64 (cpyN [m0.c0, m0.c1, m0.c2, m0.c3, m1.c0, m1.c1, m1.c2, m1.c3, m2.c0, m2.c1, m2.c2, m2.c3, m3.c0, m3.c1, m3.c2, m3.c3] 16 (i * 4 + j))) 51 ∧ Blk wr k (RK .i64 (cpyN [m0.c0, m0.c1, m0.c2, m0.c3, m1.c0, m1.c1, m1.c2, m1.c3, m2.c0, m2.c1, m2.c2, m2.c3, m3.c0, m3.c1, m3.c2, m3.c3] 16 (i * 4 + j))) 50 ∧ Calm [k, k + 1] w4 wr)
      case atStart => exact ⟨0, by omega, rfl, T16.out, T15.out, Calm.refl _ _⟩
      case round =>
        obtain ⟨j, hjm, rfl, a16, a15, K5⟩ := hrel
        have G16 := Lib.hid a16
        have G15 := Lib.hid a15
        have HK5 := Lib.hid K5
        clear a16 a15 K5
        by_cases hj : j < 4
        · have hjI : (j : Int) < 4 := by omega
          go_wp2_with fail
          refine pl_r15 _ _ _ _ _ _ _ _ _ _ _ _ _ _ _ _ _ _ _ _ _ _ _ _ _ _ _ _ _ _ _ _ _ _ _ _ _ _ _ _ _ _ _ _ _ _ _ _ _ _ _ _ _ _ _ _ _ _ _ _ _ _ _ _ _ _ _ _ _ _ _ _ _ _ _ _ _ _ _ _ _ _ _ _ _ _ _ _ _ _ _ _ _ _ _ _ _ _ _ _ _ _ _ _ _ _ _ _ _ _ _ _ _ _ _ _ _ _ _ _ _ _ _ _ _ _ _ _ _ _ _ _ _ _ _ _ _ _ _ _ _ _ _ _ _ _ _ _ _ _ _ _ _ _ n (k + 1) i j [m0.c0, m0.c1, m0.c2, m0.c3, m1.c0, m1.c1, m1.c2, m1.c3, m2.c0, m2.c1, m2.c2, m2.c3, m3.c0, m3.c1, m3.c2, m3.c3] rfl wr ((H8.out.calm HK4.out (by simp; omega)).calm HK5.out (by simp; omega)) G16.out (by omega) hi hj _ (Lib.hid rfl) (wM.out (i * 4 + j)) ?_
          rintro g_0 g_1 g_2 g_3 g_4 g_5 g_6 g_7 g_8 g_9 w6 ⟨b16, K6⟩
          have J16 := Lib.hid b16
          have HK6 := Lib.hid K6
          clear b16 K6
          go_wp2_with fail
          refine pl_r16 _ _ _ _ _ _ _ _ _ _ _ _ _ _ _ _ _ _ _ _ _ _ _ _ _ _ _ _ _ _ _ _ _ _ _ _ _ _ _ _ _ _ _ _ _ _ _ _ _ _ _ _ _ _ _ _ _ _ _ _ _ _ _ _ _ _ _ _ _ _ _ _ _ _ _ _ _ _ _ _ _ _ _ _ _ _ _ _ _ _ _ _ _ _ _ _ _ _ _ _ _ _ _ _ _ _ _ _ _ _ _ _ _ _ _ _ _ _ _ _ _ _ _ _ _ _ _ _ _ _ _ _ _ _ _ _ _ _ _ _ _ _ _ _ _ _ _ _ _ _ _ _ _ _ k (k + 1) i j [m0.c0, m0.c1, m0.c2, m0.c3, m1.c0, m1.c1, m1.c2, m1.c3, m2.c0, m2.c1, m2.c2, m2.c3, m3.c0, m3.c1, m3.c2, m3.c3] rfl w6 J16.out (G15.out.calm HK6.out (by simp)) (by omega) hi hj _ (Lib.hid rfl) ?_
          rintro g_0 g_1 g_2 g_3 g_4 g_5 g_6 g_7 g_8 w7 ⟨b15, K7⟩
          have J15 := Lib.hid b15
          have J16' := Lib.hid (J16.out.calm K7 (by simp))
          have HK7 := Lib.hid ((HK5.out.trans (HK6.out.more (by simp))).trans (K7.more (by simp)))
          clear b15 K7 G16 G15 HK5 HK6 J16
          go_wp2
          go_roundg (4 - (j + 1))
          case measure => omega
          case rel => exact ⟨j + 1, by omega, rfl, J16'.out, J15.out, HK7.out⟩
        · obtain rfl : j = 4 := by omega
          have Z17 := Lib.hid (T17.out.calm HK5.out (by first | (simp; done) | (simp; omega)))
          have Z18 := Lib.hid (T18.out.calm HK5.out (by first | (simp; done) | (simp; omega)))
          have HK8 := Lib.hid (HK4.out.trans (HK5.out.more (by simp)))
          go_wp2
          go_roundg (4 - (i + 1))
          case measure => omega
          case rel => exact ⟨i + 1, by omega, rfl, Z17.out, Z18.out, by rw [show (i + 1) * 4 = i * 4 + 4 by omega]; exact G16.out, by rw [show (i + 1) * 4 = i * 4 + 4 by omega]; exact G15.out, HK8.out⟩
    · obtain rfl : i = 4 := by omega
      have h15 : Blk wo k #[.int .i64 m0.c0, .int .i64 m0.c1, .int .i64 m0.c2, .int .i64 m0.c3, .int .i64 m1.c0, .int .i64 m1.c1, .int .i64 m1.c2, .int .i64 m1.c3, .int .i64 m2.c0, .int .i64 m2.c1, .int .i64 m2.c2, .int .i64 m2.c3, .int .i64 m3.c0, .int .i64 m3.c1, .int .i64 m3.c2, .int .i64 m3.c3] 50 := by
        have := G15.out
        rw [show 4 * 4 = 16 from rfl, cpyN_full (l := [m0.c0, m0.c1, m0.c2, m0.c3, m1.c0, m1.c1, m1.c2, m1.c3, m2.c0, m2.c1, m2.c2, m2.c3, m3.c0, m3.c1, m3.c2, m3.c3]) (n := 16) rfl] at this
        exact this
      have h16 : Blk wo (k + 1) #[.int .i64 m0.c0, .int .i64 m0.c1, .int .i64 m0.c2, .int .i64 m0.c3, .int .i64 m1.c0, .int .i64 m1.c1, .int .i64 m1.c2, .int .i64 m1.c3, .int .i64 m2.c0, .int .i64 m2.c1, .int .i64 m2.c2, .int .i64 m2.c3, .int .i64 m3.c0, .int .i64 m3.c1, .int .i64 m3.c2, .int .i64 m3.c3] 51 := by
        have := G16.out
        rw [show 4 * 4 = 16 from rfl, cpyN_full (l := [m0.c0, m0.c1, m0.c2, m0.c3, m1.c0, m1.c1, m1.c2, m1.c3, m2.c0, m2.c1, m2.c2, m2.c3, m3.c0, m3.c1, m3.c2, m3.c3]) (n := 16) rfl] at this
        exact this
      have h17 : Blk wo (k + 1 + 1) #[.int .i64 p.c0, .int .i64 p.c1, .int .i64 p.c2, .int .i64 p.c3] 29 := by
        have := G17.out
        rw [cpyN_full (l := [p.c0, p.c1, p.c2, p.c3]) (n := 4) rfl] at this
        exact this
      have h18 : Blk wo (k + 1 + 1 + 1) #[.int .i64 c.c0, .int .i64 c.c1, .int .i64 c.c2, .int .i64 c.c3] 29 := by
        have := G18.out
        rw [cpyN_full (l := [c.c0, c.c1, c.c2, c.c3]) (n := 4) rfl] at this
        exact this
      have HE3 := Lib.hid (Ext.calm_trans HE2.out HK3.out (fun g hg => by have := HN.out; simp at hg; omega))
      have U15 := Lib.hid h15
      have U16 := Lib.hid h16
      have U17 := Lib.hid h17
      have U18 := Lib.hid h18
      clear h15 h16 h17 h18 G15 G16 G17 G18 HK3 H8 H9 H10 H15 H16 H17 H18 wM wP wC HE2
      go_wp2_with fail
      refine (program_any false _ _ sl (hS.out.ext HE3.out) l0).mono ?_
      rintro e w4 ⟨v4, xs, rfl, o4, hok4, hxl, hck4, x4⟩
      have hx20 : xs.length ≤ 20 := by omega
      obtain ⟨ao4, cc4, rfl, -, -⟩ := o4.slice
      have HO4 := Lib.hid o4
      have HOK4 := Lib.hid hok4
      have HCK4 := Lib.hid hck4
      have HE4 := Lib.hid (HE3.out.trans x4)
      have HB4 := Lib.hid x4
      clear hxl o4 hok4 hck4 x4
      go_wp2_with fail
      refine (program_any true _ _ sl (hS.out.ext HE4.out) l0).mono ?_
      rintro e w5 ⟨v5, ys, rfl, o5, hok5, hyl, hck5, x5⟩
      have hy20 : ys.length ≤ 20 := by omega
      obtain ⟨ao5, cc5, rfl, -, -⟩ := o5.slice
      have HA5 := Lib.hid (HO4.out.ext x5)
      have HO5 := Lib.hid o5
      have HOK5 := Lib.hid hok5
      have HCK5 := Lib.hid hck5
      have HE5 := Lib.hid (HE4.out.trans x5)
      have HB5 := Lib.hid (HB4.out.trans x5)
      clear hyl o5 hok5 hck5 x5 HE4 HB4 HO4 hS
      have c15 := (U15.out.ext HB5.out).cell
      have c17 := (U17.out.ext HB5.out).cell
      have c18 := (U18.out.ext HB5.out).cell
      go_wp2_with fail
      refine (place_any w5 _ xs HA5.out.parr HOK4.out (by omega) p c m0 m1 m2 m3 Qb0.out Qb1.out Qb2.out Qb3.out Qg0.out Qg1.out Qg2.out Qg3.out Qd00.out Qd01.out Qd02.out Qd03.out Qd10.out Qd11.out Qd12.out Qd13.out Qd20.out Qd21.out Qd22.out Qd23.out Qd30.out Qd31.out Qd32.out Qd33.out).mono ?_
      rintro e w6 ⟨rfl, x6⟩
      have hrn : runV xs (placeR p c m0 m1 m2 m3) = run xs 0 xs.length (st0 (placeR p c m0 m1 m2 m3)) := by unfold runV; rw [if_pos (chk_more HCK4.out)]
      obtain ⟨s1, hs1⟩ : ∃ s1, run xs 0 xs.length (st0 (placeR p c m0 m1 m2 m3)) = s1 := ⟨_, rfl⟩
      rw [hrn, hs1]
      have HS1 := Lib.hid hs1
      have B23 := (Blk.new w6 #[.int .i64 ((regAt s1.rs 0).lim (-4194304) 4194304).c0, .int .i64 ((regAt s1.rs 0).lim (-4194304) 4194304).c1, .int .i64 ((regAt s1.rs 0).lim (-4194304) 4194304).c2, .int .i64 ((regAt s1.rs 0).lim (-4194304) 4194304).c3] 29).alloc (.cells #[.int .i64 ((regAt s1.rs 1).lim 0 65536).c0, .int .i64 ((regAt s1.rs 1).lim 0 65536).c1, .int .i64 ((regAt s1.rs 1).lim 0 65536).c2, .int .i64 ((regAt s1.rs 1).lim 0 65536).c3] 29)
      have B24 := Blk.new' (w := w6.alloc (.cells #[.int .i64 ((regAt s1.rs 0).lim (-4194304) 4194304).c0, .int .i64 ((regAt s1.rs 0).lim (-4194304) 4194304).c1, .int .i64 ((regAt s1.rs 0).lim (-4194304) 4194304).c2, .int .i64 ((regAt s1.rs 0).lim (-4194304) 4194304).c3] 29)) (b := w6.heap.size + 1) (by simp) #[.int .i64 ((regAt s1.rs 1).lim 0 65536).c0, .int .i64 ((regAt s1.rs 1).lim 0 65536).c1, .int .i64 ((regAt s1.rs 1).lim 0 65536).c2, .int .i64 ((regAt s1.rs 1).lim 0 65536).c3] 29
      have E7 := (x6.alloc #[.int .i64 ((regAt s1.rs 0).lim (-4194304) 4194304).c0, .int .i64 ((regAt s1.rs 0).lim (-4194304) 4194304).c1, .int .i64 ((regAt s1.rs 0).lim (-4194304) 4194304).c2, .int .i64 ((regAt s1.rs 0).lim (-4194304) 4194304).c3] 29).alloc #[.int .i64 ((regAt s1.rs 1).lim 0 65536).c0, .int .i64 ((regAt s1.rs 1).lim 0 65536).c1, .int .i64 ((regAt s1.rs 1).lim 0 65536).c2, .int .i64 ((regAt s1.rs 1).lim 0 65536).c3] 29
      have HB23 := Lib.hid B23
      have HB24 := Lib.hid B24
      have HX7 := Lib.hid E7
      clear x6 hrn hs1 B23 B24 E7 c15 c17 c18
      go_upto_region 21 with fail
      generalize (w6.alloc (.cells #[.int .i64 ((regAt s1.rs 0).lim (-4194304) 4194304).c0, .int .i64 ((regAt s1.rs 0).lim (-4194304) 4194304).c1, .int .i64 ((regAt s1.rs 0).lim (-4194304) 4194304).c2, .int .i64 ((regAt s1.rs 0).lim (-4194304) 4194304).c3] 29)).alloc (.cells #[.int .i64 ((regAt s1.rs 1).lim 0 65536).c0, .int .i64 ((regAt s1.rs 1).lim 0 65536).c1, .int .i64 ((regAt s1.rs 1).lim 0 65536).c2, .int .i64 ((regAt s1.rs 1).lim 0 65536).c3] 29) = w7 at *
      have HB7 := Lib.hid (HB5.out.trans HX7.out)
      have HE7 := Lib.hid (HE5.out.trans HX7.out)
      refine pl_r21 _ _ _ _ _ _ _ _ _ _ _ _ _ _ _ _ _ _ _ _ _ _ _ _ _ _ _ _ _ _ _ _ _ _ _ _ _ _ _ _ _ _ _ _ _ _ _ _ _ _ _ _ _ _ _ _ _ _ _ _ _ _ _ _ _ _ _ _ _ _ _ _ _ _ _ _ _ _ _ _ _ _ _ _ _ _ _ _ _ _ _ _ _ _ _ _ _ _ _ _ _ _ _ _ _ _ _ _ _ _ _ _ _ _ _ _ _ _ _ _ _ _ _ _ _ _ _ _ _ _ _ _ _ _ _ _ _ _ _ _ _ _ _ _ _ _ _ _ _ _ _ _ _ _ (k + 1) (k + 1 + 1) (k + 1 + 1 + 1) _ _ _ _ xs s1 p c m0 m1 m2 m3 Qb0.out Qb1.out Qb2.out Qb3.out Qg0.out Qg1.out Qg2.out Qg3.out Qd00.out Qd01.out Qd02.out Qd03.out Qd10.out Qd11.out Qd12.out Qd13.out Qd20.out Qd21.out Qd22.out Qd23.out Qd30.out Qd31.out Qd32.out Qd33.out HCK4.out HS1.out w7 (HA5.out.ext HX7.out) HOK4.out hx20 (U16.out.ext HB7.out) (U17.out.ext HB7.out) (U18.out.ext HB7.out) ?_
      rintro g_0 g_1 g_2 g_3 g_4 g_5 g_6 g_7 g_8 w8 g25 g26 ⟨B25, B26, x8⟩
      have HB25 := Lib.hid B25
      have HB26 := Lib.hid B26
      have HB238 := Lib.hid (HB23.out.ext x8)
      have HB248 := Lib.hid (HB24.out.ext x8)
      have HB8 := Lib.hid (HB7.out.trans x8)
      have HE8 := Lib.hid (HE7.out.trans x8)
      have HO8 := Lib.hid ((HO5.out.ext HX7.out).ext x8)
      clear B25 B26 x8 HB23 HB24 HB7 HE7 HX7 HE5 HB5 HO5 HA5
      obtain ⟨X, hX⟩ : ∃ X, tx % 64 = X := ⟨_, rfl⟩
      obtain ⟨Y, hY⟩ : ∃ Y, ty % 64 = Y := ⟨_, rfl⟩
      have hX1 : 0 ≤ X ∧ X ≤ 63 := by omega
      have hY1 : 0 ≤ Y ∧ Y ≤ 63 := by omega
      have c18 := (U18.out.ext HB8.out).cell
      go_wp2_with fail
      refine (shade_any w8 _ ys HO8.out.parr HOK5.out (by omega) c Qg0.out Qg1.out Qg2.out Qg3.out X Y d (by omega) (by omega) (by omega)).mono ?_
      rintro e w9 ⟨rfl, x9⟩
      have hrn : runV ys (shadeR c X Y d) = run ys 0 ys.length ⟨(shadeL c X Y d).map clampZ, false, false, 0⟩ := by
        unfold runV
        rw [if_pos HCK5.out, shade_same c X Y d hX1 hY1 hd]
        rfl
      have hfu : (runV ys (shadeR c X Y d)).steps ≤ fuelL ys := by
        unfold runV
        rw [if_pos HCK5.out]
        have := run_fuel_bound HOK5.out (chk_zero HCK5.out).2.1 (ys.length - 0) (st0 (shadeR c X Y d))
        unfold run
        have h0 : (st0 (shadeR c X Y d)).steps = 0 := rfl
        omega
      rw [hrn] at hfu ⊢
      obtain ⟨s2, hs2⟩ : ∃ s2, run ys 0 ys.length ⟨(shadeL c X Y d).map clampZ, false, false, 0⟩ = s2 := ⟨_, rfl⟩
      rw [hs2] at hfu ⊢
      have HS2 := Lib.hid hs2
      have HFU := Lib.hid hfu
      obtain ⟨vn, hvn⟩ : ∃ vn, (regAt s2.rs 0).lim 0 65536 = vn := ⟨_, rfl⟩
      rw [hvn]
      have HVN := Lib.hid hvn
      have B27 := Blk.new w9 #[.int .i64 vn.c0, .int .i64 vn.c1, .int .i64 vn.c2, .int .i64 vn.c3] 29
      have E10 := x9.alloc #[.int .i64 vn.c0, .int .i64 vn.c1, .int .i64 vn.c2, .int .i64 vn.c3] 29
      have HB27 := Lib.hid B27
      have HX10 := Lib.hid E10
      clear x9 hrn hfu hs2 hvn B27 E10 c18
      go_upto_region 23 with fail
      generalize w9.alloc (.cells #[.int .i64 vn.c0, .int .i64 vn.c1, .int .i64 vn.c2, .int .i64 vn.c3] 29) = w10 at *
      have HB10 := Lib.hid (HB8.out.trans HX10.out)
      have HE10 := Lib.hid (HE8.out.trans HX10.out)
      refine pl_r23 _ _ _ _ _ _ _ _ _ _ _ _ _ _ _ _ _ _ _ _ _ _ _ _ _ _ _ _ _ _ _ _ _ _ _ _ _ _ _ _ _ _ _ _ _ _ _ _ _ _ _ _ _ _ _ _ _ _ _ _ _ _ _ _ _ _ _ _ _ _ _ _ _ _ _ _ _ _ _ _ _ _ _ _ _ _ _ _ _ _ _ _ _ _ _ _ _ _ _ _ _ _ _ _ _ _ _ _ _ _ _ _ _ _ _ _ _ _ _ _ _ _ _ _ _ _ _ _ _ _ _ _ _ _ _ _ _ _ _ _ _ _ _ _ _ _ _ _ _ _ _ _ _ (k + 1 + 1 + 1) _ _ _ _ ys s2 c tx ty X Y d hx hy hd hX hY HCK5.out HS2.out w10 (HO8.out.ext HX10.out) HOK5.out hy20 (U18.out.ext HB10.out) ?_
      rintro g_0 g_1 g_2 g_3 g_4 g_5 g_6 g_7 g_8 g_9 g_10 g_11 g_12 g_13 g_14 w11 g30 ⟨B30, x11⟩
      rw [HVN.out] at B30
      have HB30 := Lib.hid B30
      have HB11 := Lib.hid (HB10.out.trans x11)
      have HE11 := Lib.hid (HE10.out.trans x11)
      have HX11 := Lib.hid (HX10.out.trans x11)
      have HB2711 := Lib.hid (HB27.out.ext x11)
      clear B30 x11 HB27
      go_wp2_with fail
      refine pl_r24 _ _ _ _ _ _ _ _ _ _ _ _ _ _ _ _ _ _ _ _ _ _ _ _ _ _ _ _ _ _ _ _ _ _ _ _ _ _ _ _ _ _ _ _ _ _ _ _ _ _ _ _ _ _ _ _ _ _ _ _ _ _ _ _ _ _ _ _ _ _ _ _ _ _ _ _ _ _ _ _ _ _ _ _ _ _ _ _ _ _ _ _ _ _ _ _ _ _ _ _ _ _ _ _ _ _ _ _ _ _ _ _ _ _ _ _ _ _ _ _ _ _ _ _ _ _ _ _ _ _ _ _ _ _ _ _ _ _ _ _ _ _ _ _ _ _ _ _ _ _ _ _ g25 g26 _ g30 (k + 1 + 1 + 1) s2.gone s2.steps ys ((regAt s1.rs 0).lim (-4194304) 4194304) ((regAt s1.rs 1).lim 0 65536) vn c Qg0.out Qg1.out Qg2.out Qg3.out w11 (HO8.out.ext HX11.out).parr HOK5.out (by omega) (HB238.out.ext HX11.out) (HB248.out.ext HX11.out) (HB25.out.ext HX11.out) (HB26.out.ext HX11.out) HB2711.out HB30.out (U18.out.ext HB11.out) HFU.out ?_
      rintro g_0 g_1 g_2 g_3 g_4 g_5 g_6 g_7 g_8 g_9 g_10 g_11 g_12 g_13 g_14 g_15 g_16 g_17 g_18 g_19 g_20 g_21 g_22 g_23 g_24 g_25 g_26 g_27 g_28 g_29 g_30 w12 x12
      have HE12 := Lib.hid (HE11.out.trans x12)
      clear x12
      go_wp2
      go_ret
      exact ⟨rfl, HE12.out⟩
theorem vmPlaces_row {w : World} (u : Value) (sl : List Sm) (m0 m1 m2 m3 m4 m5 m6 m7 m8 m9 m10 m11 m12 m13 m14 m15 p0 p1 p2 p3 c0 c1 c2 c3 tx ty d : Int) (h0 : SArr w u sl) (hm0 : -2147483648 ≤ m0 ∧ m0 ≤ 2147483647) (hm1 : -2147483648 ≤ m1 ∧ m1 ≤ 2147483647) (hm2 : -2147483648 ≤ m2 ∧ m2 ≤ 2147483647) (hm3 : -2147483648 ≤ m3 ∧ m3 ≤ 2147483647) (hm4 : -2147483648 ≤ m4 ∧ m4 ≤ 2147483647) (hm5 : -2147483648 ≤ m5 ∧ m5 ≤ 2147483647) (hm6 : -2147483648 ≤ m6 ∧ m6 ≤ 2147483647) (hm7 : -2147483648 ≤ m7 ∧ m7 ≤ 2147483647) (hm8 : -2147483648 ≤ m8 ∧ m8 ≤ 2147483647) (hm9 : -2147483648 ≤ m9 ∧ m9 ≤ 2147483647) (hm10 : -2147483648 ≤ m10 ∧ m10 ≤ 2147483647) (hm11 : -2147483648 ≤ m11 ∧ m11 ≤ 2147483647) (hm12 : -2147483648 ≤ m12 ∧ m12 ≤ 2147483647) (hm13 : -2147483648 ≤ m13 ∧ m13 ≤ 2147483647) (hm14 : -2147483648 ≤ m14 ∧ m14 ≤ 2147483647) (hm15 : -2147483648 ≤ m15 ∧ m15 ≤ 2147483647) (hp0 : -2147483648 ≤ p0 ∧ p0 ≤ 2147483647) (hp1 : -2147483648 ≤ p1 ∧ p1 ≤ 2147483647) (hp2 : -2147483648 ≤ p2 ∧ p2 ≤ 2147483647) (hp3 : -2147483648 ≤ p3 ∧ p3 ≤ 2147483647) (hc0 : -2147483648 ≤ c0 ∧ c0 ≤ 2147483647) (hc1 : -2147483648 ≤ c1 ∧ c1 ≤ 2147483647) (hc2 : -2147483648 ≤ c2 ∧ c2 ≤ 2147483647) (hc3 : -2147483648 ≤ c3 ∧ c3 ≤ 2147483647) (hx : 0 ≤ tx ∧ tx ≤ 65535) (hy : 0 ≤ ty ∧ ty ≤ 65535) (hd : 0 ≤ d ∧ d ≤ 65535) :
    Calls Try.prog 4 #[u, .agg #[.int .i32 m0, .int .i32 m1, .int .i32 m2, .int .i32 m3, .int .i32 m4, .int .i32 m5, .int .i32 m6, .int .i32 m7, .int .i32 m8, .int .i32 m9, .int .i32 m10, .int .i32 m11, .int .i32 m12, .int .i32 m13, .int .i32 m14, .int .i32 m15], .agg #[.int .i32 p0, .int .i32 p1, .int .i32 p2, .int .i32 p3], .agg #[.int .i32 c0, .int .i32 c1, .int .i32 c2, .int .i32 c3], .int .u16 tx, .int .u16 ty, .int .u16 d] w fun e w' => e = .returned (.bool true) ∧ Ext w w' := by
  by_cases l0 : sl.length ≤ 40
  · exact vmPlaces_main u sl ⟨m0, m1, m2, m3⟩ ⟨m4, m5, m6, m7⟩ ⟨m8, m9, m10, m11⟩ ⟨m12, m13, m14, m15⟩ ⟨p0, p1, p2, p3⟩ ⟨c0, c1, c2, c3⟩ tx ty d h0 hm0 hm1 hm2 hm3 hm4 hm5 hm6 hm7 hm8 hm9 hm10 hm11 hm12 hm13 hm14 hm15 hp0 hp1 hp2 hp3 hc0 hc1 hc2 hc3 hx hy hd l0
  · obtain ⟨⟨a0, cc0, rfl, -⟩, -, -⟩ := h0
    have hb : 40 < (sl.length : Int) := by omega
    go_enter Try.func4, Try.ntmps4
    go_wp2_with fail
    refine (awake8_any _).mono ?_
    rintro e w1 ⟨rfl, x1⟩
    have e1 := Ext.trans ((((Ext.refl w).alloc _ _).alloc _ _).alloc _ _) x1
    clear x1
    go_wp2
    go_ret
    exact ⟨rfl, e1⟩
end Go.Proofs.Ytellfhnfifgpoaa

