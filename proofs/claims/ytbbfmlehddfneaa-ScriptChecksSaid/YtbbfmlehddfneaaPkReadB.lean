/-
  DERIVED. Layer 11 (script): Take: a script, walked (made by mkscrtake.py).
-/
import Derived.Test.YtbbfmlehddfneaaPkRead
import Derived.Test.YtbbfmlehddfneaaPkChk
namespace Go.Proofs.Ytbbfmlehddfneaa
open Go.RowKit
set_option linter.unusedVariables false
theorem four_ok {a b c d : Int} (h : I64 a ∧ I64 b ∧ I64 c ∧ I64 d) : ∀ y ∈ [a, b, c, d], I64 y := fun y hy => by
  simp only [List.mem_cons, List.not_mem_nil, or_false] at hy
  obtain ⟨h1, h2, h3, h4⟩ := h
  rcases hy with rfl | rfl | rfl | rfl <;> assumption
set_option maxRecDepth 100000 in
set_option maxHeartbeats 4000000 in
theorem decoded_any (w : World) (base p : Nat) (l : List Int) (k : Nat) (err : Int) (F : List Nat) (h : Rdr w base p l k err F) : Calls Try.prog 21 #[.pointer (some ⟨p, 0, none⟩)] w fun e w' => ∃ (s : ScrM) (x : Scr) (k' : Nat) (err' : Int), e = .returned (.agg s.l.toArray) ∧ ScrAt w' w.heap.size s x ∧ x.rd0 ∧ Rdr w' base p l k' err' F ∧ Calm F w w' ∧ Rd encR Scr.rd l k err x k' err' := by
  have hF := h.lt
  have hn0 : w.heap.size ∉ F := fun hh => by have := (hF _ hh).2; omega
  have x1 := (Ext.refl w).alloc #[.int .i64 0, .int .i64 0, .int .i64 0, .int .i64 0, .int .i64 0, .int .i64 0, .int .i64 0, .int .i64 0, .int .i64 0, .int .i64 0, .int .i64 0, .int .i64 0, .int .i64 0, .int .i64 0, .int .i64 0, .int .i64 0, .int .i64 0, .int .i64 0, .slice none 0 0, .slice none 0 0, .slice none 0 0, .slice none 0 0] 42
  have R1 := h.ext x1
  have c1 : Calm F w _ := x1.calm F
  have hz1 := x1.size
  go_enter Try.func21, Try.ntmps21
  go_upto_region 1 with fail
  have B1 := Blk.new w #[.int .i64 0, .int .i64 0, .int .i64 0, .int .i64 0, .int .i64 0, .int .i64 0, .int .i64 0, .int .i64 0, .int .i64 0, .int .i64 0, .int .i64 0, .int .i64 0, .int .i64 0, .int .i64 0, .int .i64 0, .int .i64 0, .int .i64 0, .int .i64 0, .slice none 0 0, .slice none 0 0, .slice none 0 0, .slice none 0 0] 42
  generalize w.alloc (.cells #[.int .i64 0, .int .i64 0, .int .i64 0, .int .i64 0, .int .i64 0, .int .i64 0, .int .i64 0, .int .i64 0, .int .i64 0, .int .i64 0, .int .i64 0, .int .i64 0, .int .i64 0, .int .i64 0, .int .i64 0, .int .i64 0, .int .i64 0, .int .i64 0, .slice none 0 0, .slice none 0 0, .slice none 0 0, .slice none 0 0] 42) = w1 at *
  generalize hb0 : w.heap.size = b0 at *
  have hb1 := B1.lt
  clear h x1
  go_wp2_with fail
  refine (rd_cntG 9223372036854775807 (by omega) _ _ _ _ _ _ _ R1).mono ?_
  rintro e w2 ⟨nW, k2, e2, rfl, hnW, R2, c12, r2⟩
  have B2 := B1.calm c12 hn0
  have c2 := c1.trans c12
  clear B1 R1 c1 c12
  go_wp2_with fail
  refine (rd_cntG 9223372036854775807 (by omega) _ _ _ _ _ _ _ R2).mono ?_
  rintro e w3 ⟨nH, k3, e3, rfl, hnH, R3, c23, r3⟩
  have B3 := B2.calm c23 hn0
  have c3 := c2.trans c23
  have hz3 := B3.lt
  clear B2 R2 c2 c23
  have Bz := Blk.new w3 #[.int .i64 0, .int .i64 0, .int .i64 0, .int .i64 0, .int .i64 0, .int .i64 0, .int .i64 0, .int .i64 0, .int .i64 0, .int .i64 0, .int .i64 0, .int .i64 0, .int .i64 0, .int .i64 0, .int .i64 0, .int .i64 0, .int .i64 0, .int .i64 0, .slice none 0 0, .slice none 0 0, .slice none 0 0, .slice none 0 0] 42
  have D4 := Bz.setRow #[.int .i64 (nW : Int), .int .i64 (nH : Int), .int .i64 0, .int .i64 0, .int .i64 0, .int .i64 0, .int .i64 0, .int .i64 0, .int .i64 0, .int .i64 0, .int .i64 0, .int .i64 0, .int .i64 0, .int .i64 0, .int .i64 0, .int .i64 0, .int .i64 0, .int .i64 0, .slice none 0 0, .slice none 0 0, .slice none 0 0, .slice none 0 0]
  have y4 : Ext w3 ((w3.alloc (.cells #[.int .i64 0, .int .i64 0, .int .i64 0, .int .i64 0, .int .i64 0, .int .i64 0, .int .i64 0, .int .i64 0, .int .i64 0, .int .i64 0, .int .i64 0, .int .i64 0, .int .i64 0, .int .i64 0, .int .i64 0, .int .i64 0, .int .i64 0, .int .i64 0, .slice none 0 0, .slice none 0 0, .slice none 0 0, .slice none 0 0] 42)).setRow w3.heap.size #[.int .i64 (nW : Int), .int .i64 (nH : Int), .int .i64 0, .int .i64 0, .int .i64 0, .int .i64 0, .int .i64 0, .int .i64 0, .int .i64 0, .int .i64 0, .int .i64 0, .int .i64 0, .int .i64 0, .int .i64 0, .int .i64 0, .int .i64 0, .int .i64 0, .int .i64 0, .slice none 0 0, .slice none 0 0, .slice none 0 0, .slice none 0 0]) := ((Ext.refl w3).alloc _ _).setRow (Nat.le_refl _) _
  have B4 := B3.ext y4
  have R4 := R3.ext y4
  have c4 := c3.trans (y4.calm F)
  have hn3 : w3.heap.size ∉ F := fun hh => by have := (hF _ hh).2; omega
  clear R3 c3 B3
  go_upto_region 2 with (first
    | ((with_reducible refine wpList_store_blk (op := ⟨none, .store 42 (.tmp 3) (.tmp 9), _, _, _, _⟩) ?_ 42 (.tmp 3) (.tmp 9) ?_ w3.heap.size ?_ (cs := #[.int .i64 (nW : Int), .int .i64 (nH : Int), .int .i64 0, .int .i64 0, .int .i64 0, .int .i64 0, .int .i64 0, .int .i64 0, .int .i64 0, .int .i64 0, .int .i64 0, .int .i64 0, .int .i64 0, .int .i64 0, .int .i64 0, .int .i64 0, .int .i64 0, .int .i64 0, .slice none 0 0, .slice none 0 0, .slice none 0 0, .slice none 0 0]) ?_ (z := #[.int .i64 0, .int .i64 0, .int .i64 0, .int .i64 0, .int .i64 0, .int .i64 0, .int .i64 0, .int .i64 0, .int .i64 0, .int .i64 0, .int .i64 0, .int .i64 0, .int .i64 0, .int .i64 0, .int .i64 0, .int .i64 0, .int .i64 0, .int .i64 0, .slice none 0 0, .slice none 0 0, .slice none 0 0, .slice none 0 0]) (T := 42) ?_ ?_ ?_ ?_ ?_); rfl; rfl; rfl; rfl; exact Bz; kernel_rfl; kernel_rfl; kernel_rfl)
    | fail)
  clear Bz y4
  generalize (w3.alloc (.cells #[.int .i64 0, .int .i64 0, .int .i64 0, .int .i64 0, .int .i64 0, .int .i64 0, .int .i64 0, .int .i64 0, .int .i64 0, .int .i64 0, .int .i64 0, .int .i64 0, .int .i64 0, .int .i64 0, .int .i64 0, .int .i64 0, .int .i64 0, .int .i64 0, .slice none 0 0, .slice none 0 0, .slice none 0 0, .slice none 0 0] 42)).setRow w3.heap.size #[.int .i64 (nW : Int), .int .i64 (nH : Int), .int .i64 0, .int .i64 0, .int .i64 0, .int .i64 0, .int .i64 0, .int .i64 0, .int .i64 0, .int .i64 0, .int .i64 0, .int .i64 0, .int .i64 0, .int .i64 0, .int .i64 0, .int .i64 0, .int .i64 0, .int .i64 0, .slice none 0 0, .slice none 0 0, .slice none 0 0, .slice none 0 0] = w4 at *
  generalize hb3 : w3.heap.size = b3 at *
  have hb03 : b0 ≠ b3 := by omega
  have HW := Lib.hid r2
  have HH := Lib.hid r3
  clear r2 r3
  have d4 : Rd (fun xs : List Int => xs.flatMap encZ) (PN I64 0) l k3 e3 [] k3 e3 := Rd.none
  have m4 : ∀ y ∈ ([] : List Int), I64 y := by simp
  go_wp2_with fail
  refine wp_loop_rounds 5 ?_
  rw [rounds_succ]
  go_wp2_with fail
  refine (decVec_any _ _ _ _ _ _ _ R4).mono ?_
  rintro e v5 ⟨ma0, ma1, ma2, ma3, k5, e5, rfl, i5, Q5, c45, r5⟩
  have d5 : Rd (fun xs : List Int => xs.flatMap encZ) (PN I64 4) l k3 e3 [ma0, ma1, ma2, ma3] k5 e5 := d4.cat pf_z64 r5
  have m5 : ∀ y ∈ [ma0, ma1, ma2, ma3], I64 y := fun y hy => (List.mem_append.1 (show y ∈ [] ++ [ma0, ma1, ma2, ma3] from hy)).elim (m4 y) (four_ok i5 y)
  have E5 := D4.calm c45 hn3
  have cE5 := E5.cell
  have fE5 := E5.frozen
  have D5 : Blk ((((v5.setCell ⟨b3, 2, none⟩ (.int .i64 ma0)).setCell ⟨b3, 3, none⟩ (.int .i64 ma1)).setCell ⟨b3, 4, none⟩ (.int .i64 ma2)).setCell ⟨b3, 5, none⟩ (.int .i64 ma3)) b3 #[.int .i64 (nW : Int), .int .i64 (nH : Int), .int .i64 ma0, .int .i64 ma1, .int .i64 ma2, .int .i64 ma3, .int .i64 0, .int .i64 0, .int .i64 0, .int .i64 0, .int .i64 0, .int .i64 0, .int .i64 0, .int .i64 0, .int .i64 0, .int .i64 0, .int .i64 0, .int .i64 0, .slice none 0 0, .slice none 0 0, .slice none 0 0, .slice none 0 0] 42 := by simpa using (((E5.set 2 (.int .i64 ma0)).set 3 (.int .i64 ma1)).set 4 (.int .i64 ma2)).set 5 (.int .i64 ma3)
  have kS5 : Calm [b3] v5 ((((v5.setCell ⟨b3, 2, none⟩ (.int .i64 ma0)).setCell ⟨b3, 3, none⟩ (.int .i64 ma1)).setCell ⟨b3, 4, none⟩ (.int .i64 ma2)).setCell ⟨b3, 5, none⟩ (.int .i64 ma3)) := (((calm_setP _ _ _ _).trans (calm_setP _ _ _ _)).trans (calm_setP _ _ _ _)).trans (calm_setP _ _ _ _)
  have B5 := (B4.calm c45 hn0).calm kS5 (by simp; omega)
  have R5 := Q5.kept kS5 (fun b hb hin => hn3 (by simp at hin; rw [← hin]; exact hb))
  have c5 : Calm F w _ := calm_new c4 c45 kS5 (by omega)
  clear D4 B4 R4 c4 E5 Q5 c45 r5 d4 m4 kS5
  go_wp2
  clear cE5 fE5
  generalize ((((v5.setCell ⟨b3, 2, none⟩ (.int .i64 ma0)).setCell ⟨b3, 3, none⟩ (.int .i64 ma1)).setCell ⟨b3, 4, none⟩ (.int .i64 ma2)).setCell ⟨b3, 5, none⟩ (.int .i64 ma3)) = w5 at *
  rw [rounds_succ]
  go_wp2_with fail
  refine (decVec_any _ _ _ _ _ _ _ R5).mono ?_
  rintro e v6 ⟨ma4, ma5, ma6, ma7, k6, e6, rfl, i6, Q6, c56, r6⟩
  have d6 : Rd (fun xs : List Int => xs.flatMap encZ) (PN I64 8) l k3 e3 [ma0, ma1, ma2, ma3, ma4, ma5, ma6, ma7] k6 e6 := d5.cat pf_z64 r6
  have m6 : ∀ y ∈ [ma0, ma1, ma2, ma3, ma4, ma5, ma6, ma7], I64 y := fun y hy => (List.mem_append.1 (show y ∈ [ma0, ma1, ma2, ma3] ++ [ma4, ma5, ma6, ma7] from hy)).elim (m5 y) (four_ok i6 y)
  have E6 := D5.calm c56 hn3
  have cE6 := E6.cell
  have fE6 := E6.frozen
  have D6 : Blk ((((v6.setCell ⟨b3, 6, none⟩ (.int .i64 ma4)).setCell ⟨b3, 7, none⟩ (.int .i64 ma5)).setCell ⟨b3, 8, none⟩ (.int .i64 ma6)).setCell ⟨b3, 9, none⟩ (.int .i64 ma7)) b3 #[.int .i64 (nW : Int), .int .i64 (nH : Int), .int .i64 ma0, .int .i64 ma1, .int .i64 ma2, .int .i64 ma3, .int .i64 ma4, .int .i64 ma5, .int .i64 ma6, .int .i64 ma7, .int .i64 0, .int .i64 0, .int .i64 0, .int .i64 0, .int .i64 0, .int .i64 0, .int .i64 0, .int .i64 0, .slice none 0 0, .slice none 0 0, .slice none 0 0, .slice none 0 0] 42 := by simpa using (((E6.set 6 (.int .i64 ma4)).set 7 (.int .i64 ma5)).set 8 (.int .i64 ma6)).set 9 (.int .i64 ma7)
  have kS6 : Calm [b3] v6 ((((v6.setCell ⟨b3, 6, none⟩ (.int .i64 ma4)).setCell ⟨b3, 7, none⟩ (.int .i64 ma5)).setCell ⟨b3, 8, none⟩ (.int .i64 ma6)).setCell ⟨b3, 9, none⟩ (.int .i64 ma7)) := (((calm_setP _ _ _ _).trans (calm_setP _ _ _ _)).trans (calm_setP _ _ _ _)).trans (calm_setP _ _ _ _)
  have B6 := (B5.calm c56 hn0).calm kS6 (by simp; omega)
  have R6 := Q6.kept kS6 (fun b hb hin => hn3 (by simp at hin; rw [← hin]; exact hb))
  have c6 : Calm F w _ := calm_new c5 c56 kS6 (by omega)
  clear D5 B5 R5 c5 E6 Q6 c56 r6 d5 m5 kS6
  go_wp2
  clear cE6 fE6
  generalize ((((v6.setCell ⟨b3, 6, none⟩ (.int .i64 ma4)).setCell ⟨b3, 7, none⟩ (.int .i64 ma5)).setCell ⟨b3, 8, none⟩ (.int .i64 ma6)).setCell ⟨b3, 9, none⟩ (.int .i64 ma7)) = w6 at *
  rw [rounds_succ]
  go_wp2_with fail
  refine (decVec_any _ _ _ _ _ _ _ R6).mono ?_
  rintro e v7 ⟨ma8, ma9, ma10, ma11, k7, e7, rfl, i7, Q7, c67, r7⟩
  have d7 : Rd (fun xs : List Int => xs.flatMap encZ) (PN I64 12) l k3 e3 [ma0, ma1, ma2, ma3, ma4, ma5, ma6, ma7, ma8, ma9, ma10, ma11] k7 e7 := d6.cat pf_z64 r7
  have m7 : ∀ y ∈ [ma0, ma1, ma2, ma3, ma4, ma5, ma6, ma7, ma8, ma9, ma10, ma11], I64 y := fun y hy => (List.mem_append.1 (show y ∈ [ma0, ma1, ma2, ma3, ma4, ma5, ma6, ma7] ++ [ma8, ma9, ma10, ma11] from hy)).elim (m6 y) (four_ok i7 y)
  have E7 := D6.calm c67 hn3
  have cE7 := E7.cell
  have fE7 := E7.frozen
  have D7 : Blk ((((v7.setCell ⟨b3, 10, none⟩ (.int .i64 ma8)).setCell ⟨b3, 11, none⟩ (.int .i64 ma9)).setCell ⟨b3, 12, none⟩ (.int .i64 ma10)).setCell ⟨b3, 13, none⟩ (.int .i64 ma11)) b3 #[.int .i64 (nW : Int), .int .i64 (nH : Int), .int .i64 ma0, .int .i64 ma1, .int .i64 ma2, .int .i64 ma3, .int .i64 ma4, .int .i64 ma5, .int .i64 ma6, .int .i64 ma7, .int .i64 ma8, .int .i64 ma9, .int .i64 ma10, .int .i64 ma11, .int .i64 0, .int .i64 0, .int .i64 0, .int .i64 0, .slice none 0 0, .slice none 0 0, .slice none 0 0, .slice none 0 0] 42 := by simpa using (((E7.set 10 (.int .i64 ma8)).set 11 (.int .i64 ma9)).set 12 (.int .i64 ma10)).set 13 (.int .i64 ma11)
  have kS7 : Calm [b3] v7 ((((v7.setCell ⟨b3, 10, none⟩ (.int .i64 ma8)).setCell ⟨b3, 11, none⟩ (.int .i64 ma9)).setCell ⟨b3, 12, none⟩ (.int .i64 ma10)).setCell ⟨b3, 13, none⟩ (.int .i64 ma11)) := (((calm_setP _ _ _ _).trans (calm_setP _ _ _ _)).trans (calm_setP _ _ _ _)).trans (calm_setP _ _ _ _)
  have B7 := (B6.calm c67 hn0).calm kS7 (by simp; omega)
  have R7 := Q7.kept kS7 (fun b hb hin => hn3 (by simp at hin; rw [← hin]; exact hb))
  have c7 : Calm F w _ := calm_new c6 c67 kS7 (by omega)
  clear D6 B6 R6 c6 E7 Q7 c67 r7 d6 m6 kS7
  go_wp2
  clear cE7 fE7
  generalize ((((v7.setCell ⟨b3, 10, none⟩ (.int .i64 ma8)).setCell ⟨b3, 11, none⟩ (.int .i64 ma9)).setCell ⟨b3, 12, none⟩ (.int .i64 ma10)).setCell ⟨b3, 13, none⟩ (.int .i64 ma11)) = w7 at *
  rw [rounds_succ]
  go_wp2_with fail
  refine (decVec_any _ _ _ _ _ _ _ R7).mono ?_
  rintro e v8 ⟨ma12, ma13, ma14, ma15, k8, e8, rfl, i8, Q8, c78, r8⟩
  have d8 : Rd (fun xs : List Int => xs.flatMap encZ) (PN I64 16) l k3 e3 [ma0, ma1, ma2, ma3, ma4, ma5, ma6, ma7, ma8, ma9, ma10, ma11, ma12, ma13, ma14, ma15] k8 e8 := d7.cat pf_z64 r8
  have m8 : ∀ y ∈ [ma0, ma1, ma2, ma3, ma4, ma5, ma6, ma7, ma8, ma9, ma10, ma11, ma12, ma13, ma14, ma15], I64 y := fun y hy => (List.mem_append.1 (show y ∈ [ma0, ma1, ma2, ma3, ma4, ma5, ma6, ma7, ma8, ma9, ma10, ma11] ++ [ma12, ma13, ma14, ma15] from hy)).elim (m7 y) (four_ok i8 y)
  have E8 := D7.calm c78 hn3
  have cE8 := E8.cell
  have fE8 := E8.frozen
  have D8 : Blk ((((v8.setCell ⟨b3, 14, none⟩ (.int .i64 ma12)).setCell ⟨b3, 15, none⟩ (.int .i64 ma13)).setCell ⟨b3, 16, none⟩ (.int .i64 ma14)).setCell ⟨b3, 17, none⟩ (.int .i64 ma15)) b3 #[.int .i64 (nW : Int), .int .i64 (nH : Int), .int .i64 ma0, .int .i64 ma1, .int .i64 ma2, .int .i64 ma3, .int .i64 ma4, .int .i64 ma5, .int .i64 ma6, .int .i64 ma7, .int .i64 ma8, .int .i64 ma9, .int .i64 ma10, .int .i64 ma11, .int .i64 ma12, .int .i64 ma13, .int .i64 ma14, .int .i64 ma15, .slice none 0 0, .slice none 0 0, .slice none 0 0, .slice none 0 0] 42 := by simpa using (((E8.set 14 (.int .i64 ma12)).set 15 (.int .i64 ma13)).set 16 (.int .i64 ma14)).set 17 (.int .i64 ma15)
  have kS8 : Calm [b3] v8 ((((v8.setCell ⟨b3, 14, none⟩ (.int .i64 ma12)).setCell ⟨b3, 15, none⟩ (.int .i64 ma13)).setCell ⟨b3, 16, none⟩ (.int .i64 ma14)).setCell ⟨b3, 17, none⟩ (.int .i64 ma15)) := (((calm_setP _ _ _ _).trans (calm_setP _ _ _ _)).trans (calm_setP _ _ _ _)).trans (calm_setP _ _ _ _)
  have B8 := (B7.calm c78 hn0).calm kS8 (by simp; omega)
  have R8 := Q8.kept kS8 (fun b hb hin => hn3 (by simp at hin; rw [← hin]; exact hb))
  have c8 : Calm F w _ := calm_new c7 c78 kS8 (by omega)
  clear D7 B7 R7 c7 E8 Q8 c78 r8 d7 m7 kS8
  go_wp2
  clear cE8 fE8
  generalize ((((v8.setCell ⟨b3, 14, none⟩ (.int .i64 ma12)).setCell ⟨b3, 15, none⟩ (.int .i64 ma13)).setCell ⟨b3, 16, none⟩ (.int .i64 ma14)).setCell ⟨b3, 17, none⟩ (.int .i64 ma15)) = w8 at *
  rw [rounds_succ]
  have HMd := Lib.hid d8
  have HMb := Lib.hid m8
  clear d8 m8 i5 i6 i7 i8
  go_wp2_with fail
  refine (rd_cntG 64 (by omega) _ _ _ _ _ _ _ R8).mono ?_
  rintro e w9 ⟨nV, k9, e9, rfl, hnV, R9, c89, r9⟩
  have D9 := D8.calm c89 hn3
  have B9 := B8.calm c89 hn0
  have c9 := c8.trans c89
  have hz9 := D9.lt
  have hnI : (nV : Int) ≤ 64 := by omega
  have HV0 := Lib.hid r9
  clear D8 B8 R8 c8 c89 r9
  go_wp2_with fail
  go_loopg [21] nV (fun n0 iv wx => ∃ (j : Nat) (va : Option Addr) (vc : Nat) (V : List V8) (kj : Nat) (ej : Int), j + n0 = nV ∧ iv = .int .i64 j ∧ V.length = j ∧ (∀ v ∈ V, V8.fit v) ∧ OwnG LV wx (b3 + 1) (.slice va j vc) V ∧ Blk wx b3 #[.int .i64 (nW : Int), .int .i64 (nH : Int), .int .i64 ma0, .int .i64 ma1, .int .i64 ma2, .int .i64 ma3, .int .i64 ma4, .int .i64 ma5, .int .i64 ma6, .int .i64 ma7, .int .i64 ma8, .int .i64 ma9, .int .i64 ma10, .int .i64 ma11, .int .i64 ma12, .int .i64 ma13, .int .i64 ma14, .int .i64 ma15, .slice va j vc, .slice none 0 0, .slice none 0 0, .slice none 0 0] 42 ∧ Blk wx b0 #[.int .i64 0, .int .i64 0, .int .i64 0, .int .i64 0, .int .i64 0, .int .i64 0, .int .i64 0, .int .i64 0, .int .i64 0, .int .i64 0, .int .i64 0, .int .i64 0, .int .i64 0, .int .i64 0, .int .i64 0, .int .i64 0, .int .i64 0, .int .i64 0, .slice none 0 0, .slice none 0 0, .slice none 0 0, .slice none 0 0] 42 ∧ Rdr wx base p l kj ej F ∧ Calm F w wx ∧ Rd (fun V : List V8 => V.flatMap encV) (PN V8.fit j) l k9 e9 V kj ej)
  case atStart => exact ⟨0, none, 0, [], k9, e9, by omega, by simp, rfl, (fun q hq => by simp at hq), OwnG.nil _ _ _, D9, B9, R9, c9, Rd.none⟩
  case round =>
    clear D9 B9 R9 c9 hz9
    obtain ⟨j, va, vc, V, kj, ej, hjk, rfl, hVl, hVf, oI, DJ, KJ, RJ, cJ, dJ⟩ := hrel
    have hzJ := DJ.lt
    have hIl := oI.lt
    by_cases hj : j < nV
    · have hjI : (j : Int) < (nV : Int) := by omega
      have nb : b3 ∉ F ++ (Value.slice va j vc).ownBlock.toList := fun hh => by
        rcases List.mem_append.1 hh with h1 | h1
        · exact hn3 h1
        · have := (hIl _ (Option.mem_toList.1 h1)).1
          omega
      go_upto_region 9 with fail
      apply wp_region_last 8 [false, false, false, true, false, true, true, true, true, false, true] [26, 28, 29, 30, 31] (F ++ (Value.slice va j vc).ownBlock.toList) (b3 :: (F ++ (Value.slice va j vc).ownBlock.toList)) _ (by kernel_rfl) (by kernel_rfl) (by kernel_rfl) (by kernel_rfl)
      case H =>
        intro y0 hy0
        have hne : Nonempty (Wx y0) := ⟨⟨y0, Ext.refl y0⟩⟩
        have q0 := fun (y : Wx y0) => ((DJ.calm hy0 nb).ext y.ext).cell
        simp only [eraseM]
        repeat (go_big_quiet_step (fail))
        exact wpQuiet_nil rfl
      case hF => rfl
      case T =>
        change tailL _ _ _ _ _ [_, _, _, _, _, _] _ _
        refine fun u x0 hc => gives_enter (f := 38) (args := #[.pointer (some ⟨p, 0, none⟩)]) (by simp [go_sem]) (decVec_any u _ _ _ _ _ _ (RJ.ext x0)) ?_
        rintro e v6 ⟨p0, p1, p2, p3, k6, e6, rfl, i6, R6, c6, r6⟩
        have hc6 := hc.trans (c6.sub (fun b hb => List.mem_append_left _ hb))
        refine ⟨_, rfl, hc6.sub (fun b hb => List.mem_cons_of_mem _ hb), fun _ => hc6, fun u1 y1 hd1 => ?_⟩
        refine gives_enter (f := 38) (args := #[.pointer (some ⟨p, 0, none⟩)]) (by simp [go_sem]) (decVec_any u1 _ _ _ _ _ _ (R6.ext y1)) ?_
        rintro e v7 ⟨q0, q1, q2, q3, k7, e7, rfl, i7, R7, c7, r7⟩
        have dK := dJ.snoc pf_vf (vert_rd r6 r7 i6 i7)
        have hc7 := hd1.trans (c7.sub (fun b hb => List.mem_append_left _ hb))
        refine ⟨_, rfl, hc7.sub (fun b hb => List.mem_cons_of_mem _ hb), fun _ => hc7, fun u2 x2 hc2 => ?_⟩
        refine gives_value (u' := u2) (v := .agg (V8.l ⟨p0, p1, p2, p3, q0, q1, q2, q3⟩).toArray) (by simp [go_sem]) ⟨hc2.sub (fun b hb => List.mem_cons_of_mem _ hb), fun _ => hc2, fun u3 x3 hc3 => ?_⟩
        have K3 := hc3.trans (((Ext.refl u3).alloc (V8.l ⟨p0, p1, p2, p3, q0, q1, q2, q3⟩).toArray 69).calm _)
        refine gives_value (u' := u3.alloc (.cells (V8.l ⟨p0, p1, p2, p3, q0, q1, q2, q3⟩).toArray 69)) (v := .slice (some ⟨u3.heap.size, 0, none⟩) 1 1) (by simp [go_sem]) ⟨K3.sub (fun b hb => List.mem_cons_of_mem _ hb), fun _ => K3, fun u4 x4 hc4 => ?_⟩
        have hdis : ∀ k, (Value.slice va j vc).ownBlock = some k → k ∉ F := fun k hk hin => by have := (hIl k hk).1; have := (hF k hin).2; omega
        have o1 := (((oI.ext x0).calm c6 hdis).ext y1).calm c7 hdis
        have o4 := (o1.ext x2).ext ((x3.alloc (V8.l ⟨p0, p1, p2, p3, q0, q1, q2, q3⟩).toArray 69).trans x4)
        have hcn : ∀ i t, (LV.cells ⟨p0, p1, p2, p3, q0, q1, q2, q3⟩)[i]? = some t → u4.cell? ⟨u3.heap.size, i, none⟩ = some t := fun i t ht => by
          rw [((Blk.new u3 _ _).ext x4).cell]
          simpa [LV] using ht
        have hz4 := hc4.size
        have R4 := (((R7.ext x2).ext x3).ext ((Ext.refl u3).alloc (V8.l ⟨p0, p1, p2, p3, q0, q1, q2, q3⟩).toArray 69)).ext x4
        refine gives_append_g1 LV (.tmp 24) (.tmp 30) rfl (b3 + 1) _ _ rfl o4 u3.heap.size 1 ⟨p0, p1, p2, p3, q0, q1, q2, q3⟩ rfl hcn (by omega) (by omega) ?_
        intro v8 w8 o8 A8 hk8
        obtain ⟨ao8, c8, rfl, -, -⟩ := o8.slice
        have K8 := hc4.trans (A8.sub (fun b hb => List.mem_append_right _ hb))
        refine ⟨K8.sub (fun b hb => List.mem_cons_of_mem _ hb), fun _ => K8, fun u5 x5 hc5 => ?_⟩
        have D5 := DJ.calm hc5 nb
        have cG := D5.cell
        have fG := D5.frozen
        refine gives_skip (u' := u5.setCell ⟨b3, 18, none⟩ (.slice ao8 (V ++ [(⟨p0, p1, p2, p3, q0, q1, q2, q3⟩ : V8)]).length c8)) (by simp [go_sem, cG, fG]) ⟨(hc5.sub (fun b hb => List.mem_cons_of_mem _ hb)).trans ((calm_setP u5 b3 18 _).sub (fun b hb => by simp at hb; simp [hb])), fun h => absurd rfl h, fun u6 x6 hc6' => ?_⟩
        have hlen : (V ++ [(⟨p0, p1, p2, p3, q0, q1, q2, q3⟩ : V8)]).length = j + 1 := by simp [hVl]
        rw [hlen] at o8 x6
        have kS := calm_setP u5 b3 18 (.slice ao8 (j + 1) c8)
        have o9 := ((o8.ext x5).calm kS (fun k hk hin => by
          have h1 := (o8.lt k hk).1
          simp at hin
          omega)).ext x6
        have D8 : Blk u6 b3 #[.int .i64 (nW : Int), .int .i64 (nH : Int), .int .i64 ma0, .int .i64 ma1, .int .i64 ma2, .int .i64 ma3, .int .i64 ma4, .int .i64 ma5, .int .i64 ma6, .int .i64 ma7, .int .i64 ma8, .int .i64 ma9, .int .i64 ma10, .int .i64 ma11, .int .i64 ma12, .int .i64 ma13, .int .i64 ma14, .int .i64 ma15, .slice ao8 (j + 1) c8, .slice none 0 0, .slice none 0 0, .slice none 0 0] 42 := by simpa using (D5.set 18 (.slice ao8 (j + 1) c8)).ext x6
        have K9 := KJ.calm hc6' (fun hh => by
          rcases List.mem_cons.1 hh with h1 | h1
          · exact hb03 h1
          · rcases List.mem_append.1 h1 with h2 | h2
            · exact hn0 h2
            · have := (hIl _ (Option.mem_toList.1 h2)).1
              omega)
        have R9 := (((R4.kept A8 (fun b hb hin => by have := (hF b hb).2; have := (hIl _ (Option.mem_toList.1 hin)).1; omega)).ext x5).kept kS (fun b hb hin => hn3 (by simp at hin; rw [← hin]; exact hb))).ext x6
        have c9 : Calm F w u6 := calm_mix cJ hc6' (fun g hg => by
          rcases List.mem_cons.1 hg with h1 | h1
          · exact .inr (by omega)
          · rcases List.mem_append.1 h1 with h2 | h2
            · exact .inl h2
            · exact .inr (by have := (hIl _ (Option.mem_toList.1 h2)).1; omega))
        clear o4 o1 oI DJ KJ RJ cJ dJ R4 A8 K8 K3 hc3 hc4 hc5 hc6' hc6 hc7 hc hd1 hc2 cG fG D5 o8 r6 R6 r7 R7 hcn
        simp only [Act.put, List.setIfInBounds_toArray, List.set_cons_succ, List.set_cons_zero]
        go_wp2
        go_roundg (gk - 1)
        case measure => omega
        case rel => exact ⟨j + 1, ao8, c8, V ++ [⟨p0, p1, p2, p3, q0, q1, q2, q3⟩], k7, e7, by omega, by simp, by simp [hVl], (fun z hz => by rcases List.mem_append.1 hz with h1 | h1; exact hVf z h1; (rw [List.mem_singleton.1 h1]; exact ⟨i6, i7⟩)), o9, D8, K9, R9, c9, dK⟩
    · obtain rfl : j = nV := by omega
      have HVR := Lib.hid (HV0.out.seq dJ)
      clear dJ
      have hcJ := cJ.size
      go_wp2_with fail
      refine (decProgs_any false _ _ _ _ _ _ _ RJ).mono ?_
      rintro e w11 ⟨vS, svS, PS, k11, e11, rfl, oS, pS, apS, okS, lS, R11, c11, r11⟩
      have hz11 := c11.size
      obtain ⟨sA, sC, rfl, -, -⟩ := oS.slice
      have PB1 := PB.of oS pS apS
      have oV11 := oI.calm c11 (fun k hk hin => by have := (hIl k hk).1; have := (hF k hin).2; omega)
      have E11 := DJ.calm c11 hn3
      have B11 := KJ.calm c11 hn0
      have c11' := cJ.trans c11
      have cE11 := E11.cell
      have fE11 := E11.frozen
      have HS := Lib.hid r11
      clear oS pS apS DJ KJ RJ cJ c11 r11 oI
      go_upto_region 12 with fail
      have kS1 := calm_setP w11 b3 19 (.slice sA svS.length sC)
      have D12 : Blk (w11.setCell ⟨b3, 19, none⟩ (.slice sA svS.length sC)) b3 #[.int .i64 (nW : Int), .int .i64 (nH : Int), .int .i64 ma0, .int .i64 ma1, .int .i64 ma2, .int .i64 ma3, .int .i64 ma4, .int .i64 ma5, .int .i64 ma6, .int .i64 ma7, .int .i64 ma8, .int .i64 ma9, .int .i64 ma10, .int .i64 ma11, .int .i64 ma12, .int .i64 ma13, .int .i64 ma14, .int .i64 ma15, .slice va j vc, .slice sA svS.length sC, .slice none 0 0, .slice none 0 0] 42 := by simpa using E11.set 19 (.slice sA svS.length sC)
      have B12 := B11.calm kS1 (by simp; omega)
      have R12 := R11.kept kS1 (fun b hb hin => hn3 (by simp at hin; rw [← hin]; exact hb))
      have oV12 := oV11.calm kS1 (fun k hk hin => by have := (hIl k hk).1; simp at hin; omega)
      have PB2 := PB1.calm kS1 (fun b hb => by rw [List.mem_singleton.1 hb]; exact .inl hzJ)
      have c12 : Calm F w _ := calm_new c11' (Calm.refl F w11) kS1 (by omega)
      have hz12 := kS1.size
      clear E11 B11 R11 oV11 PB1 c11' cE11 fE11 kS1
      generalize w11.setCell ⟨b3, 19, none⟩ (.slice sA svS.length sC) = w12 at *
      go_wp2_with fail
      refine (decProgs_any true _ _ _ _ _ _ _ R12).mono ?_
      rintro e w13 ⟨vP, svP, PP, k13, e13, rfl, oP, pP, apP, okP, lP, R13, c13, r13⟩
      have hz13 := c13.size
      obtain ⟨pA, pC, rfl, -, -⟩ := oP.slice
      have PB3 := PB.of oP pP apP
      have oV13 := oV12.calm c13 (fun k hk hin => by have := (hIl k hk).1; have := (hF k hin).2; omega)
      have PB4 := PB2.calm c13 (fun b hb => .inl (by have := (hF b hb).2; omega))
      have E13 := D12.calm c13 hn3
      have B13 := B12.calm c13 hn0
      have c13' := c12.trans c13
      have cE13 := E13.cell
      have fE13 := E13.frozen
      have HPr := Lib.hid r13
      clear oP pP apP D12 B12 R12 c12 c13 r13 oV12 PB2
      go_upto_region 13 with fail
      have kS2 := calm_setP w13 b3 20 (.slice pA svP.length pC)
      have D14 : Blk (w13.setCell ⟨b3, 20, none⟩ (.slice pA svP.length pC)) b3 #[.int .i64 (nW : Int), .int .i64 (nH : Int), .int .i64 ma0, .int .i64 ma1, .int .i64 ma2, .int .i64 ma3, .int .i64 ma4, .int .i64 ma5, .int .i64 ma6, .int .i64 ma7, .int .i64 ma8, .int .i64 ma9, .int .i64 ma10, .int .i64 ma11, .int .i64 ma12, .int .i64 ma13, .int .i64 ma14, .int .i64 ma15, .slice va j vc, .slice sA svS.length sC, .slice pA svP.length pC, .slice none 0 0] 42 := by simpa using E13.set 20 (.slice pA svP.length pC)
      have B14 := B13.calm kS2 (by simp; omega)
      have R14 := R13.kept kS2 (fun b hb hin => hn3 (by simp at hin; rw [← hin]; exact hb))
      have oV14 := oV13.calm kS2 (fun k hk hin => by have := (hIl k hk).1; simp at hin; omega)
      have PB5 := PB4.calm kS2 (fun b hb => by rw [List.mem_singleton.1 hb]; exact .inl hzJ)
      have PB6 := PB3.calm kS2 (fun b hb => by rw [List.mem_singleton.1 hb]; exact .inl (by omega))
      have c14 : Calm F w _ := calm_new c13' (Calm.refl F w13) kS2 (by omega)
      have hz14 := kS2.size
      clear E13 B13 R13 oV13 PB4 PB3 c13' cE13 fE13 kS2
      generalize w13.setCell ⟨b3, 20, none⟩ (.slice pA svP.length pC) = w14 at *
      go_wp2_with fail
      refine (rd_cntG 32 (by omega) _ _ _ _ _ _ _ R14).mono ?_
      rintro e w15 ⟨nD, k15, e15, rfl, hnD, R15, c1415, r15⟩
      have D15 := D14.calm c1415 hn3
      have B15 := B14.calm c1415 hn0
      have oV15 := oV14.calm c1415 (fun k hk hin => by have := (hIl k hk).1; have := (hF k hin).2; omega)
      have PS15 := PB5.calm c1415 (fun b hb => .inl (by have := (hF b hb).2; omega))
      have PP15 := PB6.calm c1415 (fun b hb => .inl (by have := (hF b hb).2; omega))
      have c15 := c14.trans c1415
      have hz15 := c1415.size
      have hnDI : (nD : Int) ≤ 32 := by omega
      have HD0 := Lib.hid r15
      clear D14 B14 R14 oV14 PB5 PB6 c14 c1415 r15
      have hzD := D15.lt
      go_wp2_with fail
      go_loopg [42] nD (fun n0 iv wt => ∃ (i : Nat) (da : Option Addr) (dc : Nat) (dms : List DrM) (Ds : List Dr) (kj : Nat) (ej : Int), i + n0 = nD ∧ iv = .int .i64 i ∧ dms.length = i ∧ (∀ d ∈ Ds, d.rd0) ∧ OwnG LD wt w15.heap.size (.slice da i dc) dms ∧ DrawsAt wt w15.heap.size dms Ds ∧ (∀ m ∈ dms, ∀ k, m.ix.v.ownBlock = some k → (Value.slice da i dc).ownBlock ≠ some k) ∧ Blk wt b3 #[.int .i64 (nW : Int), .int .i64 (nH : Int), .int .i64 ma0, .int .i64 ma1, .int .i64 ma2, .int .i64 ma3, .int .i64 ma4, .int .i64 ma5, .int .i64 ma6, .int .i64 ma7, .int .i64 ma8, .int .i64 ma9, .int .i64 ma10, .int .i64 ma11, .int .i64 ma12, .int .i64 ma13, .int .i64 ma14, .int .i64 ma15, .slice va j vc, .slice sA svS.length sC, .slice pA svP.length pC, .slice da i dc] 42 ∧ Rdr wt base p l kj ej F ∧ Calm (b3 :: F) w15 wt ∧ Rd (fun D : List Dr => D.flatMap encD) (PN Dr.rd i) l k15 e15 Ds kj ej)
      case atStart => exact ⟨0, none, 0, [], [], k15, e15, by omega, by simp, rfl, (fun q hq => by simp at hq), OwnG.nil _ _ _, ⟨rfl, fun i s hs => by simp at hs⟩, (fun m hm => by simp at hm), D15, R15, Calm.refl _ _, Rd.none⟩
      case round =>
        clear D15 R15
        generalize wr = wt at *
        obtain ⟨i, da, dc, dms, Ds, kj', ej', hik, rfl, hDl, hD0, oD, pD, apD, DJ, RJ, cK, dJ⟩ := hrel
        have hzJ' := DJ.lt
        have hDlt := oD.lt
        have hpDlt := pD.lt
        have hcK := cK.size
        by_cases hi : i < nD
        · have hiI : (i : Int) < (nD : Int) := by omega
          have nb : b3 ∉ F ++ (Value.slice da i dc).ownBlock.toList := fun hh => by
            rcases List.mem_append.1 hh with h1 | h1
            · exact hn3 h1
            · have := (hDlt _ (Option.mem_toList.1 h1)).1
              omega
          go_upto_region 15 with fail
          apply wp_region_last 8 [false, false, false, true, true, true, false, true] [47, 48, 49] (F ++ (Value.slice da i dc).ownBlock.toList) (b3 :: (F ++ (Value.slice da i dc).ownBlock.toList)) _ (by kernel_rfl) (by kernel_rfl) (by kernel_rfl) (by kernel_rfl)
          case H =>
            intro y0 hy0
            have hne : Nonempty (Wx y0) := ⟨⟨y0, Ext.refl y0⟩⟩
            have q0 := fun (y : Wx y0) => ((DJ.calm hy0 nb).ext y.ext).cell
            simp only [eraseM]
            repeat (go_big_quiet_step (fail))
            exact wpQuiet_nil rfl
          case hF => rfl
          case T =>
            change tailL _ _ _ _ _ [_, _, _, _] _ _
            refine fun u x0 hc => gives_enter (f := 40) (args := #[.pointer (some ⟨p, 0, none⟩)]) (by simp [go_sem]) (decDraw_any u _ _ _ _ _ _ (RJ.ext x0)) ?_
            rintro e v6 ⟨m6, d6, k6, e6, rfl, hm6, oX6, hd6, R6, c6, r6⟩
            have dK := dJ.snoc pf_dr r6
            have hc6 := hc.trans (c6.sub (fun b hb => List.mem_append_left _ hb))
            refine ⟨_, rfl, hc6.sub (fun b hb => List.mem_cons_of_mem _ hb), fun _ => hc6, fun u2 x2 hc2 => ?_⟩
            have K2 := hc2.trans (((Ext.refl u2).alloc m6.l.toArray 67).calm _)
            refine gives_value (u' := u2.alloc (.cells m6.l.toArray 67)) (v := .slice (some ⟨u2.heap.size, 0, none⟩) 1 1) (by simp [go_sem]) ⟨K2.sub (fun b hb => List.mem_cons_of_mem _ hb), fun _ => K2, fun u3 x3 hc3 => ?_⟩
            have hdis : ∀ k, (Value.slice da i dc).ownBlock = some k → k ∉ F := fun k hk hin => by have := (hDlt k hk).1; have := (hF k hin).2; omega
            have o1 := (oD.ext x0).calm c6 hdis
            have o3 := (o1.ext x2).ext (((Ext.refl u2).alloc m6.l.toArray 67).trans x3)
            have p1 := (pD.ext x0).calm c6 (fun m hm k hk hin => by have := (hpDlt m hm k hk).1; have := (hF k hin).2; omega)
            have p3 := (p1.ext x2).ext (((Ext.refl u2).alloc m6.l.toArray 67).trans x3)
            have hcn : ∀ i t, (LD.cells m6)[i]? = some t → u3.cell? ⟨u2.heap.size, i, none⟩ = some t := fun i t ht => by
              rw [((Blk.new u2 _ _).ext x3).cell]
              have hu' : (m6.l.toArray : Array Value).toList[i]? = some t := ht
              simpa using hu'
            have hz3 := hc3.size
            have R3 := ((R6.ext x2).ext ((Ext.refl u2).alloc m6.l.toArray 67)).ext x3
            have z0 := x0.size
            have z6 := c6.size
            have z2 := x2.size
            have z3 := x3.size
            rw [World.size_alloc] at z3
            have hXl : ∀ k, m6.ix.v.ownBlock = some k → u.heap.size ≤ k ∧ k < v6.heap.size := fun k hk => oX6.lt k hk
            have oX3 := (oX6.ext x2).ext (((Ext.refl u2).alloc m6.l.toArray 67).trans x3)
            refine gives_append_g1 LD (.tmp 45) (.tmp 48) rfl w15.heap.size _ _ rfl o3 u2.heap.size 1 m6 rfl hcn (by omega) (by omega) ?_
            intro v7 w7 o7 A7 hk7
            obtain ⟨ao7, c7, rfl, -, -⟩ := o7.slice
            have K7 := hc3.trans (A7.sub (fun b hb => List.mem_append_right _ hb))
            have ap4 : ∀ m ∈ dms ++ [m6], ∀ k, m.ix.v.ownBlock = some k → (Value.slice ao7 (dms ++ [m6]).length c7).ownBlock ≠ some k := fun m hm k hk hv => by
              rcases hk7 k hv with h1 | h1
              · rcases List.mem_append.1 hm with h2 | h2
                · exact apD m h2 k hk h1
                · rw [List.mem_singleton.1 h2] at hk
                  have h3 := (hDlt k h1).2
                  have h4 := (hXl k hk).1
                  omega
              · rcases List.mem_append.1 hm with h2 | h2
                · have := (hpDlt m h2 k hk).2
                  omega
                · rw [List.mem_singleton.1 h2] at hk
                  have := (hXl k hk).2
                  omega
            refine ⟨K7.sub (fun b hb => List.mem_cons_of_mem _ hb), fun _ => K7, fun u5 x5 hc5 => ?_⟩
            have D5 := DJ.calm hc5 nb
            have cG := D5.cell
            have fG := D5.frozen
            refine gives_skip (u' := u5.setCell ⟨b3, 21, none⟩ (.slice ao7 (dms ++ [m6]).length c7)) (by simp [go_sem, cG, fG]) ⟨(hc5.sub (fun b hb => List.mem_cons_of_mem _ hb)).trans ((calm_setP u5 b3 21 _).sub (fun b hb => by simp at hb; simp [hb])), fun h => absurd rfl h, fun u6 x6 hc6' => ?_⟩
            have hlen : (dms ++ [m6]).length = i + 1 := by simp [hDl]
            rw [hlen] at o7 x6 ap4
            have kS := calm_setP u5 b3 21 (.slice ao7 (i + 1) c7)
            have o8 := ((o7.ext x5).calm kS (fun k hk hin => by
              have h1 := (o7.lt k hk).1
              simp at hin
              omega)).ext x6
            have p7 := (p3.calm A7 (fun m hm k hk hin => apD m hm k hk (Option.mem_toList.1 hin))).snoc hm6 ((oX3.calm A7 (fun k hk hin => by
              have h1 := (hDlt k (Option.mem_toList.1 hin)).2
              have h2 := (hXl k hk).1
              omega)).mono (by omega))
            have p8 := ((p7.ext x5).calm kS (fun m hm k hk hin => by
              have h1 := (p7.lt m hm k hk).1
              simp at hin
              omega)).ext x6
            have D8 : Blk u6 b3 #[.int .i64 (nW : Int), .int .i64 (nH : Int), .int .i64 ma0, .int .i64 ma1, .int .i64 ma2, .int .i64 ma3, .int .i64 ma4, .int .i64 ma5, .int .i64 ma6, .int .i64 ma7, .int .i64 ma8, .int .i64 ma9, .int .i64 ma10, .int .i64 ma11, .int .i64 ma12, .int .i64 ma13, .int .i64 ma14, .int .i64 ma15, .slice va j vc, .slice sA svS.length sC, .slice pA svP.length pC, .slice ao7 (i + 1) c7] 42 := by simpa using (D5.set 21 (.slice ao7 (i + 1) c7)).ext x6
            have R8 := (((R3.kept A7 (fun b hb hin => by have := (hF b hb).2; have := (hDlt _ (Option.mem_toList.1 hin)).1; omega)).ext x5).kept kS (fun b hb hin => hn3 (by simp at hin; rw [← hin]; exact hb))).ext x6
            have c8 : Calm (b3 :: F) w15 u6 := calm_mix cK hc6' (fun g hg => by
              rcases List.mem_cons.1 hg with h1 | h1
              · exact .inl (by rw [h1]; exact List.mem_cons_self ..)
              · rcases List.mem_append.1 h1 with h2 | h2
                · exact .inl (List.mem_cons_of_mem _ h2)
                · exact .inr (hDlt _ (Option.mem_toList.1 h2)).1)
            clear o3 o1 oD DJ RJ cK dJ R3 A7 K7 K2 hc3 hc5 hc6' hc6 hc hc2 cG fG D5 o7 r6 R6 hcn p3 p1 pD p7 oX3 oX6
            simp only [Act.put, List.setIfInBounds_toArray, List.set_cons_succ, List.set_cons_zero]
            go_wp2
            go_roundg (gk - 1)
            case measure => omega
            case rel => exact ⟨i + 1, ao7, c7, dms ++ [m6], Ds ++ [d6], k6, e6, by omega, by simp, by simp [hDl], (fun z hz => by rcases List.mem_append.1 hz with h1 | h1; exact hD0 z h1; (rw [List.mem_singleton.1 h1]; exact hd6)), o8, p8, ap4, D8, R8, c8, dK⟩
        · obtain rfl : i = nD := by omega
          have hDR := HD0.out.seq dJ
          have hDsl : Ds.length = i := by rw [← pD.1, hDl]
          have hr0 : Scr.rd0 ⟨nW, nH, [ma0, ma1, ma2, ma3, ma4, ma5, ma6, ma7, ma8, ma9, ma10, ma11, ma12, ma13, ma14, ma15], V, PS, PP, Ds⟩ := by
            refine ⟨⟨?_, ?_, rfl, HMb.out, hVf, by simp only; omega, fun p hp => ⟨by have := (okS p hp).2; omega, (okS p hp).1⟩, by simp only; omega, fun p hp => ⟨by have := (okP p hp).2; omega, (okP p hp).1⟩, by simp only; omega, fun d hd => (hD0 d hd).fit, by simp only; omega⟩, by simp only; omega, by simp only; omega, by simp only; omega, lS, lP, by simp only; omega, hD0⟩
            · unfold I64; simp only; omega
            · unfold I64; simp only; omega
          have hrd := script_rd HW.out HH.out HMd.out HVR.out HS.out HPr.out hDR hr0
          have K9 := B15.calm cK (fun hh => by
            rcases List.mem_cons.1 hh with h1 | h1
            · exact hb03 h1
            · exact hn0 h1)
          have hOk : ∀ lo hi, b3 < lo → (∀ b ∈ F, b < lo) → ∀ b ∈ (b3 :: F), b < lo ∨ hi ≤ b := fun lo hi h1 h2 b hb => by
            rcases List.mem_cons.1 hb with h | h
            · exact .inl (by omega)
            · exact .inl (h2 b h)
          have oVE := oV15.calm cK (fun k hk hin => by
            have h1 := (hIl k hk).1
            rcases List.mem_cons.1 hin with h | h
            · omega
            · have := (hF k h).2
              omega)
          have PSE := PS15.calm cK (hOk _ _ (by omega) (fun b hb => by have := (hF b hb).2; omega))
          have PPE := PP15.calm cK (hOk _ _ (by omega) (fun b hb => by have := (hF b hb).2; omega))
          have cW : Calm F w wt := calm_mix c15 cK (fun g hg => by
            rcases List.mem_cons.1 hg with h | h
            · exact .inr (by omega)
            · exact .inl h)
          have hDB : DB wt w15.heap.size (.slice da i dc) Ds := ⟨dms, oD, pD, apD⟩
          clear oV15 PS15 PP15 c15 cK oD pD apD B15 dJ
          have kR := calm_setRow wt b0 #[.int .i64 (nW : Int), .int .i64 (nH : Int), .int .i64 ma0, .int .i64 ma1, .int .i64 ma2, .int .i64 ma3, .int .i64 ma4, .int .i64 ma5, .int .i64 ma6, .int .i64 ma7, .int .i64 ma8, .int .i64 ma9, .int .i64 ma10, .int .i64 ma11, .int .i64 ma12, .int .i64 ma13, .int .i64 ma14, .int .i64 ma15, .slice va j vc, .slice sA svS.length sC, .slice pA svP.length pC, .slice da i dc]
          have hOR : ∀ lo hi, b0 < lo → ∀ b ∈ [b0], b < lo ∨ hi ≤ b := fun lo hi h b hb => by rw [List.mem_singleton.1 hb]; exact .inl h
          have AE : ScrAt (wt.setRow b0 #[.int .i64 (nW : Int), .int .i64 (nH : Int), .int .i64 ma0, .int .i64 ma1, .int .i64 ma2, .int .i64 ma3, .int .i64 ma4, .int .i64 ma5, .int .i64 ma6, .int .i64 ma7, .int .i64 ma8, .int .i64 ma9, .int .i64 ma10, .int .i64 ma11, .int .i64 ma12, .int .i64 ma13, .int .i64 ma14, .int .i64 ma15, .slice va j vc, .slice sA svS.length sC, .slice pA svP.length pC, .slice da i dc]) b0 ⟨nW, nH, [ma0, ma1, ma2, ma3, ma4, ma5, ma6, ma7, ma8, ma9, ma10, ma11, ma12, ma13, ma14, ma15], ⟨va, j, vc⟩, ⟨sA, svS.length, sC⟩, ⟨pA, svP.length, pC⟩, ⟨da, i, dc⟩⟩ ⟨nW, nH, [ma0, ma1, ma2, ma3, ma4, ma5, ma6, ma7, ma8, ma9, ma10, ma11, ma12, ma13, ma14, ma15], V, PS, PP, Ds⟩ := by
            refine ⟨rfl, rfl, rfl, _, _, _, _, _, w15.heap.size, ⟨(oVE.mono (by omega)).calm kR (fun k hk hin => by have := (hIl k hk).1; simp at hin; omega), fun k hk => (hIl k hk).2⟩, PSE.calm kR (hOR _ _ (by omega)), PPE.calm kR (hOR _ _ (by omega)), hDB.calm kR (hOR _ _ (by omega)), by omega, by omega, by omega, .inl (by omega), by omega, by omega, by omega, by rw [size_setRow]; omega⟩
          have HS := K9.setRow #[.int .i64 (nW : Int), .int .i64 (nH : Int), .int .i64 ma0, .int .i64 ma1, .int .i64 ma2, .int .i64 ma3, .int .i64 ma4, .int .i64 ma5, .int .i64 ma6, .int .i64 ma7, .int .i64 ma8, .int .i64 ma9, .int .i64 ma10, .int .i64 ma11, .int .i64 ma12, .int .i64 ma13, .int .i64 ma14, .int .i64 ma15, .slice va j vc, .slice sA svS.length sC, .slice pA svP.length pC, .slice da i dc]
          have cE := cW.setRow (g := b0) (.inl (by omega)) #[.int .i64 (nW : Int), .int .i64 (nH : Int), .int .i64 ma0, .int .i64 ma1, .int .i64 ma2, .int .i64 ma3, .int .i64 ma4, .int .i64 ma5, .int .i64 ma6, .int .i64 ma7, .int .i64 ma8, .int .i64 ma9, .int .i64 ma10, .int .i64 ma11, .int .i64 ma12, .int .i64 ma13, .int .i64 ma14, .int .i64 ma15, .slice va j vc, .slice sA svS.length sC, .slice pA svP.length pC, .slice da i dc]
          have RE := RJ.kept (calm_setRow wt b0 #[.int .i64 (nW : Int), .int .i64 (nH : Int), .int .i64 ma0, .int .i64 ma1, .int .i64 ma2, .int .i64 ma3, .int .i64 ma4, .int .i64 ma5, .int .i64 ma6, .int .i64 ma7, .int .i64 ma8, .int .i64 ma9, .int .i64 ma10, .int .i64 ma11, .int .i64 ma12, .int .i64 ma13, .int .i64 ma14, .int .i64 ma15, .slice va j vc, .slice sA svS.length sC, .slice pA svP.length pC, .slice da i dc]) (fun b hb hin => hn0 (by simp at hin; rw [← hin]; exact hb))
          go_wp2_with (first
            | ((with_reducible refine wpList_load_blk (op := ⟨some 52, _, _, _, _, _⟩) ?_ 42 (.tmp 3) ?_ b3 ?_ (z := #[.int .i64 (nW : Int), .int .i64 (nH : Int), .int .i64 ma0, .int .i64 ma1, .int .i64 ma2, .int .i64 ma3, .int .i64 ma4, .int .i64 ma5, .int .i64 ma6, .int .i64 ma7, .int .i64 ma8, .int .i64 ma9, .int .i64 ma10, .int .i64 ma11, .int .i64 ma12, .int .i64 ma13, .int .i64 ma14, .int .i64 ma15, .slice va j vc, .slice sA svS.length sC, .slice pA svP.length pC, .slice da i dc]) (T := 42) DJ Try.underlying42 ?_ ?_ ?_); rfl; rfl; rfl; rfl; kernel_rfl)
            | ((with_reducible refine wpList_store_blk (op := ⟨none, .store 42 (.tmp 2) (.tmp 52), _, _, _, _⟩) ?_ 42 (.tmp 2) (.tmp 52) ?_ b0 ?_ (cs := #[.int .i64 (nW : Int), .int .i64 (nH : Int), .int .i64 ma0, .int .i64 ma1, .int .i64 ma2, .int .i64 ma3, .int .i64 ma4, .int .i64 ma5, .int .i64 ma6, .int .i64 ma7, .int .i64 ma8, .int .i64 ma9, .int .i64 ma10, .int .i64 ma11, .int .i64 ma12, .int .i64 ma13, .int .i64 ma14, .int .i64 ma15, .slice va j vc, .slice sA svS.length sC, .slice pA svP.length pC, .slice da i dc]) ?_ (z := #[.int .i64 0, .int .i64 0, .int .i64 0, .int .i64 0, .int .i64 0, .int .i64 0, .int .i64 0, .int .i64 0, .int .i64 0, .int .i64 0, .int .i64 0, .int .i64 0, .int .i64 0, .int .i64 0, .int .i64 0, .int .i64 0, .int .i64 0, .int .i64 0, .slice none 0 0, .slice none 0 0, .slice none 0 0, .slice none 0 0]) (T := 42) ?_ ?_ ?_ ?_ ?_); rfl; rfl; rfl; rfl; exact K9; kernel_rfl; kernel_rfl; kernel_rfl)
            | fail)
          refine bodyPost_ret (v := .agg #[.int .i64 (nW : Int), .int .i64 (nH : Int), .int .i64 ma0, .int .i64 ma1, .int .i64 ma2, .int .i64 ma3, .int .i64 ma4, .int .i64 ma5, .int .i64 ma6, .int .i64 ma7, .int .i64 ma8, .int .i64 ma9, .int .i64 ma10, .int .i64 ma11, .int .i64 ma12, .int .i64 ma13, .int .i64 ma14, .int .i64 ma15, .slice va j vc, .slice sA svS.length sC, .slice pA svP.length pC, .slice da i dc]) (results_blk (b := b0) (t := 2) (ty := 42) rfl rfl HS Try.underlying42 rfl (by kernel_rfl)) rfl ?_
          exact ⟨⟨nW, nH, [ma0, ma1, ma2, ma3, ma4, ma5, ma6, ma7, ma8, ma9, ma10, ma11, ma12, ma13, ma14, ma15], ⟨va, j, vc⟩, ⟨sA, svS.length, sC⟩, ⟨pA, svP.length, pC⟩, ⟨da, i, dc⟩⟩, ⟨nW, nH, [ma0, ma1, ma2, ma3, ma4, ma5, ma6, ma7, ma8, ma9, ma10, ma11, ma12, ma13, ma14, ma15], V, PS, PP, Ds⟩, kj', ej', rfl, (by first | exact AE | (rw [hb0]; exact AE)), hr0, RE, cE, hrd⟩
end Go.Proofs.Ytbbfmlehddfneaa

