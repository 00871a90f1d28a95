/-
  DERIVED. Reading in general: the Reader's Byte, Int, Count. · Layer 11 (script): Take: vectors, clears, programs (made by mkscrtake.py). · Layer 11 (script): Take: a draw (made by mkscrtake.py). · Layer 11 (script): Take: a draw, walked (made by mkscrtake.py). · Layer 11 (script): Take: a script, in plain numbers (made by mkscrtake.py).
-/
import Derived.Test.YtbbfmlehddfneaaPkScrB
import Derived.Test.YtbbfmlehddfneaaPkChk
import Derived.Test.YtbbfmlehddfneaaPkGs
import Derived.Test.YtbbfmlehddfneaaPkTake
import Derived.Test.YtbbfmlehddfneaaPkScrA
namespace Go.Proofs.Ytbbfmlehddfneaa
open Go.RowKit
set_option linter.unusedVariables false
def U8 (y : Int) : Prop := 0 ≤ y ∧ y ≤ 255
theorem pf_b : PF (fun y : Int => [y]) U8 := fun x y r s _ _ h => by
  simp only [List.cons_append, List.nil_append, List.cons.injEq] at h
  exact h
theorem pf_z64 : PF encZ I64 := fun x y r s _ _ h => pf_z x y r s trivial trivial h
theorem pf_l (most : Nat) : PF (fun n : Nat => leb n) (fun n => n ≤ most) := fun x y r s _ _ h => leb_inj _ _ _ _ h
theorem rd_byteG (w : World) (base p : Nat) (l : List Int) (k : Nat) (err : Int) (F : List Nat) (h : Rdr w base p l k err F) :
    Calls Try.prog 58 #[.pointer (some ⟨p, 0, none⟩)] w fun e w' => ∃ y k' err', e = .returned (.int .u8 y) ∧ U8 y ∧ Rdr w' base p l k' err' F ∧ Calm F w w' ∧ Rd (fun y : Int => [y]) U8 l k err y k' err' := by
  refine (rd_byte_any w base p l k err F h).mono ?_
  rintro e w' ⟨y, k', err', rfl, hy, h1, s1, h2⟩
  refine ⟨y, k', err', rfl, hy, h1, s1.1, ?_⟩
  rcases h2 with ⟨a, b, c⟩ | ⟨a, b⟩
  · exact .inl ⟨a, b, hy, c⟩
  · refine .inr ⟨a, ?_⟩
    rcases b with b | b
    · exact .inl b
    · exact .inr fun z r _ hh => by rw [b] at hh; cases hh
theorem rd_intG (w : World) (base p : Nat) (l : List Int) (k : Nat) (err : Int) (F : List Nat) (h : Rdr w base p l k err F) :
    Calls Try.prog 55 #[.pointer (some ⟨p, 0, none⟩)] w fun e w' => ∃ n k' err', e = .returned (.int .i64 n) ∧ I64 n ∧ Rdr w' base p l k' err' F ∧ Calm F w w' ∧ Rd encZ I64 l k err n k' err' := by
  obtain ⟨⟨n, j, e⟩, hrd⟩ : ∃ q, rdAt err (l.drop k) = q := ⟨_, rfl⟩
  have hb : ∀ y ∈ l.drop k, 0 ≤ y ∧ y ≤ 255 := fun y hy => h.bytes y (List.mem_of_mem_drop hy)
  have hc := rdAt_cases hb hrd
  have hn := (rdAt_lt hb hrd).1
  rw [List.drop_drop] at hc
  have u1 : I64 (unzig n) := unzig_bd hn
  have u2 := zig_unzig n
  refine (rd_int w base p l k err F h n j e hrd).mono ?_
  rintro r w' ⟨rfl, h1, s1⟩
  refine ⟨_, _, _, rfl, u1, h1, s1.1, ?_⟩
  rcases hc with ⟨a, b, _, c⟩ | ⟨a, b, c⟩
  · exact .inl ⟨a, b, u1, by rw [encZ, u2]; exact c⟩
  · refine .inr ⟨b, ?_⟩
    rcases c with c | c
    · exact .inl c
    · exact .inr fun z r hz hh => c _ r (zig_lt hz) hh
theorem rd_cntG (most : Nat) (hm : most ≤ 9223372036854775807) (w : World) (base p : Nat) (l : List Int) (k : Nat) (err : Int) (F : List Nat) (h : Rdr w base p l k err F) :
    Calls Try.prog 37 #[.pointer (some ⟨p, 0, none⟩), .int .i64 most] w fun e w' => ∃ (n k' : Nat) (err' : Int), e = .returned (.int .i64 n) ∧ n ≤ most ∧ Rdr w' base p l k' err' F ∧ Calm F w w' ∧ Rd (fun n : Nat => leb n) (fun n => n ≤ most) l k err n k' err' := by
  obtain ⟨⟨n, j, e⟩, hrd⟩ : ∃ q, rdAt err (l.drop k) = q := ⟨_, rfl⟩
  have hc := rdAt_cases (fun y hy => h.bytes y (List.mem_of_mem_drop hy)) hrd
  rw [List.drop_drop] at hc
  by_cases hle : n ≤ most
  · refine (rd_count most (by omega) w base p l k err F h n j e hrd (by simpa using hle)).mono ?_
    rintro r w' ⟨rfl, h1, s1⟩
    refine ⟨_, _, _, rfl, hle, h1, s1.1, ?_⟩
    rcases hc with ⟨a, b, _, c⟩ | ⟨a, b, c⟩
    · exact .inl ⟨a, b, hle, c⟩
    · refine .inr ⟨b, ?_⟩
      rcases c with c | c
      · exact .inl c
      · exact .inr fun m r hm' hh => c m r (by omega) hh
  · refine (rd_count_many most (by omega) w base p l k err F h n j e hrd (by simp; omega)).mono ?_
    rintro r w' ⟨rfl, h1, s1⟩
    refine ⟨0, _, _, rfl, by omega, h1, s1.1, .inr ⟨by decide, ?_⟩⟩
    rcases hc with ⟨rfl, rfl, hn, h2⟩ | ⟨rfl, h2, h3⟩
    · refine .inr fun m r hm' e1 => ?_
      rw [e1, rdAt_zero, rdNum_leb (by omega)] at hrd
      cases hrd
      exact hle hm'
    · omega
end Go.Proofs.Ytbbfmlehddfneaa

namespace Go.Proofs.Ytbbfmlehddfneaa
open Go.RowKit
set_option linter.unusedVariables false
theorem calm_new {F : List Nat} {a b c d : World} {g : Nat} (h : Calm F a b) (k : Calm F b c) (m : Calm [g] c d) (hg : a.heap.size ≤ g) : Calm F a d :=
  ⟨m.os.trans (k.os.trans h.os), m.tape.trans (k.tape.trans h.tape), m.output.trans (k.output.trans h.output), Nat.le_trans h.size (Nat.le_trans k.size m.size), fun x hx hn => (m.block x (Nat.lt_of_lt_of_le hx (Nat.le_trans h.size k.size)) (by simp; omega)).trans ((h.trans k).block x hx hn)⟩
theorem calm_own {F O : List Nat} {a b c : World} (h : Calm F a b) (k : Calm O b c) (hO : ∀ g ∈ O, a.heap.size ≤ g) : Calm F a c :=
  ⟨k.os.trans h.os, k.tape.trans h.tape, k.output.trans h.output, Nat.le_trans h.size k.size, fun x hx hn => (k.block x (Nat.lt_of_lt_of_le hx h.size) (fun hin => by have := hO x hin; omega)).trans (h.block x hx hn)⟩
theorem Rdr.calm {w w' : World} {base p : Nat} {l : List Int} {k : Nat} {err : Int} {F O : List Nat} (h : Rdr w base p l k err F) (hc : Calm O w w') (hO : ∀ b ∈ F, b ∉ O) : Rdr w' base p l k err F := h.kept hc hO
set_option maxRecDepth 100000 in
set_option maxHeartbeats 1000000 in
theorem decVec_any (w : World) (base p : Nat) (l : List Int) (k : Nat) (err : Int) (F : List Nat) (h : Rdr w base p l k err F) : Calls Try.prog 38 #[.pointer (some ⟨p, 0, none⟩)] w fun e w' => ∃ (a0 a1 a2 a3 : Int) (k' : Nat) (err' : Int), e = .returned (.agg #[.int .i64 a0, .int .i64 a1, .int .i64 a2, .int .i64 a3]) ∧ (I64 a0 ∧ I64 a1 ∧ I64 a2 ∧ I64 a3) ∧ Rdr w' base p l k' err' F ∧ Calm F w w' ∧ Rd (fun xs : List Int => xs.flatMap encZ) (PN I64 4) l k err [a0, a1, a2, a3] k' err' := by
  have hF := h.lt
  have hn0 : w.heap.size ∉ F := fun hh => by have := (hF _ hh).2; omega
  have x1 := (Ext.refl w).alloc #[.int .i64 0, .int .i64 0, .int .i64 0, .int .i64 0] 35
  have R1 := h.ext x1
  have c1 : Calm F w _ := x1.calm F
  go_enter Try.func38, Try.ntmps38
  go_upto_region 1 with fail
  have B1 := Blk.new w #[.int .i64 0, .int .i64 0, .int .i64 0, .int .i64 0] 35
  have d1 : Rd (fun xs : List Int => xs.flatMap encZ) (PN I64 0) l k err [] k err := Rd.none
  generalize w.alloc (.cells #[.int .i64 0, .int .i64 0, .int .i64 0, .int .i64 0] 35) = w1 at *
  generalize hb0 : w.heap.size = b0 at *
  clear h x1
  go_wp2_with fail
  refine wp_loop_rounds 5 ?_
  rw [rounds_succ]
  go_wp2_with fail
  refine (rd_intG _ _ _ _ _ _ _ R1).mono ?_
  rintro e v2 ⟨a0, k2, e2, rfl, i0, Q2, s2, r2⟩
  have d2 : Rd (fun xs : List Int => xs.flatMap encZ) (PN I64 1) l k err [a0] k2 e2 := d1.snoc pf_z64 r2
  have D2 := B1.calm s2 hn0
  have cD2 := D2.cell
  have fD2 := D2.frozen
  have B2 : Blk (v2.setCell ⟨b0, 0, none⟩ (.int .i64 a0)) b0 #[.int .i64 a0, .int .i64 0, .int .i64 0, .int .i64 0] 35 := by simpa using D2.set 0 (.int .i64 a0)
  have R2 := Q2.kept (calm_setP v2 b0 0 (.int .i64 a0)) (fun b hb hin => hn0 (by simp at hin; rw [← hin]; exact hb))
  have c2 : Calm F w _ := calm_new c1 s2 (calm_setP v2 b0 0 (.int .i64 a0)) (by omega)
  clear R1 Q2 s2 r2 c1 d1 B1 D2
  go_wp2
  clear cD2 fD2
  rw [rounds_succ]
  go_wp2_with fail
  refine (rd_intG _ _ _ _ _ _ _ R2).mono ?_
  rintro e v3 ⟨a1, k3, e3, rfl, i1, Q3, s3, r3⟩
  have d3 : Rd (fun xs : List Int => xs.flatMap encZ) (PN I64 2) l k err [a0, a1] k3 e3 := d2.snoc pf_z64 r3
  have D3 := B2.calm s3 hn0
  have cD3 := D3.cell
  have fD3 := D3.frozen
  have B3 : Blk (v3.setCell ⟨b0, 1, none⟩ (.int .i64 a1)) b0 #[.int .i64 a0, .int .i64 a1, .int .i64 0, .int .i64 0] 35 := by simpa using D3.set 1 (.int .i64 a1)
  have R3 := Q3.kept (calm_setP v3 b0 1 (.int .i64 a1)) (fun b hb hin => hn0 (by simp at hin; rw [← hin]; exact hb))
  have c3 : Calm F w _ := calm_new c2 s3 (calm_setP v3 b0 1 (.int .i64 a1)) (by omega)
  clear R2 Q3 s3 r3 c2 d2 B2 D3
  go_wp2
  clear cD3 fD3
  rw [rounds_succ]
  go_wp2_with fail
  refine (rd_intG _ _ _ _ _ _ _ R3).mono ?_
  rintro e v4 ⟨a2, k4, e4, rfl, i2, Q4, s4, r4⟩
  have d4 : Rd (fun xs : List Int => xs.flatMap encZ) (PN I64 3) l k err [a0, a1, a2] k4 e4 := d3.snoc pf_z64 r4
  have D4 := B3.calm s4 hn0
  have cD4 := D4.cell
  have fD4 := D4.frozen
  have B4 : Blk (v4.setCell ⟨b0, 2, none⟩ (.int .i64 a2)) b0 #[.int .i64 a0, .int .i64 a1, .int .i64 a2, .int .i64 0] 35 := by simpa using D4.set 2 (.int .i64 a2)
  have R4 := Q4.kept (calm_setP v4 b0 2 (.int .i64 a2)) (fun b hb hin => hn0 (by simp at hin; rw [← hin]; exact hb))
  have c4 : Calm F w _ := calm_new c3 s4 (calm_setP v4 b0 2 (.int .i64 a2)) (by omega)
  clear R3 Q4 s4 r4 c3 d3 B3 D4
  go_wp2
  clear cD4 fD4
  rw [rounds_succ]
  go_wp2_with fail
  refine (rd_intG _ _ _ _ _ _ _ R4).mono ?_
  rintro e v5 ⟨a3, k5, e5, rfl, i3, Q5, s5, r5⟩
  have d5 : Rd (fun xs : List Int => xs.flatMap encZ) (PN I64 4) l k err [a0, a1, a2, a3] k5 e5 := d4.snoc pf_z64 r5
  have D5 := B4.calm s5 hn0
  have cD5 := D5.cell
  have fD5 := D5.frozen
  have B5 : Blk (v5.setCell ⟨b0, 3, none⟩ (.int .i64 a3)) b0 #[.int .i64 a0, .int .i64 a1, .int .i64 a2, .int .i64 a3] 35 := by simpa using D5.set 3 (.int .i64 a3)
  have R5 := Q5.kept (calm_setP v5 b0 3 (.int .i64 a3)) (fun b hb hin => hn0 (by simp at hin; rw [← hin]; exact hb))
  have c5 : Calm F w _ := calm_new c4 s5 (calm_setP v5 b0 3 (.int .i64 a3)) (by omega)
  clear R4 Q5 s5 r5 c4 d4 B4 D5
  go_wp2
  clear cD5 fD5
  rw [rounds_succ]
  generalize hv6 : v5.setCell ⟨b0, 3, none⟩ (.int .i64 a3) = w6 at *
  clear hv6
  have HS := B5.setRow #[.int .i64 a0, .int .i64 a1, .int .i64 a2, .int .i64 a3]
  have c6 : Calm F w _ := c5.setRow (g := b0) (.inl (by omega)) #[.int .i64 a0, .int .i64 a1, .int .i64 a2, .int .i64 a3]
  have R6 := R5.kept (calm_setRow w6 b0 #[.int .i64 a0, .int .i64 a1, .int .i64 a2, .int .i64 a3]) (fun b hb hin => hn0 (by simp at hin; rw [← hin]; exact hb))
  go_wp2_with (first
    | ((with_reducible refine wpList_load_blk (op := ⟨some 12, _, _, _, _, _⟩) ?_ 35 (.tmp 2) ?_ b0 ?_ (z := #[.int .i64 a0, .int .i64 a1, .int .i64 a2, .int .i64 a3]) (T := 35) B5 Try.underlying35 ?_ ?_ ?_); rfl; rfl; rfl; rfl; kernel_rfl)
    | ((with_reducible refine wpList_store_blk (op := ⟨none, .store 35 (.tmp 2) (.tmp 12), _, _, _, _⟩) ?_ 35 (.tmp 2) (.tmp 12) ?_ b0 ?_ (cs := #[.int .i64 a0, .int .i64 a1, .int .i64 a2, .int .i64 a3]) ?_ (z := #[.int .i64 a0, .int .i64 a1, .int .i64 a2, .int .i64 a3]) (T := 35) ?_ ?_ ?_ ?_ ?_); rfl; rfl; rfl; rfl; exact B5; kernel_rfl; kernel_rfl; rfl)
    | fail)
  refine bodyPost_ret (v := .agg #[.int .i64 a0, .int .i64 a1, .int .i64 a2, .int .i64 a3]) (results_blk (b := b0) (t := 2) (ty := 35) rfl rfl HS Try.underlying35 rfl (by kernel_rfl)) rfl ?_
  exact ⟨a0, a1, a2, a3, _, _, rfl, ⟨i0, i1, i2, i3⟩, R6, c6, d5⟩
def encC (c : Clr) : List Int := [c.r, c.g, c.b, c.a, c.sten, c.want] ++ encN c.dep
def Clr.rdok (c : Clr) : Prop := c.byt ∧ 0 ≤ c.dep ∧ c.dep ≤ 9223372036854775807
set_option maxRecDepth 100000 in
set_option maxHeartbeats 1000000 in
theorem decClr_any (w : World) (base p : Nat) (l : List Int) (k : Nat) (err : Int) (F : List Nat) (h : Rdr w base p l k err F) : Calls Try.prog 59 #[.pointer (some ⟨p, 0, none⟩)] w fun e w' => ∃ (c : Clr) (k' : Nat) (err' : Int), e = .returned (.agg c.l.toArray) ∧ c.rdok ∧ Rdr w' base p l k' err' F ∧ Calm F w w' ∧ Rd encC Clr.rdok l k err c k' err' := by
  have hF := h.lt
  have hn0 : w.heap.size ∉ F := fun hh => by have := (hF _ hh).2; omega
  have x1 := (Ext.refl w).alloc #[.int .u8 0, .int .u8 0, .int .u8 0, .int .u8 0, .int .i64 0, .int .u8 0, .int .u8 0] 63
  have R1 := h.ext x1
  have c1 : Calm F w _ := x1.calm F
  go_enter Try.func59, Try.ntmps59
  go_upto_region 1 with fail
  have B1 := Blk.new w #[.int .u8 0, .int .u8 0, .int .u8 0, .int .u8 0, .int .i64 0, .int .u8 0, .int .u8 0] 63
  have d1 : Rd (fun xs : List Int => xs.flatMap (fun y : Int => [y])) (PN U8 0) l k err [] k err := Rd.none
  generalize w.alloc (.cells #[.int .u8 0, .int .u8 0, .int .u8 0, .int .u8 0, .int .i64 0, .int .u8 0, .int .u8 0] 63) = w1 at *
  generalize hb0 : w.heap.size = b0 at *
  clear h x1
  go_wp2_with fail
  refine wp_loop_rounds 5 ?_
  rw [rounds_succ]
  go_wp2_with fail
  refine (rd_byteG _ _ _ _ _ _ _ R1).mono ?_
  rintro e v2 ⟨r, k2, e2, rfl, i0, Q2, s2, r2⟩
  have d2 : Rd (fun xs : List Int => xs.flatMap (fun y : Int => [y])) (PN U8 1) l k err [r] k2 e2 := d1.snoc pf_b r2
  have D2 := B1.calm s2 hn0
  have cD2 := D2.cell
  have fD2 := D2.frozen
  have B2 : Blk (v2.setCell ⟨b0, 0, none⟩ (.int .u8 r)) b0 #[.int .u8 r, .int .u8 0, .int .u8 0, .int .u8 0, .int .i64 0, .int .u8 0, .int .u8 0] 63 := by simpa using D2.set 0 (.int .u8 r)
  have R2 := Q2.kept (calm_setP v2 b0 0 (.int .u8 r)) (fun b hb hin => hn0 (by simp at hin; rw [← hin]; exact hb))
  have c2 : Calm F w _ := calm_new c1 s2 (calm_setP v2 b0 0 (.int .u8 r)) (by omega)
  clear R1 Q2 s2 r2 c1 d1 B1 D2
  go_wp2
  clear cD2 fD2
  rw [rounds_succ]
  go_wp2_with fail
  refine (rd_byteG _ _ _ _ _ _ _ R2).mono ?_
  rintro e v3 ⟨g, k3, e3, rfl, i1, Q3, s3, r3⟩
  have d3 : Rd (fun xs : List Int => xs.flatMap (fun y : Int => [y])) (PN U8 2) l k err [r, g] k3 e3 := d2.snoc pf_b r3
  have D3 := B2.calm s3 hn0
  have cD3 := D3.cell
  have fD3 := D3.frozen
  have B3 : Blk (v3.setCell ⟨b0, 1, none⟩ (.int .u8 g)) b0 #[.int .u8 r, .int .u8 g, .int .u8 0, .int .u8 0, .int .i64 0, .int .u8 0, .int .u8 0] 63 := by simpa using D3.set 1 (.int .u8 g)
  have R3 := Q3.kept (calm_setP v3 b0 1 (.int .u8 g)) (fun b hb hin => hn0 (by simp at hin; rw [← hin]; exact hb))
  have c3 : Calm F w _ := calm_new c2 s3 (calm_setP v3 b0 1 (.int .u8 g)) (by omega)
  clear R2 Q3 s3 r3 c2 d2 B2 D3
  go_wp2
  clear cD3 fD3
  rw [rounds_succ]
  go_wp2_with fail
  refine (rd_byteG _ _ _ _ _ _ _ R3).mono ?_
  rintro e v4 ⟨b, k4, e4, rfl, i2, Q4, s4, r4⟩
  have d4 : Rd (fun xs : List Int => xs.flatMap (fun y : Int => [y])) (PN U8 3) l k err [r, g, b] k4 e4 := d3.snoc pf_b r4
  have D4 := B3.calm s4 hn0
  have cD4 := D4.cell
  have fD4 := D4.frozen
  have B4 : Blk (v4.setCell ⟨b0, 2, none⟩ (.int .u8 b)) b0 #[.int .u8 r, .int .u8 g, .int .u8 b, .int .u8 0, .int .i64 0, .int .u8 0, .int .u8 0] 63 := by simpa using D4.set 2 (.int .u8 b)
  have R4 := Q4.kept (calm_setP v4 b0 2 (.int .u8 b)) (fun b hb hin => hn0 (by simp at hin; rw [← hin]; exact hb))
  have c4 : Calm F w _ := calm_new c3 s4 (calm_setP v4 b0 2 (.int .u8 b)) (by omega)
  clear R3 Q4 s4 r4 c3 d3 B3 D4
  go_wp2
  clear cD4 fD4
  rw [rounds_succ]
  go_wp2_with fail
  refine (rd_byteG _ _ _ _ _ _ _ R4).mono ?_
  rintro e v5 ⟨a, k5, e5, rfl, i3, Q5, s5, r5⟩
  have d5 : Rd (fun xs : List Int => xs.flatMap (fun y : Int => [y])) (PN U8 4) l k err [r, g, b, a] k5 e5 := d4.snoc pf_b r5
  have D5 := B4.calm s5 hn0
  have cD5 := D5.cell
  have fD5 := D5.frozen
  have B5 : Blk (v5.setCell ⟨b0, 3, none⟩ (.int .u8 a)) b0 #[.int .u8 r, .int .u8 g, .int .u8 b, .int .u8 a, .int .i64 0, .int .u8 0, .int .u8 0] 63 := by simpa using D5.set 3 (.int .u8 a)
  have R5 := Q5.kept (calm_setP v5 b0 3 (.int .u8 a)) (fun b hb hin => hn0 (by simp at hin; rw [← hin]; exact hb))
  have c5 : Calm F w _ := calm_new c4 s5 (calm_setP v5 b0 3 (.int .u8 a)) (by omega)
  clear R4 Q5 s5 r5 c4 d4 B4 D5
  go_wp2
  clear cD5 fD5
  rw [rounds_succ]
  go_wp2_with fail
  refine (rd_byteG _ _ _ _ _ _ _ R5).mono ?_
  rintro e v6 ⟨sten, k6, e6, rfl, i4, Q6, s6, r6⟩
  have d6 : Rd (fun xs : List Int => xs.flatMap (fun y : Int => [y])) (PN U8 5) l k err [r, g, b, a, sten] k6 e6 := d5.snoc pf_b r6
  have D6 := B5.calm s6 hn0
  have cD6 := D6.cell
  have fD6 := D6.frozen
  have B6 : Blk (v6.setCell ⟨b0, 5, none⟩ (.int .u8 sten)) b0 #[.int .u8 r, .int .u8 g, .int .u8 b, .int .u8 a, .int .i64 0, .int .u8 sten, .int .u8 0] 63 := by simpa using D6.set 5 (.int .u8 sten)
  have R6 := Q6.kept (calm_setP v6 b0 5 (.int .u8 sten)) (fun b hb hin => hn0 (by simp at hin; rw [← hin]; exact hb))
  have c6 : Calm F w _ := calm_new c5 s6 (calm_setP v6 b0 5 (.int .u8 sten)) (by omega)
  clear R5 Q6 s6 r6 c5 d5 B5 D6
  go_upto_region 7 with fail
  clear cD6 fD6
  go_wp2_with fail
  refine (rd_byteG _ _ _ _ _ _ _ R6).mono ?_
  rintro e v7 ⟨want, k7, e7, rfl, i5, Q7, s7, r7⟩
  have d7 : Rd (fun xs : List Int => xs.flatMap (fun y : Int => [y])) (PN U8 6) l k err [r, g, b, a, sten, want] k7 e7 := d6.snoc pf_b r7
  have D7 := B6.calm s7 hn0
  have cD7 := D7.cell
  have fD7 := D7.frozen
  have B7 : Blk (v7.setCell ⟨b0, 6, none⟩ (.int .u8 want)) b0 #[.int .u8 r, .int .u8 g, .int .u8 b, .int .u8 a, .int .i64 0, .int .u8 sten, .int .u8 want] 63 := by simpa using D7.set 6 (.int .u8 want)
  have R7 := Q7.kept (calm_setP v7 b0 6 (.int .u8 want)) (fun b hb hin => hn0 (by simp at hin; rw [← hin]; exact hb))
  have c7 : Calm F w _ := calm_new c6 s7 (calm_setP v7 b0 6 (.int .u8 want)) (by omega)
  clear R6 Q7 s7 r7 c6 d6 B6 D7
  go_upto_region 8 with fail
  clear cD7 fD7
  go_wp2_with fail
  refine (rd_cntG 9223372036854775807 (by omega) _ _ _ _ _ _ _ R7).mono ?_
  rintro e v8 ⟨n6, k8, e8, rfl, i6, Q8, s8, r8⟩
  have d8 := d7.pair (fun a b r s ha hb hh => pf_b.many a b r s (ha.1.trans hb.1.symm) ha.2 hb.2 hh) r8
  have D8 := B7.calm s8 hn0
  have cD8 := D8.cell
  have fD8 := D8.frozen
  have B8 : Blk (v8.setCell ⟨b0, 4, none⟩ (.int .i64 (n6 : Int))) b0 #[.int .u8 r, .int .u8 g, .int .u8 b, .int .u8 a, .int .i64 (n6 : Int), .int .u8 sten, .int .u8 want] 63 := by simpa using D8.set 4 (.int .i64 (n6 : Int))
  have R8 := Q8.kept (calm_setP v8 b0 4 (.int .i64 (n6 : Int))) (fun b hb hin => hn0 (by simp at hin; rw [← hin]; exact hb))
  have c8 : Calm F w _ := calm_new c7 s8 (calm_setP v8 b0 4 (.int .i64 (n6 : Int))) (by omega)
  clear R7 Q8 s8 r8 c7 d7 B7 D8
  go_upto_region 9 with fail
  clear cD8 fD8
  generalize hv9 : v8.setCell ⟨b0, 4, none⟩ (.int .i64 (n6 : Int)) = w9 at *
  clear hv9
  have HS := B8.setRow #[.int .u8 r, .int .u8 g, .int .u8 b, .int .u8 a, .int .i64 (n6 : Int), .int .u8 sten, .int .u8 want]
  have c9 : Calm F w _ := c8.setRow (g := b0) (.inl (by omega)) #[.int .u8 r, .int .u8 g, .int .u8 b, .int .u8 a, .int .i64 (n6 : Int), .int .u8 sten, .int .u8 want]
  have R9 := R8.kept (calm_setRow w9 b0 #[.int .u8 r, .int .u8 g, .int .u8 b, .int .u8 a, .int .i64 (n6 : Int), .int .u8 sten, .int .u8 want]) (fun b hb hin => hn0 (by simp at hin; rw [← hin]; exact hb))
  go_wp2_with (first
    | ((with_reducible refine wpList_load_blk (op := ⟨some 22, _, _, _, _, _⟩) ?_ 63 (.tmp 2) ?_ b0 ?_ (z := #[.int .u8 r, .int .u8 g, .int .u8 b, .int .u8 a, .int .i64 (n6 : Int), .int .u8 sten, .int .u8 want]) (T := 63) B8 Try.underlying63 ?_ ?_ ?_); rfl; rfl; rfl; rfl; kernel_rfl)
    | ((with_reducible refine wpList_store_blk (op := ⟨none, .store 63 (.tmp 2) (.tmp 22), _, _, _, _⟩) ?_ 63 (.tmp 2) (.tmp 22) ?_ b0 ?_ (cs := #[.int .u8 r, .int .u8 g, .int .u8 b, .int .u8 a, .int .i64 (n6 : Int), .int .u8 sten, .int .u8 want]) ?_ (z := #[.int .u8 r, .int .u8 g, .int .u8 b, .int .u8 a, .int .i64 (n6 : Int), .int .u8 sten, .int .u8 want]) (T := 63) ?_ ?_ ?_ ?_ ?_); rfl; rfl; rfl; rfl; exact B8; kernel_rfl; kernel_rfl; rfl)
    | fail)
  refine bodyPost_ret (v := .agg #[.int .u8 r, .int .u8 g, .int .u8 b, .int .u8 a, .int .i64 (n6 : Int), .int .u8 sten, .int .u8 want]) (results_blk (b := b0) (t := 2) (ty := 63) rfl rfl HS Try.underlying63 rfl (by kernel_rfl)) rfl ?_
  refine ⟨⟨r, g, b, a, (n6 : Int), sten, want⟩, _, _, rfl, ⟨⟨i0, i1, i2, i3, i4, i5⟩, (by show (0 : Int) ≤ (n6 : Int); omega), (by show (n6 : Int) ≤ 9223372036854775807; omega)⟩, R9, c9, ?_⟩
  refine d8.to (fun c => ([c.r, c.g, c.b, c.a, c.sten, c.want], c.dep.toNat)) (fun hq => ⟨⟨⟨i0, i1, i2, i3, i4, i5⟩, (by show (0 : Int) ≤ (n6 : Int); omega), (by show (n6 : Int) ≤ 9223372036854775807; omega)⟩, by simp [encC, encN]⟩) (fun c hc => ?_)
  obtain ⟨⟨h1, h2, h3, h4, h5, h6⟩, h7, h8⟩ := hc
  exact ⟨⟨⟨rfl, fun y hy => by simp at hy; rcases hy with rfl | rfl | rfl | rfl | rfl | rfl <;> assumption⟩, by simp only; omega⟩, by simp [encC, encN]⟩
/-- a program that may be -/
def PD (d : Bool) (xs : List In) : Prop := (∀ x ∈ xs, x.ok) ∧ chk d xs = 0
theorem pf_pd (d : Bool) : PF enc (PD d) := fun x y r s _ _ h => pf_p x y r s trivial trivial h
theorem TakeP.rd {d : Bool} {l : List Int} {k k' : Nat} {err err' : Int} {xs : List In} (h : TakeP d l k err xs k' err') (hok : ∀ x ∈ xs, x.ok) : Rd enc (PD d) l k err xs k' err' := by
  rcases h with ⟨a, b, c, e⟩ | ⟨a, b, c⟩
  · exact .inl ⟨a, b, ⟨hok, c⟩, e⟩
  · refine .inr ⟨a, ?_⟩
    rcases c with c | c
    · exact .inl c
    · exact .inr fun y r hy => c y r hy.1 hy.2
set_option maxRecDepth 100000 in
set_option maxHeartbeats 1000000 in
theorem decProgs_any (d : Bool) (w : World) (base p : Nat) (l : List Int) (k : Nat) (err : Int) (F : List Nat) (h : Rdr w base p l k err F) : Calls Try.prog 39 #[.pointer (some ⟨p, 0, none⟩), .bool d] w fun e w' => ∃ (v : Value) (svs : List SlV) (P : List (List In)) (k' : Nat) (err' : Int), e = .returned v ∧ OwnG LP w' w.heap.size v svs ∧ ProgsAt w' w.heap.size svs P ∧ (∀ s ∈ svs, ∀ k, s.v.ownBlock = some k → v.ownBlock ≠ some k) ∧ (∀ p ∈ P, (∀ x ∈ p, x.ok) ∧ p.length ≤ 24) ∧ P.length ≤ 4 ∧ Rdr w' base p l k' err' F ∧ Calm F w w' ∧ Rd (seqE enc) (fun P => P.length ≤ 4 ∧ ∀ p ∈ P, PD d p) l k err P k' err' := by
  have hF := h.lt
  go_enter Try.func39, Try.ntmps39
  go_wp2_with fail
  refine (rd_cntG 4 (by omega) _ _ _ _ _ _ _ h).mono ?_
  rintro e w1 ⟨n, k1, e1, rfl, hn, R1, c1, r1⟩
  have hnI : (n : Int) ≤ 4 := by omega
  have hz1 := c1.size
  clear h
  go_wp2_with fail
  go_loopg [8, 5] n (fun n0 iv pv wx => ∃ (j : Nat) (svs : List SlV) (P : List (List In)) (kj : Nat) (ej : Int), j + n0 = n ∧ iv = .int .i64 j ∧ OwnG LP wx w.heap.size pv svs ∧ ProgsAt wx w.heap.size svs P ∧ (∀ s ∈ svs, ∀ k, s.v.ownBlock = some k → pv.ownBlock ≠ some k) ∧ (∀ p ∈ P, (∀ x ∈ p, x.ok) ∧ p.length ≤ 24) ∧ P.length = j ∧ Rdr wx base p l kj ej F ∧ Calm F w wx ∧ Rd (fun P : List (List In) => P.flatMap enc) (PN (PD d) j) l k1 e1 P kj ej)
  case atStart => exact ⟨0, [], [], k1, e1, by omega, by simp, OwnG.nil _ _ _, ⟨rfl, fun i s hs => by simp at hs⟩, (fun s hs => by simp at hs), (fun p hp => by simp at hp), rfl, R1, c1, Rd.none⟩
  case round =>
    clear R1 c1 hz1
    obtain ⟨j, svs, P, kj, ej, hjk, rfl, o1, P1, hap, hpok, hPl, R1, c1, d1⟩ := hrel
    have hz1 := c1.size
    by_cases hj : j < n
    · have hjI : (j : Int) < (n : Int) := by omega
      have hsl : svs.length ≤ 4 := by rw [P1.1, hPl]; omega
      obtain ⟨pa0, pn0, pc0⟩ : SlV := ⟨none, 0, 0⟩
      obtain ⟨poA, poC, rfl, -, -⟩ := o1.slice
      go_wp2_with fail
      refine (take_any d _ _ _ _ _ _ _ R1).mono ?_
      rintro e w3 ⟨v3, ys, k3, e3, rfl, o3, hyok, hyl, R3, s3, t3⟩
      have hFb : ∀ b ∈ F, ∀ v : Value, (∀ k, v.ownBlock = some k → w.heap.size ≤ k) → v.ownBlock ≠ some b := fun b hb v hv hh => by have := hv b hh; have := (hF b hb).2; omega
      have o1' := o1.calm s3.1 (fun k hk hin => by have := (o1.lt k hk).1; have := (hF k hin).2; omega)
      have P1' := P1.calm s3.1 (fun s hs k hk hin => by have := (P1.lt s hs k hk).1; have := (hF k hin).2; omega)
      have d3 := d1.snoc (pf_pd d) (t3.rd hyok)
      have c3 := c1.trans s3.1
      obtain ⟨ao3, c3', rfl, -, -⟩ := o3.slice
      have o4 := o1'.ext ((Ext.refl w3).alloc #[.slice ao3 ys.length c3'] 74)
      have c4 := c3.trans (((Ext.refl w3).alloc #[.slice ao3 ys.length c3'] 74).calm F)
      have P4 := P1'.ext ((Ext.refl w3).alloc #[.slice ao3 ys.length c3'] 74)
      have p4 := (o3.mono hz1).ext ((Ext.refl w3).alloc #[.slice ao3 ys.length c3'] 74)
      have R4 := R3.ext ((Ext.refl w3).alloc #[.slice ao3 ys.length c3'] 74)
      have hcn : ∀ i u, (LP.cells ⟨ao3, ys.length, c3'⟩)[i]? = some u → (w3.alloc (.cells #[.slice ao3 ys.length c3'] 74)).cell? ⟨w3.heap.size, i, none⟩ = some u := fun i u hu => by
        rw [(Blk.new w3 _ _).cell]
        simpa [LP] using hu
      have z4 : (w3.alloc (.cells #[.slice ao3 ys.length c3'] 74)).heap.size = w3.heap.size + 1 := by simp
      have zw := s3.1.size
      have hu5 := o1.lt
      have hP1 := P1.lt
      have ho3 := o3.lt
      clear o1 o3 P1 o1' P1' R3 s3 t3 c3 d1
      go_wp2_with (at_builtin; refine wpList_append_g1 LP rfl _ _ rfl w.heap.size _ svs rfl o4 w3.heap.size 1 ⟨ao3, ys.length, c3'⟩ rfl hcn (by omega) (by simp; omega) ?_)
      intro v5 w5 o5 K5 hk5
      have c5 : Calm F w w5 := calm_own c4 K5 (fun g hg => (o4.lt g (Option.mem_toList.1 hg)).1)
      have R5 := R4.kept K5 (fun b hb hin => by have := (o4.lt b (Option.mem_toList.1 hin)).1; have := (hF b hb).2; omega)
      have P5 := (P4.calm K5 (fun s hs k hk hin => hap s hs k hk (Option.mem_toList.1 hin))).snoc (s := ⟨ao3, ys.length, c3'⟩) (p4.calm K5 (fun k hk hin => by
        have h1 := (hu5 k (Option.mem_toList.1 hin)).2
        have h2 := (ho3 k hk).1
        omega))
      have hap5 : ∀ s ∈ svs ++ [(⟨ao3, ys.length, c3'⟩ : SlV)], ∀ k, s.v.ownBlock = some k → v5.ownBlock ≠ some k := fun s hs k hk hv => by
        rcases hk5 k hv with h1 | h1
        · rcases List.mem_append.1 hs with h2 | h2
          · exact hap s h2 k hk h1
          · simp at h2
            subst h2
            have h3 := (hu5 k h1).2
            have h4 := (ho3 k hk).1
            omega
        · rcases List.mem_append.1 hs with h2 | h2
          · have := (hP1 s h2 k hk).2
            omega
          · simp at h2
            subst h2
            have := (ho3 k hk).2
            omega
      have hpok5 : ∀ q ∈ P ++ [ys], (∀ x ∈ q, x.ok) ∧ q.length ≤ 24 := fun q hq => by
        rcases List.mem_append.1 hq with h2 | h2
        · exact hpok q h2
        · rw [List.mem_singleton.1 h2]
          exact ⟨hyok, hyl⟩
      obtain ⟨ao5, c5', rfl, -, -⟩ := o5.slice
      clear o4 c4 P4 p4 R4 hcn K5 hk5
      go_wp2
      go_roundg (gk - 1)
      case measure => omega
      case rel => exact ⟨j + 1, svs ++ [⟨ao3, ys.length, c3'⟩], P ++ [ys], k3, e3, by omega, by simp, o5, P5, hap5, hpok5, by simp [hPl], R5, c5, d3⟩
    · obtain rfl : j = n := by omega
      have hfin := r1.seq d1
      go_wp2
      go_ret
      exact ⟨_, svs, P, kj, ej, rfl, o1, P1, hap, hpok, by omega, R1, c1, hfin⟩
end Go.Proofs.Ytbbfmlehddfneaa

namespace Go.Proofs.Ytbbfmlehddfneaa
open Go.RowKit
set_option linter.unusedVariables false
/-- a draw as it is read -/
structure Dr.rd0 (d : Dr) : Prop where
  fit : d.fit
  ok : d.ok
  len : d.idx.length ≤ 96
  clr : d.clears = true → d.cl.rdok
  big : d.vx ≤ 9223372036854775807 ∧ d.fr ≤ 9223372036854775807 ∧ ∀ y ∈ d.idx, 0 ≤ y ∧ y ≤ 9223372036854775807
def Dr.rd (d : Dr) : Prop := d.rd0 ∧ d.st.chk = 0
def PS9 (s : Stt) : Prop := s.byt ∧ s.chk = 0
theorem Take9.rd {l : List Int} {k k' : Nat} {err err' : Int} {s : Stt} (h : Take9 l k err s k' err') : s.byt ∧ Rd Stt.enc PS9 l k err s k' err' := by
  rcases h with ⟨a, b, _, c, d, e⟩ | ⟨a, rfl, c⟩
  · exact ⟨c, .inl ⟨a, b, ⟨c, d⟩, e⟩⟩
  · refine ⟨by simp [Stt.byt], .inr ⟨a, ?_⟩⟩
    rcases c with c | c
    · exact .inl c
    · exact .inr fun y r hy => c y r hy.2
theorem pf_9 : PF Stt.enc PS9 := fun x y r s _ _ h => Stt.enc_inj h
/-- a draw's state and kind -/
def hdD (d : Dr) : Stt × Int := (d.st, if d.clears then 3 else d.kind)
def tlD (d : Dr) : List Int := if d.clears then encC d.cl else encN d.vx ++ (encN d.fr ++ seqE encN d.idx)
def PH (q : Stt × Int) : Prop := PS9 q.1 ∧ U8 q.2
def eH (q : Stt × Int) : List Int := q.1.enc ++ [q.2]
theorem pf_h : PF eH PH := pf_9.pair pf_b
theorem hdD_ok (d : Dr) (h : d.rd) : PH (hdD d) ∧ encD d = eH (hdD d) ++ tlD d := by
  obtain ⟨⟨hf, hok, -, -, -⟩, hc⟩ := h
  refine ⟨⟨⟨hf.st, hc⟩, ?_⟩, ?_⟩
  · unfold hdD
    cases d.clears
    · exact hf.kind
    · simp [U8]
  · unfold encD eH hdD tlD encC
    cases d.clears <;> simp
theorem drawC_rd {l : List Int} {k k2 k3 : Nat} {err e2 e3 : Int} {s : Stt} {c : Clr} (h1 : Rd eH PH l k err (s, 3) k2 e2) (h2 : Rd encC Clr.rdok l k2 e2 c k3 e3) (hs : s.byt) (hc : c.rdok) :
    Dr.rd0 ⟨s, true, c, 0, 0, 0, []⟩ ∧ Rd encD Dr.rd l k err ⟨s, true, c, 0, 0, 0, []⟩ k3 e3 := by
  have hr0 : Dr.rd0 ⟨s, true, c, 0, 0, 0, []⟩ := ⟨⟨hs, hc.1, (by have := hc.2; unfold I64; simp only; omega), (by unfold I64; simp only; omega), (by unfold I64; simp only; omega), (by simp only; omega), by simp⟩, ⟨fun _ => ⟨rfl, rfl, rfl, rfl, hc.2.1⟩, fun h => by cases h⟩, by simp, fun _ => hc, by simp⟩
  refine ⟨hr0, h1.dep pf_h hdD tlD hdD_ok h2.stays fun he hp => ?_⟩
  rcases h2 with ⟨a, b, d, e⟩ | ⟨a, b⟩
  · exact .inl ⟨b, ⟨hr0, hp.1.2⟩, rfl, by simpa [tlD] using e⟩
  · refine .inr ⟨a, fun z r hz hzx hh => ?_⟩
    rcases b with b | b
    · exact b he
    · have hzc : z.clears = true := by
        cases hcl : z.clears with
        | true => rfl
        | false =>
          have h3 := (hz.1.ok.tri hcl).2.2.2.1
          simp only [hdD, hcl, Prod.mk.injEq] at hzx
          exact absurd hzx.2 (by simpa using h3)
      rw [tlD, hzc] at hh
      exact b z.cl r (hz.1.clr hzc) (by simpa using hh)
theorem drawT_rd {l : List Int} {k k2 k3 : Nat} {err e2 e3 : Int} {s : Stt} {kind : Int} {n1 n2 : Nat} {ns : List Nat} (hk3 : kind ≠ 3) (hk : U8 kind) (h1 : Rd eH PH l k err (s, kind) k2 e2)
    (h2 : Rd (fun q : (Nat × Nat) × List Nat => (leb q.1.1 ++ leb q.1.2) ++ seqE (fun n : Nat => leb n) q.2) (fun q => (q.1.1 ≤ 9223372036854775807 ∧ q.1.2 ≤ 9223372036854775807) ∧ (q.2.length ≤ 96 ∧ ∀ n ∈ q.2, n ≤ 9223372036854775807)) l k2 e2 ((n1, n2), ns) k3 e3) (hs : s.byt) (hn1 : n1 ≤ 9223372036854775807) (hn2 : n2 ≤ 9223372036854775807) (hns : ns.length ≤ 96) (hnn : ∀ n ∈ ns, n ≤ 9223372036854775807) :
    Dr.rd0 ⟨s, false, ⟨0, 0, 0, 0, 0, 0, 0⟩, n1, n2, kind, ns.map (Int.ofNat ·)⟩ ∧ Rd encD Dr.rd l k err ⟨s, false, ⟨0, 0, 0, 0, 0, 0, 0⟩, n1, n2, kind, ns.map (Int.ofNat ·)⟩ k3 e3 := by
  have hidx : ∀ y ∈ ns.map (Int.ofNat ·), 0 ≤ y ∧ y ≤ 9223372036854775807 := fun y hy => by
    obtain ⟨n, hn, rfl⟩ := List.mem_map.1 hy
    have := hnn n hn
    simp only [Int.ofNat_eq_natCast]
    omega
  have hr0 : Dr.rd0 ⟨s, false, ⟨0, 0, 0, 0, 0, 0, 0⟩, n1, n2, kind, ns.map (Int.ofNat ·)⟩ := ⟨⟨hs, by simp [Clr.byt], (by unfold I64; simp only; omega), (by unfold I64; simp only; omega), (by unfold I64; simp only; omega), hk, by simp; omega⟩, ⟨(fun h => by cases h), fun _ => ⟨rfl, by simp only; omega, by simp only; omega, hk3, fun y hy => (hidx y hy).1⟩⟩, by simpa using hns, (fun h => by cases h), by simp only; omega, by simp only; omega, hidx⟩
  have hflat : ∀ ms : List Int, (∀ y ∈ ms, 0 ≤ y) → seqE (fun n : Nat => leb n) (ms.map (·.toNat)) = seqE encN ms := fun ms h => by
    simp only [seqE, List.length_map]
    congr 1
    rw [List.flatMap_map]
    rfl
  refine ⟨hr0, h1.dep pf_h hdD tlD hdD_ok h2.stays fun he hp => ?_⟩
  rcases h2 with ⟨a, b, d, e⟩ | ⟨a, b⟩
  · refine .inl ⟨b, ⟨hr0, hp.1.2⟩, by simp [hdD], ?_⟩
    rw [e]
    have hf := hflat (ns.map (Int.ofNat ·)) (fun y hy => (hidx y hy).1)
    have hm : (ns.map (Int.ofNat ·)).map (·.toNat) = ns := by rw [List.map_map]; exact List.map_id'' (fun n => by simp) ns
    rw [hm] at hf
    show _ = (encN (n1 : Int) ++ (encN (n2 : Int) ++ seqE encN (ns.map (Int.ofNat ·)))) ++ l.drop k3
    rw [← hf]
    simp [encN]
  · refine .inr ⟨a, fun z r hz hzx hh => ?_⟩
    rcases b with b | b
    · exact b he
    · have hzc : z.clears = false := by
        cases hcl : z.clears with
        | false => rfl
        | true =>
          simp only [hdD, hcl, if_true, Prod.mk.injEq] at hzx
          exact absurd hzx.2.symm hk3
      rw [tlD, hzc] at hh
      obtain ⟨b1, b2, b3⟩ := hz.1.big
      obtain ⟨-, c1, c2, -, -⟩ := hz.1.ok.tri hzc
      refine b ((z.vx.toNat, z.fr.toNat), z.idx.map (·.toNat)) r ⟨⟨by simp only; omega, by simp only; omega⟩, by simpa using hz.1.len, fun n hn => ?_⟩ ?_
      · obtain ⟨y, hy, rfl⟩ := List.mem_map.1 hn
        have := b3 y hy
        omega
      · rw [hh]
        simp only [hflat z.idx (fun y hy => (b3 y hy).1), encN, Bool.false_eq_true, if_false, List.append_assoc]
end Go.Proofs.Ytbbfmlehddfneaa

namespace Go.Proofs.Ytbbfmlehddfneaa
open Go.RowKit
set_option linter.unusedVariables false
theorem calm_mix {F O : List Nat} {a b c : World} (h : Calm F a b) (k : Calm O b c) (hO : ∀ g ∈ O, g ∈ F ∨ a.heap.size ≤ g) : Calm F a c :=
  ⟨k.os.trans h.os, k.tape.trans h.tape, k.output.trans h.output, Nat.le_trans h.size k.size, fun x hx hn => (k.block x (Nat.lt_of_lt_of_le hx h.size) (fun hin => by
    rcases hO x hin with h1 | h1
    · exact hn h1
    · omega)).trans (h.block x hx hn)⟩
set_option maxRecDepth 100000 in
set_option maxHeartbeats 4000000 in
theorem decDraw_any (w : World) (base p : Nat) (l : List Int) (k : Nat) (err : Int) (F : List Nat) (h : Rdr w base p l k err F) : Calls Try.prog 40 #[.pointer (some ⟨p, 0, none⟩)] w fun e w' => ∃ (m : DrM) (d : Dr) (k' : Nat) (err' : Int), e = .returned (.agg m.l.toArray) ∧ m.is d ∧ OwnI w' w.heap.size m.ix.v d.idx ∧ d.rd0 ∧ Rdr w' base p l k' err' F ∧ Calm F w w' ∧ Rd encD Dr.rd l k err d k' err' := by
  have hF := h.lt
  have hn0 : w.heap.size ∉ F := fun hh => by have := (hF _ hh).2; omega
  have x1 := (Ext.refl w).alloc #[.int .u8 0, .bool false, .int .u8 0, .int .u8 0, .int .u8 0, .int .u8 0, .int .u8 0, .int .u8 0, .int .u8 0, .int .u8 0, .int .u8 0, .int .i64 0, .int .i64 0, .int .i64 0, .int .i64 0, .bool false, .int .u8 0, .int .u8 0, .int .u8 0, .int .u8 0, .int .i64 0, .int .u8 0, .int .u8 0, .int .i64 0, .int .i64 0, .int .u8 0, .slice none 0 0] 67
  have R1 := h.ext x1
  have c1 : Calm F w _ := x1.calm F
  have hz1 := x1.size
  go_enter Try.func40, Try.ntmps40
  go_upto_region 1 with fail
  have B1 := Blk.new w #[.int .u8 0, .bool false, .int .u8 0, .int .u8 0, .int .u8 0, .int .u8 0, .int .u8 0, .int .u8 0, .int .u8 0, .int .u8 0, .int .u8 0, .int .i64 0, .int .i64 0, .int .i64 0, .int .i64 0, .bool false, .int .u8 0, .int .u8 0, .int .u8 0, .int .u8 0, .int .i64 0, .int .u8 0, .int .u8 0, .int .i64 0, .int .i64 0, .int .u8 0, .slice none 0 0] 67
  generalize w.alloc (.cells #[.int .u8 0, .bool false, .int .u8 0, .int .u8 0, .int .u8 0, .int .u8 0, .int .u8 0, .int .u8 0, .int .u8 0, .int .u8 0, .int .u8 0, .int .i64 0, .int .i64 0, .int .i64 0, .int .i64 0, .bool false, .int .u8 0, .int .u8 0, .int .u8 0, .int .u8 0, .int .i64 0, .int .u8 0, .int .u8 0, .int .i64 0, .int .i64 0, .int .u8 0, .slice none 0 0] 67) = w1 at *
  generalize hb0 : w.heap.size = b0 at *
  have hb1 := B1.lt
  clear h x1
  go_wp2_with fail
  refine (take9_any _ _ _ _ _ _ _ R1).mono ?_
  rintro e w2 ⟨s, k2, e2, rfl, R2, s2, t2⟩
  obtain ⟨hby, r2⟩ := t2.rd
  have K2 := B1.calm s2.1 hn0
  have c2 := c1.trans s2.1
  have hz2 := c2.size
  have hb2 := K2.lt
  have Bz := Blk.new w2 #[.int .u8 0, .bool false, .int .u8 0, .int .u8 0, .int .u8 0, .int .u8 0, .int .u8 0, .int .u8 0, .int .u8 0, .int .u8 0, .int .u8 0, .int .i64 0, .int .i64 0, .int .i64 0, .int .i64 0, .bool false, .int .u8 0, .int .u8 0, .int .u8 0, .int .u8 0, .int .i64 0, .int .u8 0, .int .u8 0, .int .i64 0, .int .i64 0, .int .u8 0, .slice none 0 0] 67
  have Bs := Bz.setRow #[.int .u8 s.dep, .bool s.wr, .int .u8 s.ste, .int .u8 s.ref, .int .u8 s.msk, .int .u8 s.fai, .int .u8 s.hid, .int .u8 s.pas, .int .u8 s.ble, .int .u8 s.cha, .int .u8 s.cul, .int .i64 s.x0, .int .i64 s.y0, .int .i64 s.x1, .int .i64 s.y1, .bool false, .int .u8 0, .int .u8 0, .int .u8 0, .int .u8 0, .int .i64 0, .int .u8 0, .int .u8 0, .int .i64 0, .int .i64 0, .int .u8 0, .slice none 0 0]
  have y3 : Ext w2 ((w2.alloc (.cells #[.int .u8 0, .bool false, .int .u8 0, .int .u8 0, .int .u8 0, .int .u8 0, .int .u8 0, .int .u8 0, .int .u8 0, .int .u8 0, .int .u8 0, .int .i64 0, .int .i64 0, .int .i64 0, .int .i64 0, .bool false, .int .u8 0, .int .u8 0, .int .u8 0, .int .u8 0, .int .i64 0, .int .u8 0, .int .u8 0, .int .i64 0, .int .i64 0, .int .u8 0, .slice none 0 0] 67)).setRow w2.heap.size #[.int .u8 s.dep, .bool s.wr, .int .u8 s.ste, .int .u8 s.ref, .int .u8 s.msk, .int .u8 s.fai, .int .u8 s.hid, .int .u8 s.pas, .int .u8 s.ble, .int .u8 s.cha, .int .u8 s.cul, .int .i64 s.x0, .int .i64 s.y0, .int .i64 s.x1, .int .i64 s.y1, .bool false, .int .u8 0, .int .u8 0, .int .u8 0, .int .u8 0, .int .i64 0, .int .u8 0, .int .u8 0, .int .i64 0, .int .i64 0, .int .u8 0, .slice none 0 0]) := ((Ext.refl w2).alloc _ _).setRow (Nat.le_refl _) _
  have K3 := K2.ext y3
  have R3 := R2.ext y3
  have c3 := c2.trans (y3.calm F)
  have hn3 : w2.heap.size ∉ F := fun hh => by have := (hF _ hh).2; omega
  clear R1 c1 s2 t2 B1 R2 c2 K2
  go_upto_region 2 with (first
    | ((with_reducible refine wpList_store_blk (op := ⟨none, .store 67 (.tmp 3) (.tmp 7), _, _, _, _⟩) ?_ 67 (.tmp 3) (.tmp 7) ?_ w2.heap.size ?_ (cs := #[.int .u8 s.dep, .bool s.wr, .int .u8 s.ste, .int .u8 s.ref, .int .u8 s.msk, .int .u8 s.fai, .int .u8 s.hid, .int .u8 s.pas, .int .u8 s.ble, .int .u8 s.cha, .int .u8 s.cul, .int .i64 s.x0, .int .i64 s.y0, .int .i64 s.x1, .int .i64 s.y1, .bool false, .int .u8 0, .int .u8 0, .int .u8 0, .int .u8 0, .int .i64 0, .int .u8 0, .int .u8 0, .int .i64 0, .int .i64 0, .int .u8 0, .slice none 0 0]) ?_ (z := #[.int .u8 0, .bool false, .int .u8 0, .int .u8 0, .int .u8 0, .int .u8 0, .int .u8 0, .int .u8 0, .int .u8 0, .int .u8 0, .int .u8 0, .int .i64 0, .int .i64 0, .int .i64 0, .int .i64 0, .bool false, .int .u8 0, .int .u8 0, .int .u8 0, .int .u8 0, .int .i64 0, .int .u8 0, .int .u8 0, .int .i64 0, .int .i64 0, .int .u8 0, .slice none 0 0]) (T := 67) ?_ ?_ ?_ ?_ ?_); rfl; rfl; rfl; rfl; exact Bz; kernel_rfl; kernel_rfl; kernel_rfl)
    | fail)
  clear Bz
  generalize (w2.alloc (.cells #[.int .u8 0, .bool false, .int .u8 0, .int .u8 0, .int .u8 0, .int .u8 0, .int .u8 0, .int .u8 0, .int .u8 0, .int .u8 0, .int .u8 0, .int .i64 0, .int .i64 0, .int .i64 0, .int .i64 0, .bool false, .int .u8 0, .int .u8 0, .int .u8 0, .int .u8 0, .int .i64 0, .int .u8 0, .int .u8 0, .int .i64 0, .int .i64 0, .int .u8 0, .slice none 0 0] 67)).setRow w2.heap.size #[.int .u8 s.dep, .bool s.wr, .int .u8 s.ste, .int .u8 s.ref, .int .u8 s.msk, .int .u8 s.fai, .int .u8 s.hid, .int .u8 s.pas, .int .u8 s.ble, .int .u8 s.cha, .int .u8 s.cul, .int .i64 s.x0, .int .i64 s.y0, .int .i64 s.x1, .int .i64 s.y1, .bool false, .int .u8 0, .int .u8 0, .int .u8 0, .int .u8 0, .int .i64 0, .int .u8 0, .int .u8 0, .int .i64 0, .int .i64 0, .int .u8 0, .slice none 0 0] = w3 at *
  generalize hb3 : w2.heap.size = b3 at *
  have hb03 : b0 ≠ b3 := by omega
  have hb3w := Bs.lt
  clear y3
  go_wp2_with fail
  refine (rd_byteG _ _ _ _ _ _ _ R3).mono ?_
  rintro e w4 ⟨kind, k4, e4, rfl, hk, R4, c34, r4⟩
  have rh : Rd eH PH l k err (s, kind) k4 e4 := r2.pair pf_9 r4
  have D4 := Bs.calm c34 hn3
  have K4 := K3.calm c34 hn0
  have c4 := c3.trans c34
  have hz4 := c34.size
  have cD4 := D4.cell
  have fD4 := D4.frozen
  clear R3 c34 r4 r2 Bs K3 c3
  have HBY := Lib.hid hby
  have HRH := Lib.hid rh
  clear hby rh
  by_cases h3 : kind = 3
  · subst h3
    go_upto_region 5 with fail
    have D5 : Blk (w4.setCell ⟨b3, 15, none⟩ (.bool true)) b3 #[.int .u8 s.dep, .bool s.wr, .int .u8 s.ste, .int .u8 s.ref, .int .u8 s.msk, .int .u8 s.fai, .int .u8 s.hid, .int .u8 s.pas, .int .u8 s.ble, .int .u8 s.cha, .int .u8 s.cul, .int .i64 s.x0, .int .i64 s.y0, .int .i64 s.x1, .int .i64 s.y1, .bool true, .int .u8 0, .int .u8 0, .int .u8 0, .int .u8 0, .int .i64 0, .int .u8 0, .int .u8 0, .int .i64 0, .int .i64 0, .int .u8 0, .slice none 0 0] 67 := by simpa using D4.set 15 (.bool true)
    have K5 := K4.far (p := ⟨b3, 15, none⟩) hb03 (.bool true)
    have R5 := R4.kept (calm_setP w4 b3 15 (.bool true)) (fun b hb hin => hn3 (by simp at hin; rw [← hin]; exact hb))
    have c5 : Calm F w _ := calm_new c4 (Calm.refl F w4) (calm_setP w4 b3 15 (.bool true)) (by omega)
    clear D4 K4 R4 c4 cD4 fD4
    generalize w4.setCell ⟨b3, 15, none⟩ (.bool true) = w5 at *
    go_wp2_with fail
    refine (decClr_any _ _ _ _ _ _ _ R5).mono ?_
    rintro e w6 ⟨c, k6, e6, rfl, hc, R6, c56, r6⟩
    obtain ⟨hr0, hrd⟩ := drawC_rd HRH.out r6 HBY.out hc
    have D6 := D5.calm c56 hn3
    have K6 := K5.calm c56 hn0
    have c6 := c5.trans c56
    have cD6 := D6.cell
    have fD6 := D6.frozen
    clear D5 K5 R5 c5 c56 r6
    go_upto_region 6 with fail
    have D7 : Blk (w6.setCell ⟨b3, 16, none⟩ (.int .u8 c.r)) b3 #[.int .u8 s.dep, .bool s.wr, .int .u8 s.ste, .int .u8 s.ref, .int .u8 s.msk, .int .u8 s.fai, .int .u8 s.hid, .int .u8 s.pas, .int .u8 s.ble, .int .u8 s.cha, .int .u8 s.cul, .int .i64 s.x0, .int .i64 s.y0, .int .i64 s.x1, .int .i64 s.y1, .bool true, .int .u8 c.r, .int .u8 0, .int .u8 0, .int .u8 0, .int .i64 0, .int .u8 0, .int .u8 0, .int .i64 0, .int .i64 0, .int .u8 0, .slice none 0 0] 67 := by simpa using D6.set 16 (.int .u8 c.r)
    have K7 := K6.far (p := ⟨b3, 16, none⟩) hb03 (.int .u8 c.r)
    have R7 := R6.kept (calm_setP _ b3 16 (.int .u8 c.r)) (fun b hb hin => hn3 (by simp at hin; rw [← hin]; exact hb))
    have c7 : Calm F w _ := calm_new c6 (Calm.refl F _) (calm_setP _ b3 16 (.int .u8 c.r)) (by omega)
    have D8 : Blk ((w6.setCell ⟨b3, 16, none⟩ (.int .u8 c.r)).setCell ⟨b3, 17, none⟩ (.int .u8 c.g)) b3 #[.int .u8 s.dep, .bool s.wr, .int .u8 s.ste, .int .u8 s.ref, .int .u8 s.msk, .int .u8 s.fai, .int .u8 s.hid, .int .u8 s.pas, .int .u8 s.ble, .int .u8 s.cha, .int .u8 s.cul, .int .i64 s.x0, .int .i64 s.y0, .int .i64 s.x1, .int .i64 s.y1, .bool true, .int .u8 c.r, .int .u8 c.g, .int .u8 0, .int .u8 0, .int .i64 0, .int .u8 0, .int .u8 0, .int .i64 0, .int .i64 0, .int .u8 0, .slice none 0 0] 67 := by simpa using D7.set 17 (.int .u8 c.g)
    have K8 := K7.far (p := ⟨b3, 17, none⟩) hb03 (.int .u8 c.g)
    have R8 := R7.kept (calm_setP _ b3 17 (.int .u8 c.g)) (fun b hb hin => hn3 (by simp at hin; rw [← hin]; exact hb))
    have c8 : Calm F w _ := calm_new c7 (Calm.refl F _) (calm_setP _ b3 17 (.int .u8 c.g)) (by omega)
    have D9 : Blk (((w6.setCell ⟨b3, 16, none⟩ (.int .u8 c.r)).setCell ⟨b3, 17, none⟩ (.int .u8 c.g)).setCell ⟨b3, 18, none⟩ (.int .u8 c.b)) b3 #[.int .u8 s.dep, .bool s.wr, .int .u8 s.ste, .int .u8 s.ref, .int .u8 s.msk, .int .u8 s.fai, .int .u8 s.hid, .int .u8 s.pas, .int .u8 s.ble, .int .u8 s.cha, .int .u8 s.cul, .int .i64 s.x0, .int .i64 s.y0, .int .i64 s.x1, .int .i64 s.y1, .bool true, .int .u8 c.r, .int .u8 c.g, .int .u8 c.b, .int .u8 0, .int .i64 0, .int .u8 0, .int .u8 0, .int .i64 0, .int .i64 0, .int .u8 0, .slice none 0 0] 67 := by simpa using D8.set 18 (.int .u8 c.b)
    have K9 := K8.far (p := ⟨b3, 18, none⟩) hb03 (.int .u8 c.b)
    have R9 := R8.kept (calm_setP _ b3 18 (.int .u8 c.b)) (fun b hb hin => hn3 (by simp at hin; rw [← hin]; exact hb))
    have c9 : Calm F w _ := calm_new c8 (Calm.refl F _) (calm_setP _ b3 18 (.int .u8 c.b)) (by omega)
    have D10 : Blk ((((w6.setCell ⟨b3, 16, none⟩ (.int .u8 c.r)).setCell ⟨b3, 17, none⟩ (.int .u8 c.g)).setCell ⟨b3, 18, none⟩ (.int .u8 c.b)).setCell ⟨b3, 19, none⟩ (.int .u8 c.a)) b3 #[.int .u8 s.dep, .bool s.wr, .int .u8 s.ste, .int .u8 s.ref, .int .u8 s.msk, .int .u8 s.fai, .int .u8 s.hid, .int .u8 s.pas, .int .u8 s.ble, .int .u8 s.cha, .int .u8 s.cul, .int .i64 s.x0, .int .i64 s.y0, .int .i64 s.x1, .int .i64 s.y1, .bool true, .int .u8 c.r, .int .u8 c.g, .int .u8 c.b, .int .u8 c.a, .int .i64 0, .int .u8 0, .int .u8 0, .int .i64 0, .int .i64 0, .int .u8 0, .slice none 0 0] 67 := by simpa using D9.set 19 (.int .u8 c.a)
    have K10 := K9.far (p := ⟨b3, 19, none⟩) hb03 (.int .u8 c.a)
    have R10 := R9.kept (calm_setP _ b3 19 (.int .u8 c.a)) (fun b hb hin => hn3 (by simp at hin; rw [← hin]; exact hb))
    have c10 : Calm F w _ := calm_new c9 (Calm.refl F _) (calm_setP _ b3 19 (.int .u8 c.a)) (by omega)
    have D11 : Blk (((((w6.setCell ⟨b3, 16, none⟩ (.int .u8 c.r)).setCell ⟨b3, 17, none⟩ (.int .u8 c.g)).setCell ⟨b3, 18, none⟩ (.int .u8 c.b)).setCell ⟨b3, 19, none⟩ (.int .u8 c.a)).setCell ⟨b3, 20, none⟩ (.int .i64 c.dep)) b3 #[.int .u8 s.dep, .bool s.wr, .int .u8 s.ste, .int .u8 s.ref, .int .u8 s.msk, .int .u8 s.fai, .int .u8 s.hid, .int .u8 s.pas, .int .u8 s.ble, .int .u8 s.cha, .int .u8 s.cul, .int .i64 s.x0, .int .i64 s.y0, .int .i64 s.x1, .int .i64 s.y1, .bool true, .int .u8 c.r, .int .u8 c.g, .int .u8 c.b, .int .u8 c.a, .int .i64 c.dep, .int .u8 0, .int .u8 0, .int .i64 0, .int .i64 0, .int .u8 0, .slice none 0 0] 67 := by simpa using D10.set 20 (.int .i64 c.dep)
    have K11 := K10.far (p := ⟨b3, 20, none⟩) hb03 (.int .i64 c.dep)
    have R11 := R10.kept (calm_setP _ b3 20 (.int .i64 c.dep)) (fun b hb hin => hn3 (by simp at hin; rw [← hin]; exact hb))
    have c11 : Calm F w _ := calm_new c10 (Calm.refl F _) (calm_setP _ b3 20 (.int .i64 c.dep)) (by omega)
    have D12 : Blk ((((((w6.setCell ⟨b3, 16, none⟩ (.int .u8 c.r)).setCell ⟨b3, 17, none⟩ (.int .u8 c.g)).setCell ⟨b3, 18, none⟩ (.int .u8 c.b)).setCell ⟨b3, 19, none⟩ (.int .u8 c.a)).setCell ⟨b3, 20, none⟩ (.int .i64 c.dep)).setCell ⟨b3, 21, none⟩ (.int .u8 c.sten)) b3 #[.int .u8 s.dep, .bool s.wr, .int .u8 s.ste, .int .u8 s.ref, .int .u8 s.msk, .int .u8 s.fai, .int .u8 s.hid, .int .u8 s.pas, .int .u8 s.ble, .int .u8 s.cha, .int .u8 s.cul, .int .i64 s.x0, .int .i64 s.y0, .int .i64 s.x1, .int .i64 s.y1, .bool true, .int .u8 c.r, .int .u8 c.g, .int .u8 c.b, .int .u8 c.a, .int .i64 c.dep, .int .u8 c.sten, .int .u8 0, .int .i64 0, .int .i64 0, .int .u8 0, .slice none 0 0] 67 := by simpa using D11.set 21 (.int .u8 c.sten)
    have K12 := K11.far (p := ⟨b3, 21, none⟩) hb03 (.int .u8 c.sten)
    have R12 := R11.kept (calm_setP _ b3 21 (.int .u8 c.sten)) (fun b hb hin => hn3 (by simp at hin; rw [← hin]; exact hb))
    have c12 : Calm F w _ := calm_new c11 (Calm.refl F _) (calm_setP _ b3 21 (.int .u8 c.sten)) (by omega)
    have D13 : Blk (((((((w6.setCell ⟨b3, 16, none⟩ (.int .u8 c.r)).setCell ⟨b3, 17, none⟩ (.int .u8 c.g)).setCell ⟨b3, 18, none⟩ (.int .u8 c.b)).setCell ⟨b3, 19, none⟩ (.int .u8 c.a)).setCell ⟨b3, 20, none⟩ (.int .i64 c.dep)).setCell ⟨b3, 21, none⟩ (.int .u8 c.sten)).setCell ⟨b3, 22, none⟩ (.int .u8 c.want)) b3 #[.int .u8 s.dep, .bool s.wr, .int .u8 s.ste, .int .u8 s.ref, .int .u8 s.msk, .int .u8 s.fai, .int .u8 s.hid, .int .u8 s.pas, .int .u8 s.ble, .int .u8 s.cha, .int .u8 s.cul, .int .i64 s.x0, .int .i64 s.y0, .int .i64 s.x1, .int .i64 s.y1, .bool true, .int .u8 c.r, .int .u8 c.g, .int .u8 c.b, .int .u8 c.a, .int .i64 c.dep, .int .u8 c.sten, .int .u8 c.want, .int .i64 0, .int .i64 0, .int .u8 0, .slice none 0 0] 67 := by simpa using D12.set 22 (.int .u8 c.want)
    have K13 := K12.far (p := ⟨b3, 22, none⟩) hb03 (.int .u8 c.want)
    have R13 := R12.kept (calm_setP _ b3 22 (.int .u8 c.want)) (fun b hb hin => hn3 (by simp at hin; rw [← hin]; exact hb))
    have c13 : Calm F w _ := calm_new c12 (Calm.refl F _) (calm_setP _ b3 22 (.int .u8 c.want)) (by omega)
    clear D6 K6 R6 c6 cD6 fD6 D7 K7 R7 c7 D8 K8 R8 c8 D9 K9 R9 c9 D10 K10 R10 c10 D11 K11 R11 c11 D12 K12 R12 c12
    generalize ((((((w6.setCell ⟨b3, 16, none⟩ (.int .u8 c.r)).setCell ⟨b3, 17, none⟩ (.int .u8 c.g)).setCell ⟨b3, 18, none⟩ (.int .u8 c.b)).setCell ⟨b3, 19, none⟩ (.int .u8 c.a)).setCell ⟨b3, 20, none⟩ (.int .i64 c.dep)).setCell ⟨b3, 21, none⟩ (.int .u8 c.sten)).setCell ⟨b3, 22, none⟩ (.int .u8 c.want) = w13 at *
    have K9 := K13
    have HS := K9.setRow #[.int .u8 s.dep, .bool s.wr, .int .u8 s.ste, .int .u8 s.ref, .int .u8 s.msk, .int .u8 s.fai, .int .u8 s.hid, .int .u8 s.pas, .int .u8 s.ble, .int .u8 s.cha, .int .u8 s.cul, .int .i64 s.x0, .int .i64 s.y0, .int .i64 s.x1, .int .i64 s.y1, .bool true, .int .u8 c.r, .int .u8 c.g, .int .u8 c.b, .int .u8 c.a, .int .i64 c.dep, .int .u8 c.sten, .int .u8 c.want, .int .i64 0, .int .i64 0, .int .u8 0, .slice none 0 0]
    have cE := c13.setRow (g := b0) (.inl (by omega)) #[.int .u8 s.dep, .bool s.wr, .int .u8 s.ste, .int .u8 s.ref, .int .u8 s.msk, .int .u8 s.fai, .int .u8 s.hid, .int .u8 s.pas, .int .u8 s.ble, .int .u8 s.cha, .int .u8 s.cul, .int .i64 s.x0, .int .i64 s.y0, .int .i64 s.x1, .int .i64 s.y1, .bool true, .int .u8 c.r, .int .u8 c.g, .int .u8 c.b, .int .u8 c.a, .int .i64 c.dep, .int .u8 c.sten, .int .u8 c.want, .int .i64 0, .int .i64 0, .int .u8 0, .slice none 0 0]
    have RE := R13.kept (calm_setRow w13 b0 #[.int .u8 s.dep, .bool s.wr, .int .u8 s.ste, .int .u8 s.ref, .int .u8 s.msk, .int .u8 s.fai, .int .u8 s.hid, .int .u8 s.pas, .int .u8 s.ble, .int .u8 s.cha, .int .u8 s.cul, .int .i64 s.x0, .int .i64 s.y0, .int .i64 s.x1, .int .i64 s.y1, .bool true, .int .u8 c.r, .int .u8 c.g, .int .u8 c.b, .int .u8 c.a, .int .i64 c.dep, .int .u8 c.sten, .int .u8 c.want, .int .i64 0, .int .i64 0, .int .u8 0, .slice none 0 0]) (fun b hb hin => hn0 (by simp at hin; rw [← hin]; exact hb))
    go_wp2_with (first
      | ((with_reducible refine wpList_load_blk (op := ⟨some 16, _, _, _, _, _⟩) ?_ 67 (.tmp 3) ?_ b3 ?_ (z := #[.int .u8 s.dep, .bool s.wr, .int .u8 s.ste, .int .u8 s.ref, .int .u8 s.msk, .int .u8 s.fai, .int .u8 s.hid, .int .u8 s.pas, .int .u8 s.ble, .int .u8 s.cha, .int .u8 s.cul, .int .i64 s.x0, .int .i64 s.y0, .int .i64 s.x1, .int .i64 s.y1, .bool true, .int .u8 c.r, .int .u8 c.g, .int .u8 c.b, .int .u8 c.a, .int .i64 c.dep, .int .u8 c.sten, .int .u8 c.want, .int .i64 0, .int .i64 0, .int .u8 0, .slice none 0 0]) (T := 67) D13 Try.underlying67 ?_ ?_ ?_); rfl; rfl; rfl; rfl; kernel_rfl)
      | ((with_reducible refine wpList_store_blk (op := ⟨none, .store 67 (.tmp 2) (.tmp 16), _, _, _, _⟩) ?_ 67 (.tmp 2) (.tmp 16) ?_ b0 ?_ (cs := #[.int .u8 s.dep, .bool s.wr, .int .u8 s.ste, .int .u8 s.ref, .int .u8 s.msk, .int .u8 s.fai, .int .u8 s.hid, .int .u8 s.pas, .int .u8 s.ble, .int .u8 s.cha, .int .u8 s.cul, .int .i64 s.x0, .int .i64 s.y0, .int .i64 s.x1, .int .i64 s.y1, .bool true, .int .u8 c.r, .int .u8 c.g, .int .u8 c.b, .int .u8 c.a, .int .i64 c.dep, .int .u8 c.sten, .int .u8 c.want, .int .i64 0, .int .i64 0, .int .u8 0, .slice none 0 0]) ?_ (z := #[.int .u8 0, .bool false, .int .u8 0, .int .u8 0, .int .u8 0, .int .u8 0, .int .u8 0, .int .u8 0, .int .u8 0, .int .u8 0, .int .u8 0, .int .i64 0, .int .i64 0, .int .i64 0, .int .i64 0, .bool false, .int .u8 0, .int .u8 0, .int .u8 0, .int .u8 0, .int .i64 0, .int .u8 0, .int .u8 0, .int .i64 0, .int .i64 0, .int .u8 0, .slice none 0 0]) (T := 67) ?_ ?_ ?_ ?_ ?_); rfl; rfl; rfl; rfl; exact K9; kernel_rfl; kernel_rfl; kernel_rfl)
      | fail)
    refine bodyPost_ret (v := .agg #[.int .u8 s.dep, .bool s.wr, .int .u8 s.ste, .int .u8 s.ref, .int .u8 s.msk, .int .u8 s.fai, .int .u8 s.hid, .int .u8 s.pas, .int .u8 s.ble, .int .u8 s.cha, .int .u8 s.cul, .int .i64 s.x0, .int .i64 s.y0, .int .i64 s.x1, .int .i64 s.y1, .bool true, .int .u8 c.r, .int .u8 c.g, .int .u8 c.b, .int .u8 c.a, .int .i64 c.dep, .int .u8 c.sten, .int .u8 c.want, .int .i64 0, .int .i64 0, .int .u8 0, .slice none 0 0]) (results_blk (b := b0) (t := 2) (ty := 67) rfl rfl HS Try.underlying67 rfl (by kernel_rfl)) rfl ?_
    exact ⟨⟨s, true, c, 0, 0, 0, SlV.nil⟩, ⟨s, true, c, 0, 0, 0, []⟩, k6, e6, rfl, ⟨rfl, rfl, rfl, rfl, rfl, rfl⟩, OwnI.nil _ _, hr0, RE, cE, hrd⟩
  · have h3b : (kind == 3) = false := by simpa using h3
    go_upto_region 8 with fail
    have D5 : Blk (w4.setCell ⟨b3, 25, none⟩ (.int .u8 kind)) b3 #[.int .u8 s.dep, .bool s.wr, .int .u8 s.ste, .int .u8 s.ref, .int .u8 s.msk, .int .u8 s.fai, .int .u8 s.hid, .int .u8 s.pas, .int .u8 s.ble, .int .u8 s.cha, .int .u8 s.cul, .int .i64 s.x0, .int .i64 s.y0, .int .i64 s.x1, .int .i64 s.y1, .bool false, .int .u8 0, .int .u8 0, .int .u8 0, .int .u8 0, .int .i64 0, .int .u8 0, .int .u8 0, .int .i64 0, .int .i64 0, .int .u8 kind, .slice none 0 0] 67 := by simpa using D4.set 25 (.int .u8 kind)
    have K5 := K4.far (p := ⟨b3, 25, none⟩) hb03 (.int .u8 kind)
    have R5 := R4.kept (calm_setP w4 b3 25 (.int .u8 kind)) (fun b hb hin => hn3 (by simp at hin; rw [← hin]; exact hb))
    have c5 : Calm F w _ := calm_new c4 (Calm.refl F w4) (calm_setP w4 b3 25 (.int .u8 kind)) (by omega)
    clear D4 K4 R4 c4 cD4 fD4
    generalize w4.setCell ⟨b3, 25, none⟩ (.int .u8 kind) = w5 at *
    go_wp2_with fail
    refine (rd_cntG 9223372036854775807 (by omega) _ _ _ _ _ _ _ R5).mono ?_
    rintro e w6 ⟨n1, k6, e6, rfl, hnn1, R6, c56, r6⟩
    have D6 := D5.calm c56 hn3
    have K6 := K5.calm c56 hn0
    have c6 := c5.trans c56
    have cD6 := D6.cell
    have fD6 := D6.frozen
    clear D5 K5 R5 c5 c56
    go_upto_region 9 with fail
    have D7 : Blk (w6.setCell ⟨b3, 23, none⟩ (.int .i64 (n1 : Int))) b3 #[.int .u8 s.dep, .bool s.wr, .int .u8 s.ste, .int .u8 s.ref, .int .u8 s.msk, .int .u8 s.fai, .int .u8 s.hid, .int .u8 s.pas, .int .u8 s.ble, .int .u8 s.cha, .int .u8 s.cul, .int .i64 s.x0, .int .i64 s.y0, .int .i64 s.x1, .int .i64 s.y1, .bool false, .int .u8 0, .int .u8 0, .int .u8 0, .int .u8 0, .int .i64 0, .int .u8 0, .int .u8 0, .int .i64 (n1 : Int), .int .i64 0, .int .u8 kind, .slice none 0 0] 67 := by simpa using D6.set 23 (.int .i64 (n1 : Int))
    have K7 := K6.far (p := ⟨b3, 23, none⟩) hb03 (.int .i64 (n1 : Int))
    have R7 := R6.kept (calm_setP w6 b3 23 (.int .i64 (n1 : Int))) (fun b hb hin => hn3 (by simp at hin; rw [← hin]; exact hb))
    have c7 : Calm F w _ := calm_new c6 (Calm.refl F w6) (calm_setP w6 b3 23 (.int .i64 (n1 : Int))) (by omega)
    clear D6 K6 R6 c6 cD6 fD6
    generalize w6.setCell ⟨b3, 23, none⟩ (.int .i64 (n1 : Int)) = w7 at *
    go_wp2_with fail
    refine (rd_cntG 9223372036854775807 (by omega) _ _ _ _ _ _ _ R7).mono ?_
    rintro e w8 ⟨n2, k8, e8, rfl, hnn2, R8, c78, r8⟩
    have D8 := D7.calm c78 hn3
    have K8 := K7.calm c78 hn0
    have c8 := c7.trans c78
    have cD8 := D8.cell
    have fD8 := D8.frozen
    clear D7 K7 R7 c7 c78
    go_upto_region 10 with fail
    have D9 : Blk (w8.setCell ⟨b3, 24, none⟩ (.int .i64 (n2 : Int))) b3 #[.int .u8 s.dep, .bool s.wr, .int .u8 s.ste, .int .u8 s.ref, .int .u8 s.msk, .int .u8 s.fai, .int .u8 s.hid, .int .u8 s.pas, .int .u8 s.ble, .int .u8 s.cha, .int .u8 s.cul, .int .i64 s.x0, .int .i64 s.y0, .int .i64 s.x1, .int .i64 s.y1, .bool false, .int .u8 0, .int .u8 0, .int .u8 0, .int .u8 0, .int .i64 0, .int .u8 0, .int .u8 0, .int .i64 (n1 : Int), .int .i64 (n2 : Int), .int .u8 kind, .slice none 0 0] 67 := by simpa using D8.set 24 (.int .i64 (n2 : Int))
    have K9 := K8.far (p := ⟨b3, 24, none⟩) hb03 (.int .i64 (n2 : Int))
    have R9 := R8.kept (calm_setP w8 b3 24 (.int .i64 (n2 : Int))) (fun b hb hin => hn3 (by simp at hin; rw [← hin]; exact hb))
    have c9 : Calm F w _ := calm_new c8 (Calm.refl F w8) (calm_setP w8 b3 24 (.int .i64 (n2 : Int))) (by omega)
    clear D8 K8 R8 c8 cD8 fD8
    generalize w8.setCell ⟨b3, 24, none⟩ (.int .i64 (n2 : Int)) = w9 at *
    have r68 := r6.pair (pf_l _) r8
    clear r6 r8
    go_wp2_with fail
    refine (rd_cntG 96 (by omega) _ _ _ _ _ _ _ R9).mono ?_
    rintro e w10 ⟨n, k10, e10, rfl, hn, R10, c910, r10⟩
    have D10 := D9.calm c910 hn3
    have K10 := K9.calm c910 hn0
    have c10 := c9.trans c910
    have hz10 := D10.lt
    have hnI : (n : Int) ≤ 96 := by omega
    clear D9 K9 R9 c9 c910
    have HR68 := Lib.hid r68
    have HR10 := Lib.hid r10
    clear r68 r10
    go_wp2_with fail
    go_loopg [27] n (fun n0 iv wx => ∃ (j : Nat) (ia : Option Addr) (ic : Nat) (ns : List Nat) (kj : Nat) (ej : Int), j + n0 = n ∧ iv = .int .i64 j ∧ ns.length = j ∧ (∀ q ∈ ns, q ≤ 9223372036854775807) ∧ OwnG LI wx (b3 + 1) (.slice ia j ic) (ns.map (Int.ofNat ·)) ∧ Blk wx b3 #[.int .u8 s.dep, .bool s.wr, .int .u8 s.ste, .int .u8 s.ref, .int .u8 s.msk, .int .u8 s.fai, .int .u8 s.hid, .int .u8 s.pas, .int .u8 s.ble, .int .u8 s.cha, .int .u8 s.cul, .int .i64 s.x0, .int .i64 s.y0, .int .i64 s.x1, .int .i64 s.y1, .bool false, .int .u8 0, .int .u8 0, .int .u8 0, .int .u8 0, .int .i64 0, .int .u8 0, .int .u8 0, .int .i64 (n1 : Int), .int .i64 (n2 : Int), .int .u8 kind, .slice ia j ic] 67 ∧ Blk wx b0 #[.int .u8 0, .bool false, .int .u8 0, .int .u8 0, .int .u8 0, .int .u8 0, .int .u8 0, .int .u8 0, .int .u8 0, .int .u8 0, .int .u8 0, .int .i64 0, .int .i64 0, .int .i64 0, .int .i64 0, .bool false, .int .u8 0, .int .u8 0, .int .u8 0, .int .u8 0, .int .i64 0, .int .u8 0, .int .u8 0, .int .i64 0, .int .i64 0, .int .u8 0, .slice none 0 0] 67 ∧ Rdr wx base p l kj ej F ∧ Calm F w wx ∧ Rd (fun ns : List Nat => ns.flatMap (fun n : Nat => leb n)) (PN (fun n : Nat => n ≤ 9223372036854775807) j) l k10 e10 ns kj ej)
    case atStart => exact ⟨0, none, 0, [], k10, e10, by omega, by simp, rfl, (fun q hq => by simp at hq), OwnG.nil _ _ _, D10, K10, R10, c10, Rd.none⟩
    case round =>
      clear D10 K10 R10 c10 hz10
      obtain ⟨j, ia, ic, ns, kj, ej, hjk, rfl, hnsl, hnsb, oI, DJ, KJ, RJ, cJ, dJ⟩ := hrel
      have hzJ := DJ.lt
      have hIl := oI.lt
      have cDJ := DJ.cell
      by_cases hj : j < n
      · have hjI : (j : Int) < (n : Int) := by omega
        have nb : b3 ∉ F ++ (Value.slice ia j ic).ownBlock.toList := fun hh => by
          rcases List.mem_append.1 hh with h1 | h1
          · exact hn3 h1
          · have := (hIl _ (Option.mem_toList.1 h1)).1
            omega
        go_upto_region 12 with fail
        apply wp_region_last 6 [false, false, false, true, true, true, false, true] [32, 33, 34] (F ++ (Value.slice ia j ic).ownBlock.toList) (b3 :: (F ++ (Value.slice ia j ic).ownBlock.toList)) _ (by kernel_rfl) (by kernel_rfl) (by kernel_rfl) (by kernel_rfl)
        case H =>
          intro y0 hy0
          have hne : Nonempty (Wx y0) := ⟨⟨y0, Ext.refl y0⟩⟩
          have q0 := fun (y : Wx y0) => ((DJ.calm hy0 nb).ext y.ext).cell
          simp only [eraseM]
          repeat (go_big_quiet_step (fail))
          exact wpQuiet_nil rfl
        case hF => rfl
        case T =>
          change tailL _ _ _ _ _ [_, _, _, _] _ _
          refine fun u x0 hc => gives_enter (f := 37) (args := #[.pointer (some ⟨p, 0, none⟩), .int .i64 9223372036854775807]) (by simp [go_sem]) (rd_cntG 9223372036854775807 (by omega) u _ _ _ _ _ _ (RJ.ext x0)) ?_
          rintro e v6 ⟨q, k6, e6, rfl, hq, R6, c6, r6⟩
          have dK := dJ.snoc (pf_l _) r6
          have hc6 := hc.trans (c6.sub (fun b hb => List.mem_append_left _ hb))
          refine ⟨.int .i64 (q : Int), rfl, hc6.sub (fun b hb => List.mem_cons_of_mem _ hb), fun _ => hc6, fun u2 x2 hc2 => ?_⟩
          have K2 := hc2.trans (((Ext.refl u2).alloc #[.int .i64 (q : Int)] 3).calm _)
          refine gives_value (u' := u2.alloc (.cells #[.int .i64 (q : Int)] 3)) (v := .slice (some ⟨u2.heap.size, 0, none⟩) 1 1) ?_ ⟨K2.sub (fun b hb => List.mem_cons_of_mem _ hb), fun _ => K2, fun u3 x3 hc3 => ?_⟩
          · simp [go_sem]
          have o1 := (oI.ext x0).calm c6 (fun k hk hin => by have := (hIl k hk).1; have := (hF k hin).2; omega)
          have o3 := (o1.ext x2).ext (((Ext.refl u2).alloc #[.int .i64 (q : Int)] 3).trans x3)
          have hcn : ∀ i t, (LI.cells (q : Int))[i]? = some t → u3.cell? ⟨u2.heap.size, i, none⟩ = some t := fun i t ht => by
            rw [((Blk.new u2 _ _).ext x3).cell]
            simpa [LI] using ht
          have hz3 := hc3.size
          have R3 := ((R6.ext x2).ext ((Ext.refl u2).alloc #[.int .i64 (q : Int)] 3)).ext x3
          refine gives_append_g1 LI (.tmp 30) (.tmp 33) rfl (b3 + 1) _ _ rfl o3 u2.heap.size 1 (q : Int) rfl hcn (by simp; omega) (by omega) ?_
          intro v7 w7 o7 A7 hk7
          obtain ⟨ao7, c7, rfl, -, -⟩ := o7.slice
          have K7 := hc3.trans (A7.sub (fun b hb => List.mem_append_right _ hb))
          refine ⟨K7.sub (fun b hb => List.mem_cons_of_mem _ hb), fun _ => K7, fun u5 x5 hc5 => ?_⟩
          have D5 := DJ.calm hc5 nb
          have cG := D5.cell
          have fG := D5.frozen
          refine gives_skip (u' := u5.setCell ⟨b3, 26, none⟩ (.slice ao7 (ns.map (Int.ofNat ·) ++ [(q : Int)]).length c7)) (by simp [go_sem, cG, fG]) ⟨(hc5.sub (fun b hb => List.mem_cons_of_mem _ hb)).trans ((calm_setP u5 b3 26 _).sub (fun b hb => by simp at hb; simp [hb])), fun h => absurd rfl h, fun u6 x6 hc6' => ?_⟩
          have hlen : (ns.map (Int.ofNat ·) ++ [(q : Int)]).length = j + 1 := by simp [hnsl]
          rw [hlen] at o7 x6
          have kS := calm_setP u5 b3 26 (.slice ao7 (j + 1) c7)
          have o8 := ((o7.ext x5).calm kS (fun k hk hin => by
            have h1 := (o7.lt k hk).1
            simp at hin
            omega)).ext x6
          have D8 : Blk u6 b3 #[.int .u8 s.dep, .bool s.wr, .int .u8 s.ste, .int .u8 s.ref, .int .u8 s.msk, .int .u8 s.fai, .int .u8 s.hid, .int .u8 s.pas, .int .u8 s.ble, .int .u8 s.cha, .int .u8 s.cul, .int .i64 s.x0, .int .i64 s.y0, .int .i64 s.x1, .int .i64 s.y1, .bool false, .int .u8 0, .int .u8 0, .int .u8 0, .int .u8 0, .int .i64 0, .int .u8 0, .int .u8 0, .int .i64 (n1 : Int), .int .i64 (n2 : Int), .int .u8 kind, .slice ao7 (j + 1) c7] 67 := by simpa using (D5.set 26 (.slice ao7 (j + 1) c7)).ext x6
          have K8 := KJ.calm hc6' (fun hh => by
            rcases List.mem_cons.1 hh with h1 | h1
            · exact hb03 h1
            · rcases List.mem_append.1 h1 with h2 | h2
              · exact hn0 h2
              · have := (hIl _ (Option.mem_toList.1 h2)).1
                omega)
          have R8 := (((R3.kept A7 (fun b hb hin => by have := (hF b hb).2; have := (hIl _ (Option.mem_toList.1 hin)).1; omega)).ext x5).kept kS (fun b hb hin => hn3 (by simp at hin; rw [← hin]; exact hb))).ext x6
          have c8 : Calm F w u6 := calm_mix cJ hc6' (fun g hg => by
            rcases List.mem_cons.1 hg with h1 | h1
            · exact .inr (by omega)
            · rcases List.mem_append.1 h1 with h2 | h2
              · exact .inl h2
              · exact .inr (by have := (hIl _ (Option.mem_toList.1 h2)).1; omega))
          have hmap : ns.map (Int.ofNat ·) ++ [(q : Int)] = (ns ++ [q]).map (Int.ofNat ·) := by simp
          rw [hmap] at o8
          clear o3 o1 oI DJ KJ RJ cJ dJ R3 A7 K7 K2 hc3 hc5 hc6' hc6 hc cDJ cG fG D5 o7 r6 R6 hcn
          simp only [Act.put, List.setIfInBounds_toArray, List.set_cons_succ, List.set_cons_zero]
          go_wp2
          go_roundg (gk - 1)
          case measure => omega
          case rel => exact ⟨j + 1, ao7, c7, ns ++ [q], k6, e6, by omega, by simp, by simp [hnsl], (fun z hz => by rcases List.mem_append.1 hz with h1 | h1; exact hnsb z h1; (rw [List.mem_singleton.1 h1]; exact hq)), o8, D8, K8, R8, c8, dK⟩
      · obtain rfl : j = n := by omega
        have rs := HR10.out.seq dJ
        have r3 := HR68.out.pair (fun a b r s ha hb hh => (pf_l _).pair (pf_l _) a b r s ha hb hh) rs
        obtain ⟨hr0, hrd⟩ := drawT_rd h3 hk HRH.out r3 HBY.out hnn1 hnn2 (by omega) hnsb
        have oE0 := oI.ownI.mono (base' := b0) (by omega)
        have K9 := KJ
        have HS := K9.setRow #[.int .u8 s.dep, .bool s.wr, .int .u8 s.ste, .int .u8 s.ref, .int .u8 s.msk, .int .u8 s.fai, .int .u8 s.hid, .int .u8 s.pas, .int .u8 s.ble, .int .u8 s.cha, .int .u8 s.cul, .int .i64 s.x0, .int .i64 s.y0, .int .i64 s.x1, .int .i64 s.y1, .bool false, .int .u8 0, .int .u8 0, .int .u8 0, .int .u8 0, .int .i64 0, .int .u8 0, .int .u8 0, .int .i64 (n1 : Int), .int .i64 (n2 : Int), .int .u8 kind, .slice ia j ic]
        have cE := cJ.setRow (g := b0) (.inl (by omega)) #[.int .u8 s.dep, .bool s.wr, .int .u8 s.ste, .int .u8 s.ref, .int .u8 s.msk, .int .u8 s.fai, .int .u8 s.hid, .int .u8 s.pas, .int .u8 s.ble, .int .u8 s.cha, .int .u8 s.cul, .int .i64 s.x0, .int .i64 s.y0, .int .i64 s.x1, .int .i64 s.y1, .bool false, .int .u8 0, .int .u8 0, .int .u8 0, .int .u8 0, .int .i64 0, .int .u8 0, .int .u8 0, .int .i64 (n1 : Int), .int .i64 (n2 : Int), .int .u8 kind, .slice ia j ic]
        have RE := RJ.kept (calm_setRow wr b0 #[.int .u8 s.dep, .bool s.wr, .int .u8 s.ste, .int .u8 s.ref, .int .u8 s.msk, .int .u8 s.fai, .int .u8 s.hid, .int .u8 s.pas, .int .u8 s.ble, .int .u8 s.cha, .int .u8 s.cul, .int .i64 s.x0, .int .i64 s.y0, .int .i64 s.x1, .int .i64 s.y1, .bool false, .int .u8 0, .int .u8 0, .int .u8 0, .int .u8 0, .int .i64 0, .int .u8 0, .int .u8 0, .int .i64 (n1 : Int), .int .i64 (n2 : Int), .int .u8 kind, .slice ia j ic]) (fun b hb hin => hn0 (by simp at hin; rw [← hin]; exact hb))
        go_wp2_with (first
          | ((with_reducible refine wpList_load_blk (op := ⟨some 37, _, _, _, _, _⟩) ?_ 67 (.tmp 3) ?_ b3 ?_ (z := #[.int .u8 s.dep, .bool s.wr, .int .u8 s.ste, .int .u8 s.ref, .int .u8 s.msk, .int .u8 s.fai, .int .u8 s.hid, .int .u8 s.pas, .int .u8 s.ble, .int .u8 s.cha, .int .u8 s.cul, .int .i64 s.x0, .int .i64 s.y0, .int .i64 s.x1, .int .i64 s.y1, .bool false, .int .u8 0, .int .u8 0, .int .u8 0, .int .u8 0, .int .i64 0, .int .u8 0, .int .u8 0, .int .i64 (n1 : Int), .int .i64 (n2 : Int), .int .u8 kind, .slice ia j ic]) (T := 67) DJ Try.underlying67 ?_ ?_ ?_); rfl; rfl; rfl; rfl; kernel_rfl)
          | ((with_reducible refine wpList_store_blk (op := ⟨none, .store 67 (.tmp 2) (.tmp 37), _, _, _, _⟩) ?_ 67 (.tmp 2) (.tmp 37) ?_ b0 ?_ (cs := #[.int .u8 s.dep, .bool s.wr, .int .u8 s.ste, .int .u8 s.ref, .int .u8 s.msk, .int .u8 s.fai, .int .u8 s.hid, .int .u8 s.pas, .int .u8 s.ble, .int .u8 s.cha, .int .u8 s.cul, .int .i64 s.x0, .int .i64 s.y0, .int .i64 s.x1, .int .i64 s.y1, .bool false, .int .u8 0, .int .u8 0, .int .u8 0, .int .u8 0, .int .i64 0, .int .u8 0, .int .u8 0, .int .i64 (n1 : Int), .int .i64 (n2 : Int), .int .u8 kind, .slice ia j ic]) ?_ (z := #[.int .u8 0, .bool false, .int .u8 0, .int .u8 0, .int .u8 0, .int .u8 0, .int .u8 0, .int .u8 0, .int .u8 0, .int .u8 0, .int .u8 0, .int .i64 0, .int .i64 0, .int .i64 0, .int .i64 0, .bool false, .int .u8 0, .int .u8 0, .int .u8 0, .int .u8 0, .int .i64 0, .int .u8 0, .int .u8 0, .int .i64 0, .int .i64 0, .int .u8 0, .slice none 0 0]) (T := 67) ?_ ?_ ?_ ?_ ?_); rfl; rfl; rfl; rfl; exact K9; kernel_rfl; kernel_rfl; kernel_rfl)
          | fail)
        refine bodyPost_ret (v := .agg #[.int .u8 s.dep, .bool s.wr, .int .u8 s.ste, .int .u8 s.ref, .int .u8 s.msk, .int .u8 s.fai, .int .u8 s.hid, .int .u8 s.pas, .int .u8 s.ble, .int .u8 s.cha, .int .u8 s.cul, .int .i64 s.x0, .int .i64 s.y0, .int .i64 s.x1, .int .i64 s.y1, .bool false, .int .u8 0, .int .u8 0, .int .u8 0, .int .u8 0, .int .i64 0, .int .u8 0, .int .u8 0, .int .i64 (n1 : Int), .int .i64 (n2 : Int), .int .u8 kind, .slice ia j ic]) (results_blk (b := b0) (t := 2) (ty := 67) rfl rfl HS Try.underlying67 rfl (by kernel_rfl)) rfl ?_
        refine ⟨⟨s, false, ⟨0, 0, 0, 0, 0, 0, 0⟩, n1, n2, kind, ⟨ia, j, ic⟩⟩, _, kj, ej, rfl, ⟨rfl, rfl, rfl, rfl, rfl, rfl⟩, ?_, hr0, RE, cE, hrd⟩
        have oE1 := oE0.calm (calm_setRow wr b0 #[.int .u8 s.dep, .bool s.wr, .int .u8 s.ste, .int .u8 s.ref, .int .u8 s.msk, .int .u8 s.fai, .int .u8 s.hid, .int .u8 s.pas, .int .u8 s.ble, .int .u8 s.cha, .int .u8 s.cul, .int .i64 s.x0, .int .i64 s.y0, .int .i64 s.x1, .int .i64 s.y1, .bool false, .int .u8 0, .int .u8 0, .int .u8 0, .int .u8 0, .int .i64 0, .int .u8 0, .int .u8 0, .int .i64 (n1 : Int), .int .i64 (n2 : Int), .int .u8 kind, .slice ia j ic]) (fun k hk hin => by have := (hIl k hk).1; simp at hin; omega)
        first
          | exact oE1
          | (rw [hb0]; exact oE1)
end Go.Proofs.Ytbbfmlehddfneaa

namespace Go.Proofs.Ytbbfmlehddfneaa
open Go.RowKit
set_option linter.unusedVariables false
/-- behind the two letters -/
def encR (x : Scr) : List Int := encN x.W ++ (encN x.H ++ (x.m.flatMap encZ ++ (seqE encV x.verts ++ (seqE enc x.sh ++ (seqE enc x.pa ++ seqE encD x.draws)))))
theorem encS_R (x : Scr) : encS x = 65 :: 90 :: encR x := rfl
/-- a script as it is read -/
structure Scr.rd0 (x : Scr) : Prop where
  fit : x.fit
  W : 0 ≤ x.W
  H : 0 ≤ x.H
  v : x.verts.length ≤ 64
  s : x.sh.length ≤ 4
  p : x.pa.length ≤ 4
  d : x.draws.length ≤ 32
  dd : ∀ d ∈ x.draws, d.rd0
structure Scr.rd (x : Scr) : Prop where
  r0 : x.rd0
  s : ∀ p ∈ x.sh, PD false p
  p : ∀ p ∈ x.pa, PD true p
  d : ∀ d ∈ x.draws, d.rd
theorem Rd.cat {α : Type} {e : α → List Int} {P : α → Prop} {l : List Int} {k k1 k2 : Nat} {err err1 err2 : Int} {n m : Nat} {xs ys : List α} (hp : PF e P) (h : Rd (fun xs : List α => xs.flatMap e) (PN P n) l k err xs k1 err1) (h2 : Rd (fun xs : List α => xs.flatMap e) (PN P m) l k1 err1 ys k2 err2) : Rd (fun xs : List α => xs.flatMap e) (PN P (n + m)) l k err (xs ++ ys) k2 err2 := by
  refine (h.pair (fun a b r s ha hb hh => hp.many a b r s (ha.1.trans hb.1.symm) ha.2 hb.2 hh) h2).to (fun zs => (zs.take n, zs.drop n)) (fun hq => ⟨⟨by simp [hq.1.1, hq.2.1], fun y hy => (List.mem_append.1 hy).elim (hq.1.2 y) (hq.2.2 y)⟩, by simp⟩) (fun zs hz => ?_)
  have hz1 := hz.1
  refine ⟨⟨⟨by simp only [List.length_take]; omega, fun y hy => hz.2 y (List.mem_of_mem_take hy)⟩, by simp only [List.length_drop]; omega, fun y hy => hz.2 y (List.mem_of_mem_drop hy)⟩, ?_⟩
  show List.flatMap e (zs.take n) ++ List.flatMap e (zs.drop n) = List.flatMap e zs
  rw [← List.flatMap_append, List.take_append_drop]
theorem vert_rd {l : List Int} {k k1 k2 : Nat} {err err1 err2 : Int} {p0 p1 p2 p3 c0 c1 c2 c3 : Int} (h : Rd (fun xs : List Int => xs.flatMap encZ) (PN I64 4) l k err [p0, p1, p2, p3] k1 err1) (h2 : Rd (fun xs : List Int => xs.flatMap encZ) (PN I64 4) l k1 err1 [c0, c1, c2, c3] k2 err2) (hp : I64 p0 ∧ I64 p1 ∧ I64 p2 ∧ I64 p3) (hc : I64 c0 ∧ I64 c1 ∧ I64 c2 ∧ I64 c3) : Rd encV V8.fit l k err ⟨p0, p1, p2, p3, c0, c1, c2, c3⟩ k2 err2 := by
  refine (h.cat pf_z64 h2).to (fun v => [v.p0, v.p1, v.p2, v.p3, v.c0, v.c1, v.c2, v.c3]) (fun _ => ⟨⟨hp, hc⟩, by simp [encV]⟩) (fun v hv => ?_)
  obtain ⟨⟨h0, h1, h2, h3⟩, h4, h5, h6, h7⟩ := hv
  exact ⟨⟨rfl, fun y hy => by simp at hy; rcases hy with rfl | rfl | rfl | rfl | rfl | rfl | rfl | rfl <;> assumption⟩, rfl⟩
theorem pf_vf : PF encV V8.fit := fun x y r s _ _ h => pf_v x y r s trivial trivial h
theorem pf_dr : PF encD Dr.rd := fun x y r s hx hy h => pf_d x y r s hx.1.ok hy.1.ok h
theorem PF.flat {α : Type} {e : α → List Int} {P : α → Prop} (h : PF e P) (n : Nat) : PF (fun xs : List α => xs.flatMap e) (PN P n) := fun a b r s ha hb hh => h.many a b r s (ha.1.trans hb.1.symm) ha.2 hb.2 hh
theorem PF.seq2 {α : Type} {e : α → List Int} {P : α → Prop} (h : PF e P) (m : Nat) : PF (seqE e) (fun xs => xs.length ≤ m ∧ ∀ x ∈ xs, P x) := fun a b r s ha hb hh => h.seqP a b r s ha.2 hb.2 hh
def BIG : Nat := 9223372036854775807
theorem script_rd {l : List Int} {k k1 k2 k3 k4 k5 k6 k7 : Nat} {err e1 e2 e3 e4 e5 e6 e7 : Int} {nW nH : Nat} {m : List Int} {V : List V8} {Sh Pa : List (List In)} {Ds : List Dr}
    (h1 : Rd (fun n : Nat => leb n) (fun n => n ≤ 9223372036854775807) l k err nW k1 e1) (h2 : Rd (fun n : Nat => leb n) (fun n => n ≤ 9223372036854775807) l k1 e1 nH k2 e2) (h3 : Rd (fun xs : List Int => xs.flatMap encZ) (PN I64 16) l k2 e2 m k3 e3)
    (h4 : Rd (seqE encV) (fun V => V.length ≤ 64 ∧ ∀ v ∈ V, V8.fit v) l k3 e3 V k4 e4) (h5 : Rd (seqE enc) (fun P => P.length ≤ 4 ∧ ∀ p ∈ P, PD false p) l k4 e4 Sh k5 e5) (h6 : Rd (seqE enc) (fun P => P.length ≤ 4 ∧ ∀ p ∈ P, PD true p) l k5 e5 Pa k6 e6) (h7 : Rd (seqE encD) (fun D => D.length ≤ 32 ∧ ∀ d ∈ D, Dr.rd d) l k6 e6 Ds k7 e7)
    (h0 : Scr.rd0 ⟨nW, nH, m, V, Sh, Pa, Ds⟩) : Rd encR Scr.rd l k err ⟨nW, nH, m, V, Sh, Pa, Ds⟩ k7 e7 := by
  have q1 := h1.pair (pf_l _) h2
  have q2 := q1.pair ((pf_l _).pair (pf_l _)) h3
  have q3 := q2.pair (((pf_l _).pair (pf_l _)).pair (pf_z64.flat 16)) h4
  have q4 := q3.pair ((((pf_l _).pair (pf_l _)).pair (pf_z64.flat 16)).pair (pf_vf.seq2 64)) h5
  have q5 := q4.pair (((((pf_l _).pair (pf_l _)).pair (pf_z64.flat 16)).pair (pf_vf.seq2 64)).pair ((pf_pd false).seq2 4)) h6
  have q6 := q5.pair ((((((pf_l _).pair (pf_l _)).pair (pf_z64.flat 16)).pair (pf_vf.seq2 64)).pair ((pf_pd false).seq2 4)).pair ((pf_pd true).seq2 4)) h7
  refine q6.to (fun x => ((((((x.W.toNat, x.H.toNat), x.m), x.verts), x.sh), x.pa), x.draws)) (fun hq => ?_) (fun x hx => ?_)
  · obtain ⟨⟨⟨⟨⟨_, _⟩, _⟩, a⟩, b⟩, c⟩ := hq
    exact ⟨⟨h0, a.2, b.2, c.2⟩, by simp [encR, encN]⟩
  · obtain ⟨⟨hf, hW, hH, hv, hs, hp, hd, hdd⟩, hS, hP, hD⟩ := hx
    have b1 := hf.W
    have b2 := hf.H
    unfold I64 at b1 b2
    exact ⟨⟨⟨⟨⟨⟨⟨by simp only; omega, by simp only; omega⟩, hf.m16, hf.m⟩, hv, hf.v⟩, hs, hS⟩, hp, hP⟩, hd, hD⟩, by simp [encR, encN]⟩
end Go.Proofs.Ytbbfmlehddfneaa

