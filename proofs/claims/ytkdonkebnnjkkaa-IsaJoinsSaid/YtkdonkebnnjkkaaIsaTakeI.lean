/-
  DERIVED. THE WALKS of layer 7 (isa): takeInstr.
-/
import Derived.Test.YtkdonkebnnjkkaaIsaRead
namespace Go.Proofs.Ytkdonkebnnjkkaa
open Go.RowKit
set_option linter.unusedVariables false

theorem calm_setP (w : World) (b o : Nat) (u : Value) : Calm [b] w (w.setCell ⟨b, o, none⟩ u) :=
  ⟨rfl, rfl, rfl, by simp, fun k hk hO => Below.heap_setCell _ _ _ _ (fun e => hO (by simp [e]))⟩
theorem calm5 (w : World) (g o1 o2 o3 o4 o5 : Nat) (u1 u2 u3 u4 u5 : Value) : Calm [g] w (((((w.setCell ⟨g, o1, none⟩ u1).setCell ⟨g, o2, none⟩ u2).setCell ⟨g, o3, none⟩ u3).setCell ⟨g, o4, none⟩ u4).setCell ⟨g, o5, none⟩ u5) :=
  ((((calm_setP _ _ _ _).trans (calm_setP _ _ _ _)).trans (calm_setP _ _ _ _)).trans (calm_setP _ _ _ _)).trans (calm_setP _ _ _ _)
theorem Calm.new_trans {O O' : List Nat} {a b c : World} (h : Calm O a b) (k : Calm O' b c) (hO : ∀ g ∈ O', a.heap.size ≤ g ∨ g ∈ O) : Calm O a c :=
  ⟨k.os.trans h.os, k.tape.trans h.tape, k.output.trans h.output, Nat.le_trans h.size k.size, fun x hx hn => by
    have hx' := h.size
    refine (k.block x (by omega) (fun hin => ?_)).trans (h.block x hx hn)
    rcases hO x hin with h1 | h1
    · omega
    · exact hn h1⟩
theorem Step.store {F F' O : List Nat} {a b c : World} (h : Step F F' a b) (k : Calm O b c) (hO : ∀ g ∈ O, a.heap.size ≤ g) : Step F F' a c :=
  ⟨h.1.new_trans k (fun g hg => .inl (hO g hg)), h.2⟩
set_option maxRecDepth 100000 in
set_option maxHeartbeats 1000000 in
theorem takeInstr_any (w : World) (base p : Nat) (l : List Int) (k : Nat) (err : Int) (F : List Nat) (h : Rdr w base p l k err F) :
    Calls Try.prog 26 #[.pointer (some ⟨p, 0, none⟩)] w fun e w' => ∃ (x : In) (k' : Nat) (err' : Int), e = .returned (.agg #[.int .u8 x.op, .int .u8 x.dst, .int .u8 x.a, .int .u8 x.b, .int .i16 x.imm]) ∧ x.ok ∧ Rdr w' base p l k' err' F ∧ Step F F w w' ∧ TakeI l k err x k' err' := by
  have x0 := (Ext.refl w).alloc #[.int .u8 0, .int .u8 0, .int .u8 0, .int .u8 0, .int .i16 0] 49
  have B0 := Blk.new w #[.int .u8 0, .int .u8 0, .int .u8 0, .int .u8 0, .int .i16 0] 49
  have h0 := h.ext x0
  have s0 : Step F F w _ := Step.of_ext x0
  have hb : ∀ b ∈ F, b < w.heap.size := fun b hb => (h.lt b hb).2
  have hnF : w.heap.size ∉ F := fun hin => by have := hb _ hin; omega
  clear x0 h
  go_enter Try.func26, Try.ntmps26
  go_wp2_with fail
  refine (rd_byte_any _ _ _ _ _ _ _ h0).mono ?_
  rintro e w1 ⟨op, k1, e1, rfl, b1, h1, s1, r1⟩
  go_wp2_with fail
  refine (rd_byte_any _ _ _ _ _ _ _ h1).mono ?_
  rintro e w2 ⟨dst, k2, e2, rfl, b2, h2, s2, r2⟩
  go_wp2_with fail
  refine (rd_byte_any _ _ _ _ _ _ _ h2).mono ?_
  rintro e w3 ⟨ra, k3, e3, rfl, b3, h3, s3, r3⟩
  go_wp2_with fail
  refine (rd_byte_any _ _ _ _ _ _ _ h3).mono ?_
  rintro e w4 ⟨rb, k4, e4, rfl, b4, h4, s4, r4⟩
  go_wp2_with fail
  refine (rd_within16 _ _ _ _ _ _ _ h4).mono ?_
  rintro e w5 ⟨imm, k5, e5, rfl, b5, h5, s5, r5⟩
  have s6 := (((s1.trans s2).trans s3).trans s4).trans s5
  have B5 := B0.calm s6.1 hnF
  have s7 := s0.trans s6
  have T5 := takeI_of r1 r2 r3 r4 r5
  clear h0 s0 B0 h1 h2 h3 h4 s1 s2 s3 s4 s5 r1 r2 r3 r4 r5 s6
  have hc5 := B5.cell
  have hf5 := B5.frozen
  go_wp2
  have K6 := calm5 w5 w.heap.size 0 1 2 3 4 (.int .u8 op) (.int .u8 dst) (.int .u8 ra) (.int .u8 rb) (.int .i16 imm)
  have B6 : Blk _ w.heap.size #[.int .u8 op, .int .u8 dst, .int .u8 ra, .int .u8 rb, .int .i16 imm] 49 := ((((B5.set 0 (.int .u8 op)).set 1 (.int .u8 dst)).set 2 (.int .u8 ra)).set 3 (.int .u8 rb)).set 4 (.int .i16 imm)
  have h6 := h5.kept K6 (fun b hm => by have := hb b hm; simp; omega)
  have s8 := s7.store K6 (by simp)
  have hc6 := B6.cell
  generalize (((((w5.setCell ⟨w.heap.size, 0, none⟩ (.int .u8 op)).setCell ⟨w.heap.size, 1, none⟩ (.int .u8 dst)).setCell ⟨w.heap.size, 2, none⟩ (.int .u8 ra)).setCell ⟨w.heap.size, 3, none⟩ (.int .u8 rb)).setCell ⟨w.heap.size, 4, none⟩ (.int .i16 imm)) = w6 at *
  exact bodyPost_ret (v := .agg #[.int .u8 op, .int .u8 dst, .int .u8 ra, .int .u8 rb, .int .i16 imm]) (by simp [results, Try.results26, go_sem, hc6]) rfl ⟨⟨op, dst, ra, rb, imm⟩, k5, e5, rfl, ⟨b1, b2, b3, b4, b5⟩, h6, s8, T5⟩
end Go.Proofs.Ytkdonkebnnjkkaa
