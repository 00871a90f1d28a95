/-
  DERIVED. THE WALKS of layer 9 (state): decoded, Take. · Layer 9's law texts: Awake, Small's State; '==' on states. · Layer 9's rows: a state that came in, a Small (made by mkopen.py).
-/
import Derived.Test.YtbbfmlehddfneaaPkState
import Derived.Test.YtbbfmlehddfneaaPkWire
import Derived.Laws.StructEq
import Derived.Test.YtbbfmlehddfneaaPkFix
namespace Go.Proofs.Ytbbfmlehddfneaa
open Go.RowKit
set_option linter.unusedVariables false
theorem Calm.setRow {O : List Nat} {a w : World} (h : Calm O a w) {g : Nat} (hg : a.heap.size ≤ g ∨ g ∈ O) (cs : Array Value) : Calm O a (w.setRow g cs) :=
  ⟨h.os, h.tape, h.output, by rw [size_setRow]; exact h.size, fun k hk hO => (heap_setRow_ne _ _ _ _ (fun e => by
    subst e
    rcases hg with h1 | h1
    · omega
    · exact hO h1)).trans (h.block k hk hO)⟩
theorem calm_setRow (w : World) (g : Nat) (cs : Array Value) : Calm [g] w (w.setRow g cs) := (Calm.refl _ w).setRow (.inr (by simp)) cs
theorem fifteen : ∀ l : List Int, l.length = 15 → ∃ b0 b1 b2 b3 b4 b5 b6 b7 b8 b9 b10 b11 b12 b13 b14, l = [b0, b1, b2, b3, b4, b5, b6, b7, b8, b9, b10, b11, b12, b13, b14]
  | [b0, b1, b2, b3, b4, b5, b6, b7, b8, b9, b10, b11, b12, b13, b14], _ => ⟨b0, b1, b2, b3, b4, b5, b6, b7, b8, b9, b10, b11, b12, b13, b14, rfl⟩
abbrev sdec (b0 b1 b2 b3 b4 b5 b6 b7 b8 b9 b10 b11 b12 b13 b14 : Int) : Stt := ⟨b0, (b1 == 1), b2, b3, b4, b5, b6, b7, b8, b9, b10, b11, b12, b13, b14⟩
set_option maxRecDepth 100000 in
set_option maxHeartbeats 2000000 in
theorem decoded9_any (w : World) (v : Value) (b0 b1 b2 b3 b4 b5 b6 b7 b8 b9 b10 b11 b12 b13 b14 : Int) (h : Arr w .u8 v [b0, b1, b2, b3, b4, b5, b6, b7, b8, b9, b10, b11, b12, b13, b14]) :
    Calls Try.prog 74 #[v] w fun e w' => e = .returned (.agg (sdec b0 b1 b2 b3 b4 b5 b6 b7 b8 b9 b10 b11 b12 b13 b14).v) ∧ Ext w w' := by
  have hb := h.bd
  obtain ⟨⟨ao, c, rfl, -, h1, -⟩, -, -⟩ := h
  obtain ⟨g, off, rfl, hc⟩ := h1 (by simp)
  have c0 : w.cell? ⟨g, off, none⟩ = some (.int .u8 b0) := hc 0 (by simp)
  have c1 : w.cell? ⟨g, off + 1, none⟩ = some (.int .u8 b1) := hc 1 (by simp)
  have c2 : w.cell? ⟨g, off + 2, none⟩ = some (.int .u8 b2) := hc 2 (by simp)
  have c3 : w.cell? ⟨g, off + 3, none⟩ = some (.int .u8 b3) := hc 3 (by simp)
  have c4 : w.cell? ⟨g, off + 4, none⟩ = some (.int .u8 b4) := hc 4 (by simp)
  have c5 : w.cell? ⟨g, off + 5, none⟩ = some (.int .u8 b5) := hc 5 (by simp)
  have c6 : w.cell? ⟨g, off + 6, none⟩ = some (.int .u8 b6) := hc 6 (by simp)
  have c7 : w.cell? ⟨g, off + 7, none⟩ = some (.int .u8 b7) := hc 7 (by simp)
  have c8 : w.cell? ⟨g, off + 8, none⟩ = some (.int .u8 b8) := hc 8 (by simp)
  have c9 : w.cell? ⟨g, off + 9, none⟩ = some (.int .u8 b9) := hc 9 (by simp)
  have c10 : w.cell? ⟨g, off + 10, none⟩ = some (.int .u8 b10) := hc 10 (by simp)
  have c11 : w.cell? ⟨g, off + 11, none⟩ = some (.int .u8 b11) := hc 11 (by simp)
  have c12 : w.cell? ⟨g, off + 12, none⟩ = some (.int .u8 b12) := hc 12 (by simp)
  have c13 : w.cell? ⟨g, off + 13, none⟩ = some (.int .u8 b13) := hc 13 (by simp)
  have c14 : w.cell? ⟨g, off + 14, none⟩ = some (.int .u8 b14) := hc 14 (by simp)
  have d11 := hb b11 (by simp)
  have k11 : IntKind.i64.wrap b11 = b11 := IntWalk.i64_in _ (by omega)
  have d12 := hb b12 (by simp)
  have k12 : IntKind.i64.wrap b12 = b12 := IntWalk.i64_in _ (by omega)
  have d13 := hb b13 (by simp)
  have k13 : IntKind.i64.wrap b13 = b13 := IntWalk.i64_in _ (by omega)
  have d14 := hb b14 (by simp)
  have k14 : IntKind.i64.wrap b14 = b14 := IntWalk.i64_in _ (by omega)
  clear hc h1 hb
  have x1 := (Ext.refl w).alloc Stt.nul.v 57
  have B1 := Blk.new w Stt.nul.v 57
  go_enter Try.func74, Try.ntmps74
  go_wp2_with fail
  generalize w.alloc (.cells Stt.nul.v 57) = w2 at *
  apply wp_region_tail_early 6 [false, false, false, false, false, false, false, false, false, false, false, false, false, false, false, false, false, false, false, false, false, false, false, false, false, false, false, false, false, false, false, false, false, false, false, false, false, false, false, false, false, false, false, false, false, false, false, false, false, false, false, false, true] [] [w.heap.size] _ (by kernel_rfl) (by kernel_rfl) (by kernel_rfl) (by kernel_rfl) (of_decide_eq_true (by kernel_rfl))
  case H =>
    intro x hx
    have hne : Nonempty (Wx x) := ⟨⟨x, Ext.refl x⟩⟩
    have q0 := fun (y : Wx x) => ((x1.trans hx).trans y.ext).old c0
    have q1 := fun (y : Wx x) => ((x1.trans hx).trans y.ext).old c1
    have q2 := fun (y : Wx x) => ((x1.trans hx).trans y.ext).old c2
    have q3 := fun (y : Wx x) => ((x1.trans hx).trans y.ext).old c3
    have q4 := fun (y : Wx x) => ((x1.trans hx).trans y.ext).old c4
    have q5 := fun (y : Wx x) => ((x1.trans hx).trans y.ext).old c5
    have q6 := fun (y : Wx x) => ((x1.trans hx).trans y.ext).old c6
    have q7 := fun (y : Wx x) => ((x1.trans hx).trans y.ext).old c7
    have q8 := fun (y : Wx x) => ((x1.trans hx).trans y.ext).old c8
    have q9 := fun (y : Wx x) => ((x1.trans hx).trans y.ext).old c9
    have q10 := fun (y : Wx x) => ((x1.trans hx).trans y.ext).old c10
    have q11 := fun (y : Wx x) => ((x1.trans hx).trans y.ext).old c11
    have q12 := fun (y : Wx x) => ((x1.trans hx).trans y.ext).old c12
    have q13 := fun (y : Wx x) => ((x1.trans hx).trans y.ext).old c13
    have q14 := fun (y : Wx x) => ((x1.trans hx).trans y.ext).old c14
    simp only [eraseM]
    repeat (go_big_quiet_step (fail))
    exact wpQuiet_nil rfl
  case hF => rfl
  case T =>
    change tailW _ _ _ _ [_] _ _
    refine fun u x hc => gives_skip (run_store_blk (T0 := 57) (T := 57) (b := w.heap.size) (z := Stt.nul.v) (cs := (sdec b0 b1 b2 b3 b4 b5 b6 b7 b8 b9 b10 b11 b12 b13 b14).v) rfl rfl rfl (by kernel_rfl) (by kernel_rfl) rfl (B1.ext x)) ⟨hc.setRow (.inr (by simp)) _, fun u3 x3 hc3 => ?_⟩
    have R3 := ((B1.ext x).setRow (sdec b0 b1 b2 b3 b4 b5 b6 b7 b8 b9 b10 b11 b12 b13 b14).v).ext x3
    have xx : Ext w u3 := ((x1.trans x).setRow (Nat.le_refl _) _).trans x3
    go_wp2
    exact bodyPost_ret (v := .agg (sdec b0 b1 b2 b3 b4 b5 b6 b7 b8 b9 b10 b11 b12 b13 b14).v) (results_blk (b := w.heap.size) (t := 2) (ty := 57) rfl rfl R3 Try.underlying57 rfl (by kernel_rfl)) rfl ⟨rfl, xx⟩
theorem Stt.dec_enc (s : Stt) : s = sdec s.dep (bitI s.wr) s.ste s.ref s.msk s.fai s.hid s.pas s.ble s.cha s.cul s.x0 s.y0 s.x1 s.y1 := by
  obtain ⟨dep, wr, ste, ref, msk, fai, hid, pas, ble, cha, cul, x0, y0, x1, y1⟩ := s
  cases wr <;> rfl
theorem Stt.enc_inj {s t : Stt} {r q : List Int} (h : s.enc ++ r = t.enc ++ q) : s = t ∧ r = q := by
  simp only [Stt.enc, List.cons_append, List.nil_append, List.cons.injEq] at h
  obtain ⟨h0, h1, h2, h3, h4, h5, h6, h7, h8, h9, h10, h11, h12, h13, h14, h15⟩ := h
  refine ⟨?_, h15⟩
  rw [Stt.dec_enc s, Stt.dec_enc t, h0, h1, h2, h3, h4, h5, h6, h7, h8, h9, h10, h11, h12, h13, h14]
theorem Stt.enc_of {y : Stt} {b0 b1 b2 b3 b4 b5 b6 b7 b8 b9 b10 b11 b12 b13 b14 : Int} {r q : List Int} (h : [b0, b1, b2, b3, b4, b5, b6, b7, b8, b9, b10, b11, b12, b13, b14] ++ q = y.enc ++ r) : y = sdec b0 b1 b2 b3 b4 b5 b6 b7 b8 b9 b10 b11 b12 b13 b14 ∧ b1 = bitI y.wr := by
  simp only [Stt.enc, List.cons_append, List.nil_append, List.cons.injEq] at h
  obtain ⟨h0, h1, h2, h3, h4, h5, h6, h7, h8, h9, h10, h11, h12, h13, h14, h15⟩ := h
  refine ⟨?_, h1⟩
  rw [Stt.dec_enc y, ← h0, ← h1, ← h2, ← h3, ← h4, ← h5, ← h6, ← h7, ← h8, ← h9, ← h10, ← h11, ← h12, ← h13, ← h14]
theorem Stt.chk_box {s : Stt} (h : s.chk = 0) : s.box := by
  unfold Stt.chk at h
  split at h
  · split at h
    · rename_i h2
      simp only [spansB, Bool.and_eq_true, decide_eq_true_eq] at h2
      unfold Stt.box
      omega
    · omega
  · omega
theorem sdec_good (b0 b1 b2 b3 b4 b5 b6 b7 b8 b9 b10 b11 b12 b13 b14 : Int) (hb : ∀ y ∈ [b0, b1, b2, b3, b4, b5, b6, b7, b8, b9, b10, b11, b12, b13, b14], 0 ≤ y ∧ y ≤ 255) (h1 : ¬ 1 < b1) : (sdec b0 b1 b2 b3 b4 b5 b6 b7 b8 b9 b10 b11 b12 b13 b14).byt ∧ (sdec b0 b1 b2 b3 b4 b5 b6 b7 b8 b9 b10 b11 b12 b13 b14).enc = [b0, b1, b2, b3, b4, b5, b6, b7, b8, b9, b10, b11, b12, b13, b14] := by
  have hb1 := hb b1 (by simp)
  refine ⟨?_, ?_⟩
  · unfold Stt.byt
    exact ⟨hb b0 (by simp), hb b2 (by simp), hb b3 (by simp), hb b4 (by simp), hb b5 (by simp), hb b6 (by simp), hb b7 (by simp), hb b8 (by simp), hb b9 (by simp), hb b10 (by simp)⟩
  · have e : bitI (b1 == 1) = b1 := by
      rcases (by omega : b1 = 0 ∨ b1 = 1) with rfl | rfl <;> rfl
    simp [Stt.enc, e]
/-- a state is read -/
def Take9 (l : List Int) (k : Nat) (err : Int) (s : Stt) (k' : Nat) (err' : Int) : Prop :=
  (err = 0 ∧ err' = 0 ∧ k' = k + 15 ∧ s.byt ∧ s.chk = 0 ∧ l.drop k = s.enc ++ l.drop k') ∨ (err' ≠ 0 ∧ s = Stt.nul ∧ (err ≠ 0 ∨ ∀ (y : Stt) r, y.chk = 0 → l.drop k ≠ y.enc ++ r))
set_option maxRecDepth 100000 in
set_option maxHeartbeats 4000000 in
theorem take9_any (w : World) (base p : Nat) (l : List Int) (k : Nat) (err : Int) (F : List Nat) (h : Rdr w base p l k err F) :
    Calls Try.prog 57 #[.pointer (some ⟨p, 0, none⟩)] w fun e w' => ∃ s k' err', e = .returned (.agg s.v) ∧ Rdr w' base p l k' err' F ∧ Step F F w w' ∧ Take9 l k err s k' err' := by
  have hm := h.most
  have hbl := h.bytes
  have hF := h.lt
  have nb : w.heap.size ∉ F := fun hin => by have := (hF _ hin).2; omega
  have nb2 : ∀ b ∈ F, b ∉ [w.heap.size] := fun b hb hin => by
    have := (hF b hb).2
    simp only [List.mem_singleton] at hin
    omega
  have x0 := (Ext.refl w).alloc Stt.nul.v 57
  have B0 := Blk.new w Stt.nul.v 57
  have h0 := h.ext x0
  have K0 := x0.calm F
  have hz0 : w.heap.size < (w.alloc (.cells Stt.nul.v 57)).heap.size := B0.lt
  by_cases he : err = 0
  · subst he
    by_cases hn : k + 15 ≤ l.length
    · go_enter Try.func57, Try.ntmps57
      go_wp2_with fail
      generalize w.alloc (.cells Stt.nul.v 57) = w0 at *
      refine (rd_bytes 15 _ _ _ _ _ _ h0 hn).mono ?_
      rintro e w1 ⟨v, rfl, o1, h1, s1⟩
      have hlen : ((l.drop k).take 15).length = 15 := by simp; omega
      have hdr : l.drop k = (l.drop k).take 15 ++ l.drop (k + 15) := by rw [← List.drop_drop, List.take_append_drop]
      have hbb : ∀ y ∈ (l.drop k).take 15, 0 ≤ y ∧ y ≤ 255 := fun y hy => hbl y (List.mem_of_mem_drop (List.mem_of_mem_take hy))
      obtain ⟨b0, b1, b2, b3, b4, b5, b6, b7, b8, b9, b10, b11, b12, b13, b14, hL⟩ := fifteen _ hlen
      rw [hL] at o1 hdr hbb
      have HDR := Lib.hid hdr
      have A1 := o1.arr hbb
      have B1 := B0.calm s1.1 nb
      have K1 := K0.trans s1.1
      obtain ⟨ao, c, rfl, hnone, hadr⟩ := o1.slice
      obtain ⟨g, rfl⟩ : ∃ g, ao = some ⟨g, 0, none⟩ := by
        cases ao with
        | none => have := (hnone rfl).1; cases this
        | some a => exact ⟨a.block, by rw [← hadr a rfl]⟩
      have c1 : w1.cell? ⟨g, 1, none⟩ = some (.int .u8 b1) := o1.cell 1 b1 rfl
      have d1 := hbb b1 (by simp)
      have HBB := Lib.hid hbb
      clear hadr hnone hlen hL hdr hbb hbl h h0 x0 B0 s1 o1
      by_cases hb1 : 1 < b1
      · go_wp2_with fail
        refine (rd_fail _ _ _ _ _ _ 4 _ h1).mono ?_
        rintro e w2 ⟨rfl, h2, s2⟩
        rw [errOr_zero] at h2
        have B2 := B1.calm s2.1 nb
        have K2 := K1.trans s2.1
        go_wp2_with (first | ((with_reducible refine wpList_store_blk (op := ⟨none, .store 57 (.tmp 2) (.tmp 18), _, _, _, _⟩) ?_ 57 (.tmp 2) (.tmp 18) ?_ w.heap.size ?_ (cs := Stt.nul.v) ?_ (z := Stt.nul.v) (T := 57) B2 ?_ ?_ ?_ ?_); rfl; rfl; rfl; rfl; kernel_rfl; kernel_rfl; rfl) | fail)
        exact bodyPost_ret (v := .agg Stt.nul.v) (results_blk (b := w.heap.size) (t := 2) (ty := 57) rfl rfl (B2.setRow _) Try.underlying57 rfl (by kernel_rfl)) rfl ⟨_, _, _, rfl, h2.kept (calm_setRow _ _ _) nb2, ⟨K2.setRow (.inl (Nat.le_refl _)) _, fun b hb => .inl hb⟩, (.inr ⟨by decide, rfl, .inr fun y r hc e0 => by have h5 := (Stt.enc_of (HDR.out.symm.trans e0)).2; have := bitI_bd y.wr; cases hw : y.wr <;> rw [hw] at h5 <;> simp [bitI] at h5 <;> omega⟩)⟩
      · obtain ⟨hby, hen⟩ := sdec_good b0 b1 b2 b3 b4 b5 b6 b7 b8 b9 b10 b11 b12 b13 b14 HBB.out hb1
        have HEN := Lib.hid hen
        have HBY := Lib.hid hby
        clear hen hby
        go_wp2_with fail
        refine (decoded9_any _ _ b0 b1 b2 b3 b4 b5 b6 b7 b8 b9 b10 b11 b12 b13 b14 A1).mono ?_
        rintro e w2 ⟨rfl, x2⟩
        have HD : Hid (∀ (y : Stt) r, l.drop k = y.enc ++ r → y = sdec b0 b1 b2 b3 b4 b5 b6 b7 b8 b9 b10 b11 b12 b13 b14) := Lib.hid fun y r e0 => (Stt.enc_of (HDR.out.symm.trans e0)).1
        generalize sdec b0 b1 b2 b3 b4 b5 b6 b7 b8 b9 b10 b11 b12 b13 b14 = s at *
        have x3 := (Ext.refl w2).alloc s.v 57
        have C3 := Blk.new w2 s.v 57
        have B3 := (B1.ext x2).ext x3
        have h3 := (h1.ext x2).ext x3
        have K3 := K1.trans ((x2.trans x3).calm F)
        clear A1 c1 B1 h1 K1
        go_upto_region 8 with fail
        generalize w2.alloc (.cells s.v 57) = w3 at *
        go_wp2_with (first | ((with_reducible refine wpList_load_blk (op := ⟨some 21, _, _, _, _, _⟩) ?_ 57 (.tmp 4) ?_ w2.heap.size ?_ (z := s.v) (T := 57) C3 Try.underlying57 ?_ ?_ ?_); rfl; rfl; rfl; rfl; kernel_rfl) | fail)
        refine (scheck_any s _).mono ?_
        rintro e w4 ⟨rfl, x4⟩
        have C4 := C3.ext x4
        have B4 := B3.ext x4
        have h4 := h3.ext x4
        have K4 := K3.trans (x4.calm F)
        clear C3 B3 h3 K3 x3 x2
        by_cases hck : s.chk = 0
        · have HCK := Lib.hid hck
          rw [hck]
          clear hck
          go_wp2_with (first | ((with_reducible refine wpList_load_blk (op := ⟨some 29, _, _, _, _, _⟩) ?_ 57 (.tmp 4) ?_ w2.heap.size ?_ (z := s.v) (T := 57) C4 Try.underlying57 ?_ ?_ ?_); rfl; rfl; rfl; rfl; kernel_rfl) | ((with_reducible refine wpList_store_blk (op := ⟨none, .store 57 (.tmp 2) (.tmp 29), _, _, _, _⟩) ?_ 57 (.tmp 2) (.tmp 29) ?_ w.heap.size ?_ (cs := s.v) ?_ (z := Stt.nul.v) (T := 57) B4 ?_ ?_ ?_ ?_); rfl; rfl; rfl; rfl; kernel_rfl; kernel_rfl; rfl) | fail)
          exact bodyPost_ret (v := .agg s.v) (results_blk (b := w.heap.size) (t := 2) (ty := 57) rfl rfl (B4.setRow _) Try.underlying57 rfl (by kernel_rfl)) rfl ⟨_, _, _, rfl, h4.kept (calm_setRow _ _ _) nb2, ⟨K4.setRow (.inl (Nat.le_refl _)) _, fun b hb => .inl hb⟩, .inl ⟨rfl, rfl, rfl, HBY.out, HCK.out, by rw [HEN.out]; exact HDR.out⟩⟩
        · have hcd : decide (s.chk = 0) = false := by simpa using hck
          go_wp2_with fail
          refine (rd_fail _ _ _ _ _ _ s.chk _ h4).mono ?_
          rintro e w5 ⟨rfl, h5, s5⟩
          rw [errOr_zero] at h5
          have B5 := B4.calm s5.1 nb
          have K5 := K4.trans s5.1
          go_wp2_with (first | ((with_reducible refine wpList_store_blk (op := ⟨none, .store 57 (.tmp 2) (.tmp 28), _, _, _, _⟩) ?_ 57 (.tmp 2) (.tmp 28) ?_ w.heap.size ?_ (cs := Stt.nul.v) ?_ (z := Stt.nul.v) (T := 57) B5 ?_ ?_ ?_ ?_); rfl; rfl; rfl; rfl; kernel_rfl; kernel_rfl; rfl) | fail)
          exact bodyPost_ret (v := .agg Stt.nul.v) (results_blk (b := w.heap.size) (t := 2) (ty := 57) rfl rfl (B5.setRow _) Try.underlying57 rfl (by kernel_rfl)) rfl ⟨_, _, _, rfl, h5.kept (calm_setRow _ _ _) nb2, ⟨K5.setRow (.inl (Nat.le_refl _)) _, fun b hb => .inl hb⟩, .inr ⟨hck, rfl, .inr fun y r hc e0 => by rw [HD.out y r e0] at hc; exact hck hc⟩⟩
    · go_enter Try.func57, Try.ntmps57
      go_wp2_with fail
      generalize w.alloc (.cells Stt.nul.v 57) = w0 at *
      refine (rd_bytes_short 15 (by omega) _ _ _ _ _ _ h0 (.inr (by omega))).mono ?_
      rintro e w1 ⟨rfl, h1, s1⟩
      have B1 := B0.calm s1.1 nb
      have K1 := K0.trans s1.1
      go_wp2_with (first | ((with_reducible refine wpList_store_blk (op := ⟨none, .store 57 (.tmp 2) (.tmp 11), _, _, _, _⟩) ?_ 57 (.tmp 2) (.tmp 11) ?_ w.heap.size ?_ (cs := Stt.nul.v) ?_ (z := Stt.nul.v) (T := 57) B1 ?_ ?_ ?_ ?_); rfl; rfl; rfl; rfl; kernel_rfl; kernel_rfl; rfl) | fail)
      exact bodyPost_ret (v := .agg Stt.nul.v) (results_blk (b := w.heap.size) (t := 2) (ty := 57) rfl rfl (B1.setRow _) Try.underlying57 rfl (by kernel_rfl)) rfl ⟨_, _, _, rfl, h1.kept (calm_setRow _ _ _) nb2, ⟨K1.setRow (.inl (Nat.le_refl _)) _, fun b hb => .inl hb⟩, (.inr ⟨by decide, rfl, .inr fun y r hc e0 => by have := congrArg List.length e0; simp [Stt.enc] at this; omega⟩)⟩
  · go_enter Try.func57, Try.ntmps57
    go_wp2_with fail
    generalize w.alloc (.cells Stt.nul.v 57) = w0 at *
    refine (rd_bytes_err 15 _ _ _ _ _ _ _ h0 he).mono ?_
    rintro e w1 ⟨rfl, rfl⟩
    go_wp2_with (first | ((with_reducible refine wpList_store_blk (op := ⟨none, .store 57 (.tmp 2) (.tmp 11), _, _, _, _⟩) ?_ 57 (.tmp 2) (.tmp 11) ?_ w.heap.size ?_ (cs := Stt.nul.v) ?_ (z := Stt.nul.v) (T := 57) B0 ?_ ?_ ?_ ?_); rfl; rfl; rfl; rfl; kernel_rfl; kernel_rfl; rfl) | fail)
    exact bodyPost_ret (v := .agg Stt.nul.v) (results_blk (b := w.heap.size) (t := 2) (ty := 57) rfl rfl (B0.setRow _) Try.underlying57 rfl (by kernel_rfl)) rfl ⟨_, _, _, rfl, h0.kept (calm_setRow _ _ _) nb2, ⟨K0.setRow (.inl (Nat.le_refl _)) _, fun b hb => .inl hb⟩, .inr ⟨he, rfl, .inl he⟩⟩
end Go.Proofs.Ytbbfmlehddfneaa

namespace Go.Proofs.Ytbbfmlehddfneaa
open Go.RowKit
set_option linter.unusedVariables false
/-- a state by small numbers -/
structure Sm9 where
  (dep ste ref msk fai hid pas ble cha cul : Int) (wr ez : Bool) (q0 q1 q2 q3 : Int)
abbrev Sm9.v (s : Sm9) : Array Value := #[.int .u8 s.dep, .int .u8 s.ste, .int .u8 s.ref, .int .u8 s.msk, .int .u8 s.fai, .int .u8 s.hid, .int .u8 s.pas, .int .u8 s.ble, .int .u8 s.cha, .int .u8 s.cul, .bool s.wr, .bool s.ez, .int .u8 s.q0, .int .u8 s.q1, .int .u8 s.q2, .int .u8 s.q3]
def Sm9.ok (s : Sm9) : Prop := (0 ≤ s.dep ∧ s.dep ≤ 255) ∧ (0 ≤ s.ste ∧ s.ste ≤ 255) ∧ (0 ≤ s.ref ∧ s.ref ≤ 255) ∧ (0 ≤ s.msk ∧ s.msk ≤ 255) ∧ (0 ≤ s.fai ∧ s.fai ≤ 255) ∧ (0 ≤ s.hid ∧ s.hid ≤ 255) ∧ (0 ≤ s.pas ∧ s.pas ≤ 255) ∧ (0 ≤ s.ble ∧ s.ble ≤ 255) ∧ (0 ≤ s.cha ∧ s.cha ≤ 255) ∧ (0 ≤ s.cul ∧ s.cul ≤ 255) ∧ (0 ≤ s.q0 ∧ s.q0 ≤ 255) ∧ (0 ≤ s.q1 ∧ s.q1 ≤ 255) ∧ (0 ≤ s.q2 ∧ s.q2 ≤ 255) ∧ (0 ≤ s.q3 ∧ s.q3 ≤ 255)
def Sm9.st (s : Sm9) : Stt := ⟨s.dep % 8, s.wr, if s.ez then 7 else s.ste % 8, s.ref, s.msk, s.fai % 6, if s.ez then 0 else s.hid % 6, if s.ez then 0 else s.pas % 6, if s.ez then 0 else s.ble % 4, if s.ez then 15 else s.cha % 16, s.cul % 3,
  if s.q0 % 3 = 0 then s.q0 / 3 % 30 else 0, if s.q0 % 3 = 0 then s.q1 % 30 else 0, if s.q0 % 3 = 0 then s.q0 / 3 % 30 + s.q2 % 30 else 64, if s.q0 % 3 = 0 then s.q1 % 30 + s.q3 % 30 else 64⟩
theorem Sm9.good {s : Sm9} (h : s.ok) : s.st.byt ∧ s.st.chk = 0 := by
  obtain ⟨h0, h1, h2, h3, h4, h5, h6, h7, h8, h9, k0, k1, k2, k3⟩ := h
  obtain ⟨dep, ste, ref, msk, fai, hid, pas, ble, cha, cul, wr, ez, q0, q1, q2, q3⟩ := s
  simp only at h0 h1 h2 h3 h4 h5 h6 h7 h8 h9 k0 k1 k2 k3
  refine ⟨?_, ?_⟩
  · unfold Stt.byt Sm9.st
    dsimp only
    cases ez <;> simp only [if_true, Bool.false_eq_true, if_false] <;> omega
  · unfold Stt.chk Stt.def spansB Sm9.st
    dsimp only
    cases ez <;> simp only [if_true, Bool.false_eq_true, if_false] <;> by_cases hq : q0 % 3 = 0 <;> simp [hq] <;> omega
set_option maxHeartbeats 1000000 in
theorem eqS (s : Stt) (w : World) : (Op.equalIn 10000 57 (.agg s.v) (.agg s.v)).run Try.prog w = .ok true w := by
  unfold Op.equalIn
  simp [run_underlying Try.underlying57, go_sem, part, List.forIn_cons]
end Go.Proofs.Ytbbfmlehddfneaa

namespace Go.Proofs.Ytbbfmlehddfneaa
open Go.ChangeShapes Go.WideShapes Go.RowKit
set_option linter.unusedVariables false
theorem st9_int {H : Type} {enc : TypeId × Value → H} {w : World} {base : Nat} {spare : Nat → Bool} {held : Bool} {fuel : Nat} {c : Value} {x : DataW H × List MemPlace} {t : TypeId} {k : IntKind} (ht : Try.prog.underlying t = some (.int k)) (h : DataW.trod enc Try.prog w base spare held fuel t [c] = some x) : ∃ n, c = .int k n ∧ (Lit.int k n).wf = true := by
  obtain ⟨n, e, _, hw⟩ := DataW.trod_int ht h
  exact ⟨n, by simpa using e, hw⟩
theorem st9_bool {H : Type} {enc : TypeId × Value → H} {w : World} {base : Nat} {spare : Nat → Bool} {held : Bool} {fuel : Nat} {c : Value} {x : DataW H × List MemPlace} {t : TypeId} (ht : Try.prog.underlying t = some .bool) (h : DataW.trod enc Try.prog w base spare held fuel t [c] = some x) : ∃ n, c = .bool n := by
  obtain ⟨n, e, _⟩ := DataW.trod_bool ht h
  exact ⟨n, by simpa using e⟩
set_option maxRecDepth 100000 in
theorem stt_cells {H : Type} {enc : TypeId × Value → H} {w : World} {base : Nat} {spare : Nat → Bool} {held : Bool} {fuel : Nat} {cs : List Value} {x : DataW H × List MemPlace} (h : DataW.trod enc Try.prog w base spare held fuel 57 cs = some x) :
    ∃ (dep : Int) (wr : Bool) (ste : Int) (ref : Int) (msk : Int) (fai : Int) (hid : Int) (pas : Int) (ble : Int) (cha : Int) (cul : Int) (x0 : Int) (y0 : Int) (x1 : Int) (y1 : Int), cs = [.int .u8 dep, .bool wr, .int .u8 ste, .int .u8 ref, .int .u8 msk, .int .u8 fai, .int .u8 hid, .int .u8 pas, .int .u8 ble, .int .u8 cha, .int .u8 cul, .int .i64 x0, .int .i64 y0, .int .i64 x1, .int .i64 y1] ∧ (0 ≤ dep ∧ dep ≤ 255) ∧ (0 ≤ ste ∧ ste ≤ 255) ∧ (0 ≤ ref ∧ ref ≤ 255) ∧ (0 ≤ msk ∧ msk ≤ 255) ∧ (0 ≤ fai ∧ fai ≤ 255) ∧ (0 ≤ hid ∧ hid ≤ 255) ∧ (0 ≤ pas ∧ pas ≤ 255) ∧ (0 ≤ ble ∧ ble ≤ 255) ∧ (0 ≤ cha ∧ cha ≤ 255) ∧ (0 ≤ cul ∧ cul ≤ 255) ∧ (-9223372036854775808 ≤ x0 ∧ x0 ≤ 9223372036854775807) ∧ (-9223372036854775808 ≤ y0 ∧ y0 ≤ 9223372036854775807) ∧ (-9223372036854775808 ≤ x1 ∧ x1 ≤ 9223372036854775807) ∧ (-9223372036854775808 ≤ y1 ∧ y1 ≤ 9223372036854775807) := by
  obtain ⟨xs, n, _, _, hl, hlen, hf⟩ := DataW.trod_struct Try.underlying57 h
  have hl2 : cs.length = 15 := hl.trans (by kernel_rfl)
  have hlen2 : xs.length = 12 := hlen
  match cs, hl2, xs, hlen2 with
  | [cdep, cwr, cste, cref, cmsk, cfai, chid, cpas, cble, ccha, ccul, cx0, cy0, cx1, cy1], _, [y0, y1, y2, y3, y4, y5, y6, y7, y8, y9, y10, y11], _ =>
    have h0 : DataW.trod enc Try.prog w base spare held n 50 [cdep] = some y0 := hf 0 _ rfl
    have h1 : DataW.trod enc Try.prog w base spare held n 4 [cwr] = some y1 := hf 1 _ rfl
    have h2 : DataW.trod enc Try.prog w base spare held n 50 [cste] = some y2 := hf 2 _ rfl
    have h3 : DataW.trod enc Try.prog w base spare held n 5 [cref] = some y3 := hf 3 _ rfl
    have h4 : DataW.trod enc Try.prog w base spare held n 5 [cmsk] = some y4 := hf 4 _ rfl
    have h5 : DataW.trod enc Try.prog w base spare held n 51 [cfai] = some y5 := hf 5 _ rfl
    have h6 : DataW.trod enc Try.prog w base spare held n 51 [chid] = some y6 := hf 6 _ rfl
    have h7 : DataW.trod enc Try.prog w base spare held n 51 [cpas] = some y7 := hf 7 _ rfl
    have h8 : DataW.trod enc Try.prog w base spare held n 52 [cble] = some y8 := hf 8 _ rfl
    have h9 : DataW.trod enc Try.prog w base spare held n 5 [ccha] = some y9 := hf 9 _ rfl
    have h10 : DataW.trod enc Try.prog w base spare held n 53 [ccul] = some y10 := hf 10 _ rfl
    have h11 : DataW.trod enc Try.prog w base spare held n 55 [cx0, cy0, cx1, cy1] = some y11 := hf 11 _ rfl
    obtain ⟨dep, rfl, wdep⟩ := st9_int Try.underlying50 h0
    obtain ⟨wr, rfl⟩ := st9_bool Try.underlying4 h1
    obtain ⟨ste, rfl, wste⟩ := st9_int Try.underlying50 h2
    obtain ⟨ref, rfl, wref⟩ := st9_int Try.underlying5 h3
    obtain ⟨msk, rfl, wmsk⟩ := st9_int Try.underlying5 h4
    obtain ⟨fai, rfl, wfai⟩ := st9_int Try.underlying51 h5
    obtain ⟨hid, rfl, whid⟩ := st9_int Try.underlying51 h6
    obtain ⟨pas, rfl, wpas⟩ := st9_int Try.underlying51 h7
    obtain ⟨ble, rfl, wble⟩ := st9_int Try.underlying52 h8
    obtain ⟨cha, rfl, wcha⟩ := st9_int Try.underlying5 h9
    obtain ⟨cul, rfl, wcul⟩ := st9_int Try.underlying53 h10
    obtain ⟨x0, rfl, wx0⟩ := intsAt_cells (k := .i64) 3 55 n _ _ (by kernel_rfl) h11 cx0 (by simp)
    obtain ⟨y0, rfl, wy0⟩ := intsAt_cells (k := .i64) 3 55 n _ _ (by kernel_rfl) h11 cy0 (by simp)
    obtain ⟨x1, rfl, wx1⟩ := intsAt_cells (k := .i64) 3 55 n _ _ (by kernel_rfl) h11 cx1 (by simp)
    obtain ⟨y1, rfl, wy1⟩ := intsAt_cells (k := .i64) 3 55 n _ _ (by kernel_rfl) h11 cy1 (by simp)
    exact ⟨dep, wr, ste, ref, msk, fai, hid, pas, ble, cha, cul, x0, y0, x1, y1, rfl, bounds_u8 wdep, bounds_u8 wste, bounds_u8 wref, bounds_u8 wmsk, bounds_u8 wfai, bounds_u8 whid, bounds_u8 wpas, bounds_u8 wble, bounds_u8 wcha, bounds_u8 wcul, bounds_i64 wx0, bounds_i64 wy0, bounds_i64 wx1, bounds_i64 wy1⟩
set_option maxRecDepth 100000 in
theorem openStt {H : Type} {enc : TypeId × Value → H} {w : World} {base : Nat} {spare : Nat → Bool} {held : Bool} {r : Reach} {b0 : Nat} {v : Value} {dt : DataW H} {p : List MemPlace} (hv : Value.okWide Try.prog w r b0 57 v) (h : DataW.Trod enc Try.prog w base spare held 57 v dt p) :
    ∃ (dep : Int) (wr : Bool) (ste : Int) (ref : Int) (msk : Int) (fai : Int) (hid : Int) (pas : Int) (ble : Int) (cha : Int) (cul : Int) (x0 : Int) (y0 : Int) (x1 : Int) (y1 : Int), v = .agg #[.int .u8 dep, .bool wr, .int .u8 ste, .int .u8 ref, .int .u8 msk, .int .u8 fai, .int .u8 hid, .int .u8 pas, .int .u8 ble, .int .u8 cha, .int .u8 cul, .int .i64 x0, .int .i64 y0, .int .i64 x1, .int .i64 y1] ∧ (0 ≤ dep ∧ dep ≤ 255) ∧ (0 ≤ ste ∧ ste ≤ 255) ∧ (0 ≤ ref ∧ ref ≤ 255) ∧ (0 ≤ msk ∧ msk ≤ 255) ∧ (0 ≤ fai ∧ fai ≤ 255) ∧ (0 ≤ hid ∧ hid ≤ 255) ∧ (0 ≤ pas ∧ pas ≤ 255) ∧ (0 ≤ ble ∧ ble ≤ 255) ∧ (0 ≤ cha ∧ cha ≤ 255) ∧ (0 ≤ cul ∧ cul ≤ 255) ∧ (-9223372036854775808 ≤ x0 ∧ x0 ≤ 9223372036854775807) ∧ (-9223372036854775808 ≤ y0 ∧ y0 ≤ 9223372036854775807) ∧ (-9223372036854775808 ≤ x1 ∧ x1 ≤ 9223372036854775807) ∧ (-9223372036854775808 ≤ y1 ∧ y1 ≤ 9223372036854775807) := by
  obtain ⟨cs, rfl, hs⟩ := okWide_struct Try.underlying57 hv
  obtain ⟨fuel, hf⟩ := h
  obtain ⟨dep, wr, ste, ref, msk, fai, hid, pas, ble, cha, cul, x0, y0, x1, y1, e, hb⟩ := stt_cells hf
  refine ⟨dep, wr, ste, ref, msk, fai, hid, pas, ble, cha, cul, x0, y0, x1, y1, ?_, hb⟩
  have : cs.toList = [.int .u8 dep, .bool wr, .int .u8 ste, .int .u8 ref, .int .u8 msk, .int .u8 fai, .int .u8 hid, .int .u8 pas, .int .u8 ble, .int .u8 cha, .int .u8 cul, .int .i64 x0, .int .i64 y0, .int .i64 x1, .int .i64 y1] := e
  congr 1
  exact Array.ext' this
set_option maxRecDepth 100000 in
theorem sm9_cells {H : Type} {enc : TypeId × Value → H} {w : World} {base : Nat} {spare : Nat → Bool} {held : Bool} {fuel : Nat} {cs : List Value} {x : DataW H × List MemPlace} (h : DataW.trod enc Try.prog w base spare held fuel 60 cs = some x) :
    ∃ (dep : Int) (ste : Int) (ref : Int) (msk : Int) (fai : Int) (hid : Int) (pas : Int) (ble : Int) (cha : Int) (cul : Int) (wr : Bool) (ez : Bool) (q0 : Int) (q1 : Int) (q2 : Int) (q3 : Int), cs = [.int .u8 dep, .int .u8 ste, .int .u8 ref, .int .u8 msk, .int .u8 fai, .int .u8 hid, .int .u8 pas, .int .u8 ble, .int .u8 cha, .int .u8 cul, .bool wr, .bool ez, .int .u8 q0, .int .u8 q1, .int .u8 q2, .int .u8 q3] ∧ (0 ≤ dep ∧ dep ≤ 255) ∧ (0 ≤ ste ∧ ste ≤ 255) ∧ (0 ≤ ref ∧ ref ≤ 255) ∧ (0 ≤ msk ∧ msk ≤ 255) ∧ (0 ≤ fai ∧ fai ≤ 255) ∧ (0 ≤ hid ∧ hid ≤ 255) ∧ (0 ≤ pas ∧ pas ≤ 255) ∧ (0 ≤ ble ∧ ble ≤ 255) ∧ (0 ≤ cha ∧ cha ≤ 255) ∧ (0 ≤ cul ∧ cul ≤ 255) ∧ (0 ≤ q0 ∧ q0 ≤ 255) ∧ (0 ≤ q1 ∧ q1 ≤ 255) ∧ (0 ≤ q2 ∧ q2 ≤ 255) ∧ (0 ≤ q3 ∧ q3 ≤ 255) := by
  obtain ⟨xs, n, _, _, hl, hlen, hf⟩ := DataW.trod_struct Try.underlying60 h
  have hl2 : cs.length = 16 := hl.trans (by kernel_rfl)
  have hlen2 : xs.length = 13 := hlen
  match cs, hl2, xs, hlen2 with
  | [cdep, cste, cref, cmsk, cfai, chid, cpas, cble, ccha, ccul, cwr, cez, cq0, cq1, cq2, cq3], _, [y0, y1, y2, y3, y4, y5, y6, y7, y8, y9, y10, y11, y12], _ =>
    have h0 : DataW.trod enc Try.prog w base spare held n 5 [cdep] = some y0 := hf 0 _ rfl
    have h1 : DataW.trod enc Try.prog w base spare held n 5 [cste] = some y1 := hf 1 _ rfl
    have h2 : DataW.trod enc Try.prog w base spare held n 5 [cref] = some y2 := hf 2 _ rfl
    have h3 : DataW.trod enc Try.prog w base spare held n 5 [cmsk] = some y3 := hf 3 _ rfl
    have h4 : DataW.trod enc Try.prog w base spare held n 5 [cfai] = some y4 := hf 4 _ rfl
    have h5 : DataW.trod enc Try.prog w base spare held n 5 [chid] = some y5 := hf 5 _ rfl
    have h6 : DataW.trod enc Try.prog w base spare held n 5 [cpas] = some y6 := hf 6 _ rfl
    have h7 : DataW.trod enc Try.prog w base spare held n 5 [cble] = some y7 := hf 7 _ rfl
    have h8 : DataW.trod enc Try.prog w base spare held n 5 [ccha] = some y8 := hf 8 _ rfl
    have h9 : DataW.trod enc Try.prog w base spare held n 5 [ccul] = some y9 := hf 9 _ rfl
    have h10 : DataW.trod enc Try.prog w base spare held n 4 [cwr] = some y10 := hf 10 _ rfl
    have h11 : DataW.trod enc Try.prog w base spare held n 4 [cez] = some y11 := hf 11 _ rfl
    have h12 : DataW.trod enc Try.prog w base spare held n 58 [cq0, cq1, cq2, cq3] = some y12 := hf 12 _ rfl
    obtain ⟨dep, rfl, wdep⟩ := st9_int Try.underlying5 h0
    obtain ⟨ste, rfl, wste⟩ := st9_int Try.underlying5 h1
    obtain ⟨ref, rfl, wref⟩ := st9_int Try.underlying5 h2
    obtain ⟨msk, rfl, wmsk⟩ := st9_int Try.underlying5 h3
    obtain ⟨fai, rfl, wfai⟩ := st9_int Try.underlying5 h4
    obtain ⟨hid, rfl, whid⟩ := st9_int Try.underlying5 h5
    obtain ⟨pas, rfl, wpas⟩ := st9_int Try.underlying5 h6
    obtain ⟨ble, rfl, wble⟩ := st9_int Try.underlying5 h7
    obtain ⟨cha, rfl, wcha⟩ := st9_int Try.underlying5 h8
    obtain ⟨cul, rfl, wcul⟩ := st9_int Try.underlying5 h9
    obtain ⟨wr, rfl⟩ := st9_bool Try.underlying4 h10
    obtain ⟨ez, rfl⟩ := st9_bool Try.underlying4 h11
    obtain ⟨q0, rfl, wq0⟩ := intsAt_cells (k := .u8) 3 58 n _ _ (by kernel_rfl) h12 cq0 (by simp)
    obtain ⟨q1, rfl, wq1⟩ := intsAt_cells (k := .u8) 3 58 n _ _ (by kernel_rfl) h12 cq1 (by simp)
    obtain ⟨q2, rfl, wq2⟩ := intsAt_cells (k := .u8) 3 58 n _ _ (by kernel_rfl) h12 cq2 (by simp)
    obtain ⟨q3, rfl, wq3⟩ := intsAt_cells (k := .u8) 3 58 n _ _ (by kernel_rfl) h12 cq3 (by simp)
    exact ⟨dep, ste, ref, msk, fai, hid, pas, ble, cha, cul, wr, ez, q0, q1, q2, q3, rfl, bounds_u8 wdep, bounds_u8 wste, bounds_u8 wref, bounds_u8 wmsk, bounds_u8 wfai, bounds_u8 whid, bounds_u8 wpas, bounds_u8 wble, bounds_u8 wcha, bounds_u8 wcul, bounds_u8 wq0, bounds_u8 wq1, bounds_u8 wq2, bounds_u8 wq3⟩
set_option maxRecDepth 100000 in
theorem openSm9v {H : Type} {enc : TypeId × Value → H} {w : World} {base : Nat} {spare : Nat → Bool} {held : Bool} {r : Reach} {b0 : Nat} {v : Value} {dt : DataW H} {p : List MemPlace} (hv : Value.okWide Try.prog w r b0 60 v) (h : DataW.Trod enc Try.prog w base spare held 60 v dt p) :
    ∃ (dep : Int) (ste : Int) (ref : Int) (msk : Int) (fai : Int) (hid : Int) (pas : Int) (ble : Int) (cha : Int) (cul : Int) (wr : Bool) (ez : Bool) (q0 : Int) (q1 : Int) (q2 : Int) (q3 : Int), v = .agg #[.int .u8 dep, .int .u8 ste, .int .u8 ref, .int .u8 msk, .int .u8 fai, .int .u8 hid, .int .u8 pas, .int .u8 ble, .int .u8 cha, .int .u8 cul, .bool wr, .bool ez, .int .u8 q0, .int .u8 q1, .int .u8 q2, .int .u8 q3] ∧ (0 ≤ dep ∧ dep ≤ 255) ∧ (0 ≤ ste ∧ ste ≤ 255) ∧ (0 ≤ ref ∧ ref ≤ 255) ∧ (0 ≤ msk ∧ msk ≤ 255) ∧ (0 ≤ fai ∧ fai ≤ 255) ∧ (0 ≤ hid ∧ hid ≤ 255) ∧ (0 ≤ pas ∧ pas ≤ 255) ∧ (0 ≤ ble ∧ ble ≤ 255) ∧ (0 ≤ cha ∧ cha ≤ 255) ∧ (0 ≤ cul ∧ cul ≤ 255) ∧ (0 ≤ q0 ∧ q0 ≤ 255) ∧ (0 ≤ q1 ∧ q1 ≤ 255) ∧ (0 ≤ q2 ∧ q2 ≤ 255) ∧ (0 ≤ q3 ∧ q3 ≤ 255) := by
  obtain ⟨cs, rfl, hs⟩ := okWide_struct Try.underlying60 hv
  obtain ⟨fuel, hf⟩ := h
  obtain ⟨dep, ste, ref, msk, fai, hid, pas, ble, cha, cul, wr, ez, q0, q1, q2, q3, e, hb⟩ := sm9_cells hf
  refine ⟨dep, ste, ref, msk, fai, hid, pas, ble, cha, cul, wr, ez, q0, q1, q2, q3, ?_, hb⟩
  have : cs.toList = [.int .u8 dep, .int .u8 ste, .int .u8 ref, .int .u8 msk, .int .u8 fai, .int .u8 hid, .int .u8 pas, .int .u8 ble, .int .u8 cha, .int .u8 cul, .bool wr, .bool ez, .int .u8 q0, .int .u8 q1, .int .u8 q2, .int .u8 q3] := e
  congr 1
  exact Array.ext' this
set_option maxRecDepth 100000 in
theorem openSm9 {H : Type} {enc : TypeId × Value → H} {w : World} {base : Nat} {spare : Nat → Bool} {held : Bool} {r : Reach} {b0 : Nat} {v : Value} {dt : DataW H} {p : List MemPlace} (hv : Value.okWide Try.prog w r b0 60 v) (h : DataW.Trod enc Try.prog w base spare held 60 v dt p) : ∃ s : Sm9, v = .agg s.v ∧ s.ok := by
  obtain ⟨dep, ste, ref, msk, fai, hid, pas, ble, cha, cul, wr, ez, q0, q1, q2, q3, rfl, hb⟩ := openSm9v hv h
  exact ⟨⟨dep, ste, ref, msk, fai, hid, pas, ble, cha, cul, wr, ez, q0, q1, q2, q3⟩, rfl, hb⟩
set_option maxRecDepth 100000 in
theorem openSt9 {H : Type} {enc : TypeId × Value → H} {w : World} {base : Nat} {spare : Nat → Bool} {held : Bool} {r : Reach} {b0 : Nat} {v : Value} {dt : DataW H} {p : List MemPlace} (hv : Value.okWide Try.prog w r b0 57 v) (h : DataW.Trod enc Try.prog w base spare held 57 v dt p) : ∃ s : Stt, v = .agg s.v ∧ s.byt ∧ (-9223372036854775808 ≤ s.x0 ∧ s.x0 ≤ 9223372036854775807) ∧ (-9223372036854775808 ≤ s.y0 ∧ s.y0 ≤ 9223372036854775807) ∧ (-9223372036854775808 ≤ s.x1 ∧ s.x1 ≤ 9223372036854775807) ∧ (-9223372036854775808 ≤ s.y1 ∧ s.y1 ≤ 9223372036854775807) := by
  obtain ⟨dep, wr, ste, ref, msk, fai, hid, pas, ble, cha, cul, x0, y0, x1, y1, rfl, g0, g2, g3, g4, g5, g6, g7, g8, g9, g10, k0, k1, k2, k3⟩ := openStt hv h
  exact ⟨⟨dep, wr, ste, ref, msk, fai, hid, pas, ble, cha, cul, x0, y0, x1, y1⟩, rfl, ⟨g0, g2, g3, g4, g5, g6, g7, g8, g9, g10⟩, k0, k1, k2, k3⟩
end Go.Proofs.Ytbbfmlehddfneaa

