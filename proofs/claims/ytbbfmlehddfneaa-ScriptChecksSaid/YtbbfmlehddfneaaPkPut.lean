/-
  DERIVED. Layer 11 (script): Put: vectors, programs, clears (made by mkscrput.py). · Layer 11 (script): Put: a draw (made by mkscrput.py). · Layer 11 (script): Put: a script (made by mkscrput.py). · Layer 11 (script): Put (made by mkscrput.py).
-/
import Derived.Test.YtbbfmlehddfneaaPkChk
import Derived.Lib.SlBytesConst
namespace Go.Proofs.Ytbbfmlehddfneaa
open Go.RowKit
set_option linter.unusedVariables false
theorem Pen.base_le {w : World} {base p : Nat} {l : List Int} {F : List Nat} (h : Pen w base p l F) : base ≤ w.heap.size := by
  obtain ⟨v, B, -, h1, -, -⟩ := h
  exact Nat.le_trans h1 (Nat.le_of_lt B.lt)
theorem zig_flat (a b c d : Int) : [a, b, c, d].flatMap encZ = leb (zig a) ++ (leb (zig b) ++ (leb (zig c) ++ leb (zig d))) := by simp [encZ]
set_option maxRecDepth 100000 in
set_option maxHeartbeats 1000000 in
theorem encVec_any (a0 a1 a2 a3 : Int) (h0 : I64 a0) (h1 : I64 a1) (h2 : I64 a2) (h3 : I64 a3) (w : World) (base p : Nat) (l : List Int) (F : List Nat) (hP : Pen w base p l F) (hlen : l.length < 80000) : Calls Try.prog 32 #[.pointer (some ⟨p, 0, none⟩), .agg #[.int .i64 a0, .int .i64 a1, .int .i64 a2, .int .i64 a3]] w fun e w' => e = .returned (.tuple #[]) ∧ ∃ F', Pen w' base p (l ++ [a0, a1, a2, a3].flatMap encZ) F' ∧ Step F F' w w' := by
  have hix := fun u => idxV (.int .i64 a0) (.int .i64 a1) (.int .i64 a2) (.int .i64 a3) u
  have k0 : (leb (zig a0)).length ≤ 10 := encZ_len h0
  have k1 : (leb (zig a1)).length ≤ 10 := encZ_len h1
  have k2 : (leb (zig a2)).length ≤ 10 := encZ_len h2
  have hb := hP.base_le
  have x1 := (Ext.refl w).alloc #[.int .i64 a0, .int .i64 a1, .int .i64 a2, .int .i64 a3] 35
  have P1 := hP.ext x1
  have s1 : Step F F w _ := Step.of_ext x1
  have hz := x1.size
  go_enter Try.func32, Try.ntmps32
  go_upto_region 1 with fail
  have B1 := Blk.new w #[.int .i64 a0, .int .i64 a1, .int .i64 a2, .int .i64 a3] 35
  generalize w.alloc (.cells #[.int .i64 a0, .int .i64 a1, .int .i64 a2, .int .i64 a3] 35) = w1 at *
  have cB := B1.cell
  generalize hb0 : w.heap.size = b0 at *
  go_wp2_with fail
  clear cB B1 x1 hP
  refine wp_loop_rounds 5 ?_
  rw [rounds_succ]
  go_wp2_with fail
  refine (pen_int a0 h0 _ _ _ _ _ P1 (by omega) (by omega)).mono ?_
  rintro e w2 ⟨rfl, F2, P2, t2⟩
  have s2 := s1.trans t2
  have hz2 := t2.1.size
  clear P1 s1 t2
  go_wp2
  rw [rounds_succ]
  go_wp2_with fail
  refine (pen_int a1 h1 _ _ _ _ _ P2 (by simp only [List.length_append]; omega) (by omega)).mono ?_
  rintro e w3 ⟨rfl, F3, P3, t3⟩
  have s3 := s2.trans t3
  have hz3 := t3.1.size
  clear P2 s2 t3
  go_wp2
  rw [rounds_succ]
  go_wp2_with fail
  refine (pen_int a2 h2 _ _ _ _ _ P3 (by simp only [List.length_append]; omega) (by omega)).mono ?_
  rintro e w4 ⟨rfl, F4, P4, t4⟩
  have s4 := s3.trans t4
  have hz4 := t4.1.size
  clear P3 s3 t4
  go_wp2
  rw [rounds_succ]
  go_wp2_with fail
  refine (pen_int a3 h3 _ _ _ _ _ P4 (by simp only [List.length_append]; omega) (by omega)).mono ?_
  rintro e w5 ⟨rfl, F5, P5, t5⟩
  have s5 := s4.trans t5
  have hz5 := t5.1.size
  clear P4 s4 t5
  go_wp2
  rw [rounds_succ]
  go_wp2
  refine bodyPost_end (v := .tuple #[]) (by simp [results, Try.results32]) rfl ⟨rfl, _, ?_, s5⟩
  rw [zig_flat]
  simpa only [List.append_assoc] using P5
set_option maxRecDepth 100000 in
set_option maxHeartbeats 1000000 in
theorem encProgs_any (w0 : World) (d : Bool) (v : Value) (P : List (List In)) (hR : PRd w0 v P) (hok : ∀ p ∈ P, ∀ i ∈ p, i.ok) (hc : ∀ p ∈ P, chk d p = 0) (h4 : P.length ≤ 4) (w : World) (base p : Nat) (l : List Int) (F : List Nat) (hP : Pen w base p l F) (h0 : w0.heap.size ≤ base) (hx : Ext w0 w) (hlen : l.length ≤ 20000) : Calls Try.prog 33 #[.pointer (some ⟨p, 0, none⟩), v] w fun e w' => e = .returned (.tuple #[]) ∧ ∃ F', Pen w' base p (l ++ seqE enc P) F' ∧ Step F F' w w' := by
  obtain ⟨svs, h1, h2, h3⟩ := hR
  have Q := h1
  obtain ⟨ao, cc, rfl, -, -⟩ := h1.slice
  have hlI : (svs.length : Int) ≤ 4 := by omega
  have H2 := Lib.hid h2
  clear h2
  have hb := hP.base_le
  have hpl := fun j => progs_len h4 hok hc j
  go_enter Try.func33, Try.ntmps33
  go_wp2_with fail
  refine (pen_count (svs.length : Int) (by omega) _ _ _ _ _ hP (by omega) hb).mono ?_
  rintro e w1 ⟨rfl, F1, P1, s1⟩
  rw [Int.toNat_natCast] at P1
  have hl1 : (leb svs.length).length ≤ 10 := leb_len10 (by omega)
  have hFb : ∀ b ∈ F, w0.heap.size ≤ b := fun b hb => Nat.le_trans h0 (hP.lt b hb).1
  go_wp2_with fail
  go_loopg [12] svs.length (fun k iv wr => ∃ (j : Nat) (F' : List Nat), j + k = svs.length ∧ iv = .int .i64 j ∧ Pen wr base p (l ++ leb svs.length ++ (P.take j).flatMap enc) F' ∧ Step F F' w wr)
  case atStart => exact ⟨0, F1, by omega, rfl, by simpa using P1, s1⟩
  case round =>
    clear P1 s1
    obtain ⟨j, F2, hjk, rfl, P2, s2⟩ := hrel
    have e2 := s2.ext hx hFb
    by_cases hj : j < svs.length
    · have hjI : (j : Int) < (svs.length : Int) := by omega
      obtain ⟨g, off, x, e0, -, hx', hcc⟩ := (Q.ext e2).nth j hj
      cases e0
      have c0 := hcc 0 _ rfl
      obtain ⟨xs, hPx, hA, hbk⟩ := h3 j x hx'
      have hxs := List.mem_of_getElem? hPx
      have h24 := (chk_zero (hc xs hxs)).1
      have HS := Lib.hid (show (P.take (j + 1)).flatMap enc = (P.take j).flatMap enc ++ enc xs by rw [List.take_add_one, hPx]; simp)
      have hplj := hpl j
      obtain ⟨xa, xn, xc⟩ := x
      simp only [LP, SlV.v, Nat.mul_one, Nat.add_zero] at c0
      have hA2 := hA.ext e2
      obtain ⟨_, _, e, -, -⟩ := hA.slice
      cases e
      clear hcc hx' hPx
      go_wp2_with fail
      refine (putR_any _ _ _ _ _ P2 xa xc xs hA2 (fun a ha => ?_) (hok xs hxs) (by omega) (by simp only [List.length_append]; omega) (by have := P2.base_le; omega)).mono ?_
      · subst ha
        have hlt := hbk a.block rfl
        have hz := e2.size
        refine ⟨fun hin => ?_, by omega⟩
        have := (P2.lt _ hin).1
        omega
      rintro e w3 ⟨rfl, F3, P3, s3⟩
      have s4 := s2.trans s3
      clear P2 s2 s3 hA hA2
      go_wp2
      go_roundg (gk - 1)
      case measure => omega
      case rel => exact ⟨j + 1, F3, by omega, by simp, by rw [HS.out, ← List.append_assoc]; exact P3, s4⟩
    · obtain rfl : j = svs.length := by omega
      go_wp2
      refine bodyPost_end (v := .tuple #[]) (by simp [results, Try.results33]) rfl ⟨rfl, F2, ?_, s2⟩
      rw [List.take_of_length_le (by rw [H2.out]; exact Nat.le_refl _)] at P2
      rw [seqE, ← H2.out, ← List.append_assoc]
      exact P2
set_option maxRecDepth 100000 in
set_option maxHeartbeats 1000000 in
theorem encClr_any (c : Clr) (hc : c.byt) (hd : I64 c.dep) (w : World) (base p : Nat) (l : List Int) (F : List Nat) (hP : Pen w base p l F) (hlen : l.length < 80000) : Calls Try.prog 51 #[.agg c.l.toArray, .pointer (some ⟨p, 0, none⟩)] w fun e w' => e = .returned (.tuple #[]) ∧ ∃ F', Pen w' base p (l ++ ([c.r, c.g, c.b, c.a, c.sten, c.want] ++ encN c.dep)) F' ∧ Step F F' w w' := by
  obtain ⟨r, g, b, a, dep, sten, want⟩ := c
  obtain ⟨h1, h2, h3, h4, h5, h6⟩ := hc
  simp only at h1 h2 h3 h4 h5 h6 hd
  have hb := hP.base_le
  have x1 := (Ext.refl w).alloc #[.int .u8 r, .int .u8 g, .int .u8 b, .int .u8 a, .int .i64 dep, .int .u8 sten, .int .u8 want] 63
  have P1 := hP.ext x1
  have s1 : Step F F w _ := Step.of_ext x1
  have hz := x1.size
  have hn0 : w.heap.size ∉ F := fun h => by have := (hP.lt _ h).2; omega
  go_enter Try.func51, Try.ntmps51
  go_upto_region 1 with fail
  have B1 := Blk.new w #[.int .u8 r, .int .u8 g, .int .u8 b, .int .u8 a, .int .i64 dep, .int .u8 sten, .int .u8 want] 63
  generalize w.alloc (.cells #[.int .u8 r, .int .u8 g, .int .u8 b, .int .u8 a, .int .i64 dep, .int .u8 sten, .int .u8 want] 63) = w1 at *
  generalize hb0 : w.heap.size = b0 at *
  have A1 : Arr w1 .u8 (.slice (some ⟨b0, 0, none⟩) 4 4) [r, g, b, a] := ⟨⟨some ⟨b0, 0, none⟩, 4, rfl, by simp, fun _ => ⟨b0, 0, rfl, fun j hj => by
    rw [B1.cell]
    simp at hj
    rcases (by omega : j = 0 ∨ j = 1 ∨ j = 2 ∨ j = 3) with rfl | rfl | rfl | rfl <;> simp⟩, fun h => by cases h⟩, by simp [maxLen], fun n hn => by simp at hn; rcases hn with rfl | rfl | rfl | rfl <;> exact wfu8 (by omega)⟩
  have cB := B1.cell
  go_wp2_with fail
  refine (pen_put _ _ _ _ _ P1 _ [r, g, b, a] A1 (by simp; omega) (by omega)).mono ?_
  rintro e w2 ⟨rfl, F2, P2, s2⟩
  have B2 := B1.calm s2.1 hn0
  have S2 := s1.trans s2
  have hz2 := s2.1.size
  have cB2 := B2.cell
  have hn2 : b0 ∉ F2 := fun h => by rcases s2.2 _ h with h | h; exact hn0 h; (have := B1.lt; omega)
  clear P1 s1 s2 cB
  go_wp2_with fail
  refine (pen_byte sten h5 _ _ _ _ _ P2 (by simp; omega) (by omega)).mono ?_
  rintro e w3 ⟨rfl, F3, P3, s3⟩
  have B3 := B2.calm s3.1 hn2
  have S3 := S2.trans s3
  have hz3 := s3.1.size
  have cB3 := B3.cell
  have hn3 : b0 ∉ F3 := fun h => by rcases s3.2 _ h with h | h; exact hn2 h; (have := B2.lt; omega)
  clear P2 S2 s3 cB2 B1
  go_wp2_with fail
  refine (pen_byte want h6 _ _ _ _ _ P3 (by simp; omega) (by omega)).mono ?_
  rintro e w4 ⟨rfl, F4, P4, s4⟩
  have B4 := B3.calm s4.1 hn3
  have S4 := S3.trans s4
  have hz4 := s4.1.size
  have cB4 := B4.cell
  clear P3 S3 s4 cB3 B2
  go_wp2_with fail
  refine (pen_count dep hd _ _ _ _ _ P4 (by simp; omega) (by omega)).mono ?_
  rintro e w5 ⟨rfl, F5, P5, s5⟩
  have S5 := S4.trans s5
  go_wp2
  refine bodyPost_end (v := .tuple #[]) (by simp [results, Try.results51]) rfl ⟨rfl, F5, ?_, S5⟩
  simpa [encN] using P5
end Go.Proofs.Ytbbfmlehddfneaa

namespace Go.Proofs.Ytbbfmlehddfneaa
open Go.RowKit
set_option linter.unusedVariables false
set_option maxRecDepth 100000 in
set_option maxHeartbeats 2000000 in
theorem encDraw_any (w0 : World) (m : DrM) (d : Dr) (hm : m.is d) (hA : Arr w0 .i64 m.ix.v d.idx) (hf : d.fit) (hg : d.good) (hidx : ∀ y ∈ d.idx, I64 y) (w : World) (base p : Nat) (l : List Int) (F : List Nat) (hP : Pen w base p l F) (h0 : w0.heap.size ≤ base) (hx : Ext w0 w) (hlen : l.length ≤ 60000) : Calls Try.prog 34 #[.agg m.l.toArray, .pointer (some ⟨p, 0, none⟩)] w fun e w' => e = .returned (.tuple #[]) ∧ ∃ F', Pen w' base p (l ++ encD d) F' ∧ Step F F' w w' := by
  obtain ⟨⟨dep, wr, ste, ref, msk, fai, hid, pas, ble, cha, cul, x0, y0, x1, y1⟩, clears, ⟨r, g, b, a, cdep, sten, want⟩, vx, fr, kind, ⟨xa, xn, xc⟩⟩ := m
  obtain ⟨st, clears', cl, vx', fr', kind', idx⟩ := d
  obtain ⟨h1, h2, h3, h4, h5, h6⟩ := hm
  simp only at h1 h2 h3 h4 h5 h6 hA hidx
  subst h1 h2 h3 h4 h5 h6
  obtain ⟨f1, f2, f3, f4, f5, f6, f7⟩ := hf
  obtain ⟨g1, g2⟩ := hg
  simp only at f1 f2 f3 f4 f5 f6 f7 g1 g2
  have hbx := Stt.chk_box g1
  have HA := Lib.hid hA
  obtain ⟨⟨_, _, e, -⟩, -, -⟩ := hA
  cases e
  have hFb : ∀ b ∈ F, w0.heap.size ≤ b := fun b hb => Nat.le_trans h0 (hP.lt b hb).1
  have HFb := Lib.hid hFb
  clear hFb
  change Calls Try.prog 34 #[.agg #[.int .u8 dep, .bool wr, .int .u8 ste, .int .u8 ref, .int .u8 msk, .int .u8 fai, .int .u8 hid, .int .u8 pas, .int .u8 ble, .int .u8 cha, .int .u8 cul, .int .i64 x0, .int .i64 y0, .int .i64 x1, .int .i64 y1, .bool clears, .int .u8 r, .int .u8 g, .int .u8 b, .int .u8 a, .int .i64 cdep, .int .u8 sten, .int .u8 want, .int .i64 vx, .int .i64 fr, .int .u8 kind, .slice xa idx.length xc], .pointer (some ⟨p, 0, none⟩)] w fun e w' => e = .returned (.tuple #[]) ∧ ∃ F', Pen w' base p (l ++ encD _) F' ∧ Step F F' w w'
  have hb := hP.base_le
  have hx1 := (Ext.refl w).alloc #[.int .u8 dep, .bool wr, .int .u8 ste, .int .u8 ref, .int .u8 msk, .int .u8 fai, .int .u8 hid, .int .u8 pas, .int .u8 ble, .int .u8 cha, .int .u8 cul, .int .i64 x0, .int .i64 y0, .int .i64 x1, .int .i64 y1, .bool clears, .int .u8 r, .int .u8 g, .int .u8 b, .int .u8 a, .int .i64 cdep, .int .u8 sten, .int .u8 want, .int .i64 vx, .int .i64 fr, .int .u8 kind, .slice xa idx.length xc] 67
  have P1 := hP.ext hx1
  have S1 : Step F F w _ := Step.of_ext hx1
  have hz := hx1.size
  have hn1 : w.heap.size ∉ F := fun h => by have := (hP.lt _ h).2; omega
  have B1 := Blk.new w #[.int .u8 dep, .bool wr, .int .u8 ste, .int .u8 ref, .int .u8 msk, .int .u8 fai, .int .u8 hid, .int .u8 pas, .int .u8 ble, .int .u8 cha, .int .u8 cul, .int .i64 x0, .int .i64 y0, .int .i64 x1, .int .i64 y1, .bool clears, .int .u8 r, .int .u8 g, .int .u8 b, .int .u8 a, .int .i64 cdep, .int .u8 sten, .int .u8 want, .int .i64 vx, .int .i64 fr, .int .u8 kind, .slice xa idx.length xc] 67
  have R1 := B1.mid 0 [.int .u8 dep, .bool wr, .int .u8 ste, .int .u8 ref, .int .u8 msk, .int .u8 fai, .int .u8 hid, .int .u8 pas, .int .u8 ble, .int .u8 cha, .int .u8 cul, .int .i64 x0, .int .i64 y0, .int .i64 x1, .int .i64 y1] rfl
  have HEN := Lib.hid (by simp [Stt.enc] : (Stt.enc ⟨dep, wr, ste, ref, msk, fai, hid, pas, ble, cha, cul, x0, y0, x1, y1⟩).length = 15)
  go_enter Try.func34, Try.ntmps34
  go_upto_region 1 with fail
  generalize w.alloc (.cells #[.int .u8 dep, .bool wr, .int .u8 ste, .int .u8 ref, .int .u8 msk, .int .u8 fai, .int .u8 hid, .int .u8 pas, .int .u8 ble, .int .u8 cha, .int .u8 cul, .int .i64 x0, .int .i64 y0, .int .i64 x1, .int .i64 y1, .bool clears, .int .u8 r, .int .u8 g, .int .u8 b, .int .u8 a, .int .i64 cdep, .int .u8 sten, .int .u8 want, .int .i64 vx, .int .i64 fr, .int .u8 kind, .slice xa idx.length xc] 67) = w1 at *
  generalize hb0 : w.heap.size = b0 at *
  have cB1 := B1.cell
  go_wp2_with (first
    | refine wpList_load_mid rfl 57 (.tmp 6) rfl b0 0 rfl [.int .u8 dep, .bool wr, .int .u8 ste, .int .u8 ref, .int .u8 msk, .int .u8 fai, .int .u8 hid, .int .u8 pas, .int .u8 ble, .int .u8 cha, .int .u8 cul, .int .i64 x0, .int .i64 y0, .int .i64 x1, .int .i64 y1] _ R1 Try.underlying57 rfl (by kernel_rfl) ?_
    | fail)
  clear R1
  have hen := HEN.out
  refine (sput_any ⟨dep, wr, ste, ref, msk, fai, hid, pas, ble, cha, cul, x0, y0, x1, y1⟩ f1 hbx _ _ _ _ _ P1 (by omega) (by omega)).mono ?_
  rintro e w2 ⟨rfl, F2, P2, s2⟩
  have B2 := B1.calm s2.1 hn1
  have S2 := S1.trans s2
  have hz2 := s2.1.size
  have cB2 := B2.cell
  have hn2 : b0 ∉ F2 := fun h => by rcases s2.2 _ h with h | h; exact hn1 h; (have := B1.lt; omega)
  clear P1 S1 s2 cB1
  have R2 := B2.mid 16 [.int .u8 r, .int .u8 g, .int .u8 b, .int .u8 a, .int .i64 cdep, .int .u8 sten, .int .u8 want] rfl
  cases clears
  · clear R2
    have h96 := g2 rfl
    have hlv : (encN vx).length ≤ 10 := encN_len f4
    have hlf : (encN fr).length ≤ 10 := encN_len f5
    have hll : (leb idx.length).length ≤ 10 := leb_len10 (by omega)
    have hli := fun (j : Nat) => flat_len (e := encN) (b := 10) (l := idx.take j) (fun y hy => encN_len (hidx y (List.mem_of_mem_take hy)))
    unfold encN at hlv hlf
    go_wp2_with fail
    refine (pen_byte kind f6 _ _ _ _ _ P2 (by simp; omega) (by omega)).mono ?_
    rintro e w3 ⟨rfl, F3, P3, s3⟩
    have B3 := B2.calm s3.1 hn2
    have S3 := S2.trans s3
    have hz3 := s3.1.size
    have cB3 := B3.cell
    have hn3 : b0 ∉ F3 := fun h => by rcases s3.2 _ h with h | h; exact hn2 h; (have := B2.lt; omega)
    clear P2 S2 s3 cB2
    go_wp2_with fail
    refine (pen_count vx f4 _ _ _ _ _ P3 (by simp; omega) (by omega)).mono ?_
    rintro e w4 ⟨rfl, F4, P4, s4⟩
    have B4 := B3.calm s4.1 hn3
    have S4 := S3.trans s4
    have hz4 := s4.1.size
    have cB4 := B4.cell
    have hn4 : b0 ∉ F4 := fun h => by rcases s4.2 _ h with h | h; exact hn3 h; (have := B3.lt; omega)
    clear P3 S3 s4 cB3
    go_wp2_with fail
    refine (pen_count fr f5 _ _ _ _ _ P4 (by simp; omega) (by omega)).mono ?_
    rintro e w5 ⟨rfl, F5, P5, s5⟩
    have B5 := B4.calm s5.1 hn4
    have S5 := S4.trans s5
    have hz5 := s5.1.size
    have cB5 := B5.cell
    have hn5 : b0 ∉ F5 := fun h => by rcases s5.2 _ h with h | h; exact hn4 h; (have := B4.lt; omega)
    clear P4 S4 s5 cB4
    go_wp2_with fail
    refine (pen_count (idx.length : Int) (by omega) _ _ _ _ _ P5 (by simp; omega) (by omega)).mono ?_
    rintro e w6 ⟨rfl, F6, P6, s6⟩
    have B6 := B5.calm s6.1 hn5
    have S6 := S5.trans s6
    have hz6 := s6.1.size
    have cB6 := B6.cell
    have hn6 : b0 ∉ F6 := fun h => by rcases s6.2 _ h with h | h; exact hn5 h; (have := B5.lt; omega)
    clear P5 S5 s6 cB5
    rw [Int.toNat_natCast] at P6
    go_wp2_with fail
    generalize hpre : l ++ Stt.enc ⟨dep, wr, ste, ref, msk, fai, hid, pas, ble, cha, cul, x0, y0, x1, y1⟩ ++ [kind] ++ leb vx.toNat ++ leb fr.toNat ++ leb idx.length = pre at *
    have hpl : pre.length ≤ 60046 := by rw [← hpre]; simp only [List.length_append, List.length_cons, List.length_nil]; omega
    have HPR := Lib.hid hpre
    clear hpre B2 B3 B4 B5 hn2 hn3 hn4 hn5
    go_loopg [38] idx.length (fun k iv wr => ∃ (j : Nat) (F' : List Nat), j + k = idx.length ∧ iv = .int .i64 j ∧ Pen wr base p (pre ++ (idx.take j).flatMap encN) F' ∧ Step F F' w wr)
    case atStart => exact ⟨0, F6, by omega, by simp, by simpa using P6, S6⟩
    case round =>
      clear P6 S6 cB6 B6
      obtain ⟨j, F8, hjk, rfl, P8, s8⟩ := hrel
      have e8 := s8.ext hx HFb.out
      by_cases hj : j < idx.length
      · have hjI : (j : Int) < (idx.length : Int) := by omega
        obtain ⟨g0, off, e0, -, hc⟩ := (HA.out.ext e8).at j hj
        cases e0
        have c0 := hc j hj
        have hlj : idx[j]? = some (idx.getD j 0) := by simp [List.getD, hj]
        have hy64 : I64 (idx.getD j 0) := hidx _ (List.mem_of_getElem? hlj)
        have HS := Lib.hid (show (idx.take (j + 1)).flatMap encN = (idx.take j).flatMap encN ++ encN (idx.getD j 0) by rw [List.take_add_one, hlj]; simp)
        have hlij := hli j
        have htl : (idx.take j).length ≤ 96 := by simp; omega
        generalize idx.getD j 0 = y at *
        clear hlj hc
        go_wp2_with fail
        refine (pen_count y hy64 _ _ _ _ _ P8 (by simp only [List.length_append]; omega) P8.base_le).mono ?_
        rintro e w9 ⟨rfl, F9, P9, s9⟩
        have s10 := s8.trans s9
        clear P8 s8 s9
        go_wp2
        go_roundg (gk - 1)
        case measure => omega
        case rel => exact ⟨j + 1, F9, by omega, by simp, by rw [HS.out, ← List.append_assoc]; exact P9, s10⟩
      · obtain rfl : j = idx.length := by omega
        go_wp2
        refine bodyPost_end (v := .tuple #[]) (by simp [results, Try.results34]) rfl ⟨rfl, F8, ?_, s8⟩
        rw [List.take_length, ← HPR.out] at P8
        simpa [encD, seqE, encN] using P8
  · go_wp2_with fail
    refine (pen_byte 3 (by omega) _ _ _ _ _ P2 (by simp; omega) (by omega)).mono ?_
    rintro e w3 ⟨rfl, F3, P3, s3⟩
    have B3 := B2.calm s3.1 hn2
    have S3 := S2.trans s3
    have hz3 := s3.1.size
    have R3 := B3.mid 16 [.int .u8 r, .int .u8 g, .int .u8 b, .int .u8 a, .int .i64 cdep, .int .u8 sten, .int .u8 want] rfl
    have cB3 := B3.cell
    have hn3 : b0 ∉ F3 := fun h => by rcases s3.2 _ h with h | h; exact hn2 h; (have := B2.lt; omega)
    clear P2 S2 s3 cB2
    go_wp2_with (first
      | refine wpList_load_mid rfl 63 (.tmp 14) rfl b0 16 rfl [.int .u8 r, .int .u8 g, .int .u8 b, .int .u8 a, .int .i64 cdep, .int .u8 sten, .int .u8 want] _ R3 Try.underlying63 rfl (by kernel_rfl) ?_
      | fail)
    refine (encClr_any ⟨r, g, b, a, cdep, sten, want⟩ f2 f3 _ _ _ _ _ P3 (by simp; omega)).mono ?_
    rintro e w4 ⟨rfl, F4, P4, s4⟩
    have S4 := S3.trans s4
    go_wp2
    refine bodyPost_ret (v := .tuple #[]) (by simp [results, Try.results34]) rfl ⟨rfl, F4, ?_, S4⟩
    simpa [encD] using P4
end Go.Proofs.Ytbbfmlehddfneaa

namespace Go.Proofs.Ytbbfmlehddfneaa
open Go.RowKit
set_option linter.unusedVariables false
theorem az_arr (w : World) : Arr (w.alloc (.cells #[.int .u8 65, .int .u8 90] 5 (2, 3))) .u8 (.slice (some ⟨w.heap.size, 0, none⟩) 2 2) [65, 90] := by
  refine ⟨⟨_, 2, rfl, by simp, fun _ => ⟨w.heap.size, 0, rfl, fun j hj => ?_⟩, fun h => by cases h⟩, by simp [maxLen], fun n hn => by simp at hn; rcases hn with rfl | rfl <;> rfl⟩
  simp at hj
  rcases (by omega : j = 0 ∨ j = 1) with rfl | rfl <;> (rw [World.cell?_alloc_mark]; rfl)
set_option maxRecDepth 100000 in
set_option maxHeartbeats 4000000 in
theorem encode_any (w0 : World) (W H m0 m1 m2 m3 m4 m5 m6 m7 m8 m9 m10 m11 m12 m13 m14 m15 : Int) (va sa pa da : Option Addr) (vn vc sn sc pn pc dn dc : Nat) (V : List V8) (Sh Pa : List (List In)) (dms : List DrM) (Ds : List Dr) (QV : PArrG LV w0 (.slice va V.length vc) V) (QS : PRd w0 (.slice sa Sh.length sc) Sh) (QP : PRd w0 (.slice pa Pa.length pc) Pa) (QD : PArrG LD w0 (.slice da dms.length dc) dms) (hDl : dms.length = Ds.length) (hDi : ∀ (i : Nat) (m : DrM), dms[i]? = some m → ∃ d, Ds[i]? = some d ∧ m.is d ∧ Arr w0 .i64 m.ix.v d.idx)
    (hf : (⟨W, H, [m0, m1, m2, m3, m4, m5, m6, m7, m8, m9, m10, m11, m12, m13, m14, m15], V, Sh, Pa, Ds⟩ : Scr).fit) (hg : (⟨W, H, [m0, m1, m2, m3, m4, m5, m6, m7, m8, m9, m10, m11, m12, m13, m14, m15], V, Sh, Pa, Ds⟩ : Scr).good) (w : World) (base p : Nat) (F : List Nat) (hP : Pen w base p [] F) (h0 : w0.heap.size ≤ base) (hx : Ext w0 w) :
    Calls Try.prog 17 #[.agg #[.int .i64 W, .int .i64 H, .int .i64 m0, .int .i64 m1, .int .i64 m2, .int .i64 m3, .int .i64 m4, .int .i64 m5, .int .i64 m6, .int .i64 m7, .int .i64 m8, .int .i64 m9, .int .i64 m10, .int .i64 m11, .int .i64 m12, .int .i64 m13, .int .i64 m14, .int .i64 m15, .slice va V.length vc, .slice sa Sh.length sc, .slice pa Pa.length pc, .slice da dms.length dc], .pointer (some ⟨p, 0, none⟩)] w fun e w' => e = .returned (.tuple #[]) ∧ ∃ F', Pen w' base p (encS ⟨W, H, [m0, m1, m2, m3, m4, m5, m6, m7, m8, m9, m10, m11, m12, m13, m14, m15], V, Sh, Pa, Ds⟩) F' ∧ Step F F' w w' := by
  obtain ⟨fW, fH, f16, fm, fv, fvl, fs, fsl, fp, fpl, fd, fdl⟩ := hf
  obtain ⟨gW, gH, gv, gd, gs, gp, gsp, gpp, gdd⟩ := hg
  simp only at fW fH f16 fm fv fvl fs fsl fp fpl fd fdl gW gH gv gd gs gp gsp gpp gdd
  have HM := Lib.hid fm
  have HV := Lib.hid fv
  have HS := Lib.hid (fun p hp => (fs p hp).2)
  have HPp := Lib.hid (fun p hp => (fp p hp).2)
  have HD := Lib.hid fd
  have HDi := Lib.hid hDi
  have HDl := Lib.hid hDl
  have HGD := Lib.hid gdd
  have HGS := Lib.hid gsp
  have HGP := Lib.hid gpp
  have gd' : dms.length ≤ 32 := by omega
  have hlS : (seqE enc Sh).length ≤ 1394 := by
    have h1 : (leb Sh.length).length ≤ 10 := leb_len10 (by omega)
    have h2 := progs_len gs HS.out gsp Sh.length
    rw [List.take_length] at h2
    rw [seqE, List.length_append]
    omega
  have hlP : (seqE enc Pa).length ≤ 1394 := by
    have h1 : (leb Pa.length).length ≤ 10 := leb_len10 (by omega)
    have h2 := progs_len gp HPp.out gpp Pa.length
    rw [List.take_length] at h2
    rw [seqE, List.length_append]
    omega
  clear fm fv fs fp fd hDi hDl gdd gsp gpp f16
  have k1 : (leb W.toNat).length ≤ 10 := encN_len fW
  have k2 : (leb H.toNat).length ≤ 10 := encN_len fH
  have k3 : (leb V.length).length ≤ 10 := leb_len10 (by omega)
  have k4 : (leb dms.length).length ≤ 10 := leb_len10 (by omega)
  have hFb : ∀ b ∈ F, w0.heap.size ≤ b := fun b hb => Nat.le_trans h0 (hP.lt b hb).1
  have HFb := Lib.hid hFb
  have HP := Lib.hid hP
  clear hFb
  have hx1 := (Ext.refl w).alloc #[.int .i64 W, .int .i64 H, .int .i64 m0, .int .i64 m1, .int .i64 m2, .int .i64 m3, .int .i64 m4, .int .i64 m5, .int .i64 m6, .int .i64 m7, .int .i64 m8, .int .i64 m9, .int .i64 m10, .int .i64 m11, .int .i64 m12, .int .i64 m13, .int .i64 m14, .int .i64 m15, .slice va V.length vc, .slice sa Sh.length sc, .slice pa Pa.length pc, .slice da dms.length dc] 42
  have P1 := hP.ext hx1
  have S1 : Step F F w _ := Step.of_ext hx1
  have hn1 : w.heap.size ∉ F := fun h => by have := (hP.lt _ h).2; omega
  have B1 := Blk.new w #[.int .i64 W, .int .i64 H, .int .i64 m0, .int .i64 m1, .int .i64 m2, .int .i64 m3, .int .i64 m4, .int .i64 m5, .int .i64 m6, .int .i64 m7, .int .i64 m8, .int .i64 m9, .int .i64 m10, .int .i64 m11, .int .i64 m12, .int .i64 m13, .int .i64 m14, .int .i64 m15, .slice va V.length vc, .slice sa Sh.length sc, .slice pa Pa.length pc, .slice da dms.length dc] 42
  have hix := fun u => idxM (.int .i64 m0) (.int .i64 m1) (.int .i64 m2) (.int .i64 m3) (.int .i64 m4) (.int .i64 m5) (.int .i64 m6) (.int .i64 m7) (.int .i64 m8) (.int .i64 m9) (.int .i64 m10) (.int .i64 m11) (.int .i64 m12) (.int .i64 m13) (.int .i64 m14) (.int .i64 m15) u
  go_enter Try.func17, Try.ntmps17
  go_upto_region 1 with fail
  generalize w.alloc (.cells #[.int .i64 W, .int .i64 H, .int .i64 m0, .int .i64 m1, .int .i64 m2, .int .i64 m3, .int .i64 m4, .int .i64 m5, .int .i64 m6, .int .i64 m7, .int .i64 m8, .int .i64 m9, .int .i64 m10, .int .i64 m11, .int .i64 m12, .int .i64 m13, .int .i64 m14, .int .i64 m15, .slice va V.length vc, .slice sa Sh.length sc, .slice pa Pa.length pc, .slice da dms.length dc] 42) = w1 at *
  generalize hb0 : w.heap.size = b0 at *
  have hz1 : b0 < w1.heap.size := B1.lt
  have hcv := Lib.run_convert_bytes_const (P := Try.prog) w1 29 5 #[.int .u8 65, .int .u8 90] 2 2 Try.underlying29 Try.underlying5
  have A1 := az_arr w1
  have y1 : Ext w1 (w1.alloc (.cells #[.int .u8 65, .int .u8 90] 5 (2, 3))) := ⟨(Ext.refl w1).bel.alloc (Nat.le_refl _) _⟩
  simp only [List.size_toArray, List.length_cons, List.length_nil, Nat.zero_add, Nat.reduceAdd] at hcv
  have P1' := P1.ext y1
  have S1' := S1.trans (Step.of_ext (F := F) y1)
  have B1' := B1.ext y1
  have cB1 := B1'.cell
  go_wp2_with fail
  refine (pen_put _ _ _ _ _ P1' _ [65, 90] A1 (by simp) P1'.base_le).mono ?_
  rintro e w2 ⟨rfl, F2, P2, s2⟩
  have S2 := S1'.trans s2
  have B2 := B1'.calm s2.1 hn1
  have hn2 : b0 ∉ F2 := fun h => by rcases s2.2 _ h with h | h; exact hn1 h; (have := B1'.lt; omega)
  have cB2 := B2.cell
  clear P1 P1' S1 S1' s2 cB1 B1 B1' A1 y1 hP hx1 hcv
  go_wp2_with fail
  refine (pen_count W fW _ _ _ _ _ P2 (by simp) P2.base_le).mono ?_
  rintro e w3 ⟨rfl, F3, P3, s3⟩
  have S3 := S2.trans s3
  have B3 := B2.calm s3.1 hn2
  have hn3 : b0 ∉ F3 := fun h => by rcases s3.2 _ h with h | h; exact hn2 h; (have := B2.lt; omega)
  have cB3 := B3.cell
  clear P2 S2 s3 cB2 B2 hn2
  go_wp2_with fail
  refine (pen_count H fH _ _ _ _ _ P3 (by simp; omega) P3.base_le).mono ?_
  rintro e w4 ⟨rfl, F4, P4, s4⟩
  have S4 := S3.trans s4
  have B4 := B3.calm s4.1 hn3
  have hn4 : b0 ∉ F4 := fun h => by rcases s4.2 _ h with h | h; exact hn3 h; (have := B3.lt; omega)
  have cB4 := B4.cell
  clear P3 S3 s4 cB3 B3 hn3
  have R4 := B4.mid 2 [.int .i64 m0, .int .i64 m1, .int .i64 m2, .int .i64 m3, .int .i64 m4, .int .i64 m5, .int .i64 m6, .int .i64 m7, .int .i64 m8, .int .i64 m9, .int .i64 m10, .int .i64 m11, .int .i64 m12, .int .i64 m13, .int .i64 m14, .int .i64 m15] rfl
  go_wp2_with (first
    | refine wpList_load_mid rfl 37 (.tmp 22) rfl b0 2 rfl [.int .i64 m0, .int .i64 m1, .int .i64 m2, .int .i64 m3, .int .i64 m4, .int .i64 m5, .int .i64 m6, .int .i64 m7, .int .i64 m8, .int .i64 m9, .int .i64 m10, .int .i64 m11, .int .i64 m12, .int .i64 m13, .int .i64 m14, .int .i64 m15] _ R4 Try.underlying37 rfl (by kernel_rfl) ?_
    | fail)
  clear R4
  have hpl0 : ([] ++ [65, 90] ++ leb W.toNat ++ leb H.toNat : List Int).length ≤ 22 := by simp; omega
  generalize hpre : ([] ++ [65, 90] ++ leb W.toNat ++ leb H.toNat : List Int) = pre0 at *
  have HPR := Lib.hid hpre
  clear hpre cB4
  refine wp_loop_rounds 5 ?_
  rw [rounds_succ]
  have E4 := Ext.refl w4
  have hsz4 := B4.lt
  go_wp2_with fail
  refine (encVec_any m0 m1 m2 m3 (HM.out _ (by simp)) (HM.out _ (by simp)) (HM.out _ (by simp)) (HM.out _ (by simp)) _ _ _ _ _ (P4.ext (by repeat (first | exact E4 | (refine Ext.setCell ?_ (by simp only; omega) _) | (refine Ext.setRow ?_ (by omega) _) | apply Ext.alloc))) (by first | omega | (simp only [List.length_append]; omega))).mono ?_
  rintro e w5 ⟨rfl, F5, P5, s5⟩
  have t5 := (Step.of_ext (F := F4) (by repeat (first | exact E4 | (refine Ext.setCell ?_ (by simp only; omega) _) | (refine Ext.setRow ?_ (by omega) _) | apply Ext.alloc))).trans s5
  have S5 := S4.trans t5
  have B5 := B4.calm t5.1 hn4
  have hn5 : b0 ∉ F5 := fun h => by rcases t5.2 _ h with h | h; exact hn4 h; (have := B4.lt; omega)
  have hv5 : ([m0, m1, m2, m3].flatMap encZ).length ≤ 40 := by
    have := flat_len (e := encZ) (b := 10) (l := [m0, m1, m2, m3]) (fun y hy => encZ_len (HM.out y (by simp at hy; rcases hy with rfl | rfl | rfl | rfl <;> simp)))
    simpa using this
  clear P4 S4 s5 t5 E4 hsz4 B4 hn4
  go_wp2
  rw [rounds_succ]
  have E5 := Ext.refl w5
  have hsz5 := B5.lt
  go_wp2_with fail
  refine (encVec_any m4 m5 m6 m7 (HM.out _ (by simp)) (HM.out _ (by simp)) (HM.out _ (by simp)) (HM.out _ (by simp)) _ _ _ _ _ (P5.ext (by repeat (first | exact E5 | (refine Ext.setCell ?_ (by simp only; omega) _) | (refine Ext.setRow ?_ (by omega) _) | apply Ext.alloc))) (by first | omega | (simp only [List.length_append]; omega))).mono ?_
  rintro e w6 ⟨rfl, F6, P6, s6⟩
  have t6 := (Step.of_ext (F := F5) (by repeat (first | exact E5 | (refine Ext.setCell ?_ (by simp only; omega) _) | (refine Ext.setRow ?_ (by omega) _) | apply Ext.alloc))).trans s6
  have S6 := S5.trans t6
  have B6 := B5.calm t6.1 hn5
  have hn6 : b0 ∉ F6 := fun h => by rcases t6.2 _ h with h | h; exact hn5 h; (have := B5.lt; omega)
  have hv6 : ([m4, m5, m6, m7].flatMap encZ).length ≤ 40 := by
    have := flat_len (e := encZ) (b := 10) (l := [m4, m5, m6, m7]) (fun y hy => encZ_len (HM.out y (by simp at hy; rcases hy with rfl | rfl | rfl | rfl <;> simp)))
    simpa using this
  clear P5 S5 s6 t6 E5 hsz5 B5 hn5
  go_wp2
  rw [rounds_succ]
  have E6 := Ext.refl w6
  have hsz6 := B6.lt
  go_wp2_with fail
  refine (encVec_any m8 m9 m10 m11 (HM.out _ (by simp)) (HM.out _ (by simp)) (HM.out _ (by simp)) (HM.out _ (by simp)) _ _ _ _ _ (P6.ext (by repeat (first | exact E6 | (refine Ext.setCell ?_ (by simp only; omega) _) | (refine Ext.setRow ?_ (by omega) _) | apply Ext.alloc))) (by first | omega | (simp only [List.length_append]; omega))).mono ?_
  rintro e w7 ⟨rfl, F7, P7, s7⟩
  have t7 := (Step.of_ext (F := F6) (by repeat (first | exact E6 | (refine Ext.setCell ?_ (by simp only; omega) _) | (refine Ext.setRow ?_ (by omega) _) | apply Ext.alloc))).trans s7
  have S7 := S6.trans t7
  have B7 := B6.calm t7.1 hn6
  have hn7 : b0 ∉ F7 := fun h => by rcases t7.2 _ h with h | h; exact hn6 h; (have := B6.lt; omega)
  have hv7 : ([m8, m9, m10, m11].flatMap encZ).length ≤ 40 := by
    have := flat_len (e := encZ) (b := 10) (l := [m8, m9, m10, m11]) (fun y hy => encZ_len (HM.out y (by simp at hy; rcases hy with rfl | rfl | rfl | rfl <;> simp)))
    simpa using this
  clear P6 S6 s7 t7 E6 hsz6 B6 hn6
  go_wp2
  rw [rounds_succ]
  have E7 := Ext.refl w7
  have hsz7 := B7.lt
  go_wp2_with fail
  refine (encVec_any m12 m13 m14 m15 (HM.out _ (by simp)) (HM.out _ (by simp)) (HM.out _ (by simp)) (HM.out _ (by simp)) _ _ _ _ _ (P7.ext (by repeat (first | exact E7 | (refine Ext.setCell ?_ (by simp only; omega) _) | (refine Ext.setRow ?_ (by omega) _) | apply Ext.alloc))) (by first | omega | (simp only [List.length_append]; omega))).mono ?_
  rintro e w8 ⟨rfl, F8, P8, s8⟩
  have t8 := (Step.of_ext (F := F7) (by repeat (first | exact E7 | (refine Ext.setCell ?_ (by simp only; omega) _) | (refine Ext.setRow ?_ (by omega) _) | apply Ext.alloc))).trans s8
  have S8 := S7.trans t8
  have B8 := B7.calm t8.1 hn7
  have hn8 : b0 ∉ F8 := fun h => by rcases t8.2 _ h with h | h; exact hn7 h; (have := B7.lt; omega)
  have hv8 : ([m12, m13, m14, m15].flatMap encZ).length ≤ 40 := by
    have := flat_len (e := encZ) (b := 10) (l := [m12, m13, m14, m15]) (fun y hy => encZ_len (HM.out y (by simp at hy; rcases hy with rfl | rfl | rfl | rfl <;> simp)))
    simpa using this
  clear P7 S7 s8 t8 E7 hsz7 B7 hn7
  go_wp2
  rw [rounds_succ]
  have cB8 := B8.cell
  have hpl1 : (pre0 ++ [m0, m1, m2, m3].flatMap encZ ++ [m4, m5, m6, m7].flatMap encZ ++ [m8, m9, m10, m11].flatMap encZ ++ [m12, m13, m14, m15].flatMap encZ).length ≤ 182 := by simp only [List.length_append]; omega
  have HPM := Lib.hid (show pre0 ++ [m0, m1, m2, m3].flatMap encZ ++ [m4, m5, m6, m7].flatMap encZ ++ [m8, m9, m10, m11].flatMap encZ ++ [m12, m13, m14, m15].flatMap encZ = pre0 ++ [m0, m1, m2, m3, m4, m5, m6, m7, m8, m9, m10, m11, m12, m13, m14, m15].flatMap encZ by simp [List.append_assoc])
  generalize pre0 ++ [m0, m1, m2, m3].flatMap encZ ++ [m4, m5, m6, m7].flatMap encZ ++ [m8, m9, m10, m11].flatMap encZ ++ [m12, m13, m14, m15].flatMap encZ = pre1 at *
  clear hv5 hv6 hv7 hv8 hix HM hpl0
  go_wp2_with fail
  refine (pen_count (V.length : Int) (by omega) _ _ _ _ _ P8 (by omega) P8.base_le).mono ?_
  rintro e w9 ⟨rfl, F9, P9, s9⟩
  have S9 := S8.trans s9
  have B9 := B8.calm s9.1 hn8
  have hn9 : b0 ∉ F9 := fun h => by rcases s9.2 _ h with h | h; exact hn8 h; (have := B8.lt; omega)
  have cB9 := B9.cell
  clear P8 S8 s9 cB8 B8 hn8
  rw [Int.toNat_natCast] at P9
  have hpl2 : (pre1 ++ leb V.length).length ≤ 192 := by simp only [List.length_append]; omega
  generalize hpre2 : pre1 ++ leb V.length = pre2 at *
  have HP2 := Lib.hid hpre2
  clear hpre2 hpl1 k3
  have hfl := fun (j : Nat) => flat_len (e := encV) (b := 80) (l := V.take j) (fun v hv => encV_len (HV.out v (List.mem_of_mem_take hv)))
  go_wp2_with fail
  go_loopg [39] V.length (fun k iv wr => ∃ (j : Nat) (F' : List Nat), j + k = V.length ∧ iv = .int .i64 j ∧ Pen wr base p (pre2 ++ (V.take j).flatMap encV) F' ∧ Step F F' w wr ∧ Blk wr b0 #[.int .i64 W, .int .i64 H, .int .i64 m0, .int .i64 m1, .int .i64 m2, .int .i64 m3, .int .i64 m4, .int .i64 m5, .int .i64 m6, .int .i64 m7, .int .i64 m8, .int .i64 m9, .int .i64 m10, .int .i64 m11, .int .i64 m12, .int .i64 m13, .int .i64 m14, .int .i64 m15, .slice va V.length vc, .slice sa Sh.length sc, .slice pa Pa.length pc, .slice da dms.length dc] 42 ∧ b0 ∉ F')
  case atStart => exact ⟨0, F9, by omega, by simp, by simpa using P9, S9, B9, hn9⟩
  case round =>
    clear P9 S9 cB9 B9 hn9
    obtain ⟨j, F10, hjk, rfl, P10, s10, B10, hn10⟩ := hrel
    have e10 := s10.ext hx HFb.out
    have htl : (V.take j).length ≤ 64 := by simp; omega
    have hflj := hfl j
    by_cases hj : j < V.length
    · have hjI : (j : Int) < (V.length : Int) := by omega
      obtain ⟨g, off, v, e0, -, hvx, hc⟩ := (QV.ext e10).nth j hj
      cases e0
      have hf8 := HV.out v (List.mem_of_getElem? hvx)
      have HX := Lib.hid (show (V.take (j + 1)).flatMap encV = (V.take j).flatMap encV ++ encV v by rw [List.take_add_one, hvx]; simp)
      have R3 : wr.rangeAt g (off + j * 8) v.l := hc
      have Bz := Blk.new wr #[.int .i64 0, .int .i64 0, .int .i64 0, .int .i64 0, .int .i64 0, .int .i64 0, .int .i64 0, .int .i64 0] 69
      have Bs := Bz.setRow v.l.toArray
      have e2 : Ext wr ((wr.alloc (.cells #[.int .i64 0, .int .i64 0, .int .i64 0, .int .i64 0, .int .i64 0, .int .i64 0, .int .i64 0, .int .i64 0] 69)).setRow wr.heap.size v.l.toArray) := ((Ext.refl wr).alloc _ _).setRow (Nat.le_refl _) _
      have hone : v.l.toArray.all (·.oneCell') = true := by
        simp only [List.all_toArray, List.all_eq_true]
        exact LV.one _
      have hzl : v.l.length = 8 := rfl
      clear hc hvx
      go_upto_region 13 with (first
        | refine wpList_load_mid rfl 69 (.tmp 41) rfl g (off + j * 8) rfl v.l _ R3 Try.underlying69 rfl (by kernel_rfl) ?_
        | ((with_reducible refine wpList_store_blk (op := ⟨none, .store 69 (.tmp 7) (.tmp 42), _, _, _, _⟩) ?_ 69 (.tmp 7) (.tmp 42) ?_ wr.heap.size ?_ (cs := v.l.toArray) ?_ (z := #[.int .i64 0, .int .i64 0, .int .i64 0, .int .i64 0, .int .i64 0, .int .i64 0, .int .i64 0, .int .i64 0]) (T := 69) ?_ ?_ ?_ ?_ ?_); rfl; rfl; rfl; rfl; exact Bz; (rw [List.size_toArray, hzl]; kernel_rfl); exact hone; (simp [hzl]))
        | fail)
      have hn7 : wr.heap.size ∉ F10 := fun h => by have := (P10.lt _ h).2; omega
      have P11 := P10.ext e2
      have S11 := s10.trans (Step.of_ext (F := F10) e2)
      have B11 := B10.ext e2
      have hz11 := Bs.lt
      clear R3 Bz hone hzl P10 s10 B10 e10 e2
      generalize (wr.alloc (.cells #[.int .i64 0, .int .i64 0, .int .i64 0, .int .i64 0, .int .i64 0, .int .i64 0, .int .i64 0, .int .i64 0] 69)).setRow wr.heap.size v.l.toArray = w11 at *
      generalize wr.heap.size = b7 at *
      obtain ⟨p0, p1, p2, p3, c0, c1, c2, c3⟩ := v
      obtain ⟨⟨f0, f1, f2, f3⟩, f4, f5, f6, f7⟩ := hf8
      simp only at f0 f1 f2 f3 f4 f5 f6 f7
      have HVV := Lib.hid (show encV ⟨p0, p1, p2, p3, c0, c1, c2, c3⟩ = [p0, p1, p2, p3].flatMap encZ ++ [c0, c1, c2, c3].flatMap encZ by simp [encV])
      have hv4 : ([p0, p1, p2, p3].flatMap encZ).length ≤ 40 := by
        have := flat_len (e := encZ) (b := 10) (l := [p0, p1, p2, p3]) (fun y hy => encZ_len (by simp at hy; rcases hy with rfl | rfl | rfl | rfl <;> assumption))
        simpa using this
      have cB7 := Bs.cell
      go_wp2_with fail
      refine (encVec_any p0 p1 p2 p3 f0 f1 f2 f3 _ _ _ _ _ P11 (by simp only [List.length_append]; omega)).mono ?_
      rintro e w12 ⟨rfl, F12, P12, s12⟩
      have cB8' := (Bs.calm s12.1 hn7).cell
      have B12 := B11.calm s12.1 hn10
      have hn12 : b0 ∉ F12 := fun h => by rcases s12.2 _ h with h | h; exact hn10 h; (have := B11.lt; omega)
      have S12 := S11.trans s12
      clear P11 S11 s12 B11 cB7
      go_wp2_with fail
      refine (encVec_any c0 c1 c2 c3 f4 f5 f6 f7 _ _ _ _ _ P12 (by simp only [List.length_append]; omega)).mono ?_
      rintro e w13 ⟨rfl, F13, P13, s13⟩
      have B13 := B12.calm s13.1 hn12
      have hn13 : b0 ∉ F13 := fun h => by rcases s13.2 _ h with h | h; exact hn12 h; (have := B12.lt; omega)
      have S13 := S12.trans s13
      clear P12 S12 s13 B12 cB8'
      go_wp2
      go_roundg (gk - 1)
      case measure => omega
      case rel => exact ⟨j + 1, F13, by omega, by simp, by rw [HX.out, HVV.out, ← List.append_assoc, ← List.append_assoc]; exact P13, S13, B13, hn13⟩
    · obtain rfl : j = V.length := by omega
      rw [List.take_length] at P10 htl hflj
      have cB10 := B10.cell
      have hpl3 : (pre2 ++ V.flatMap encV).length ≤ 5312 := by simp only [List.length_append]; omega
      generalize hpre3 : pre2 ++ V.flatMap encV = pre3 at *
      have HP3 := Lib.hid hpre3
      clear hpre3 hpl2 htl hflj hfl
      go_wp2_with fail
      refine (encProgs_any w0 false _ Sh QS HS.out HGS.out gs _ _ _ _ _ P10 h0 e10 (by omega)).mono ?_
      rintro e w11 ⟨rfl, F11, P11, s11⟩
      have S11 := s10.trans s11
      have B11 := B10.calm s11.1 hn10
      have hn11 : b0 ∉ F11 := fun h => by rcases s11.2 _ h with h | h; exact hn10 h; (have := B10.lt; omega)
      have cB11 := B11.cell
      have e11 := S11.ext hx HFb.out
      clear P10 s10 s11 B10 cB10 e10 hn10
      go_wp2_with fail
      refine (encProgs_any w0 true _ Pa QP HPp.out HGP.out gp _ _ _ _ _ P11 h0 e11 (by simp only [List.length_append]; omega)).mono ?_
      rintro e w12 ⟨rfl, F12, P12, s12⟩
      have S12 := S11.trans s12
      have B12 := B11.calm s12.1 hn11
      have hn12 : b0 ∉ F12 := fun h => by rcases s12.2 _ h with h | h; exact hn11 h; (have := B11.lt; omega)
      have cB12 := B12.cell
      clear P11 S11 s12 B11 cB11 e11 hn11
      have hpl4 : (pre3 ++ seqE enc Sh ++ seqE enc Pa).length ≤ 8100 := by simp only [List.length_append]; omega
      generalize hpre4 : pre3 ++ seqE enc Sh ++ seqE enc Pa = pre4 at *
      have HP4 := Lib.hid hpre4
      clear hpre4 hpl3 hlS hlP
      go_wp2_with fail
      refine (pen_count (dms.length : Int) (by omega) _ _ _ _ _ P12 (by omega) P12.base_le).mono ?_
      rintro e w13 ⟨rfl, F13, P13, s13⟩
      rw [Int.toNat_natCast] at P13
      have S13 := S12.trans s13
      have B13 := B12.calm s13.1 hn12
      have cB13 := B13.cell
      clear P12 S12 s13 B12 cB12 hn12
      have hpl5 : (pre4 ++ leb dms.length).length ≤ 8110 := by simp only [List.length_append]; omega
      generalize hpre5 : pre4 ++ leb dms.length = pre5 at *
      have HP5 := Lib.hid hpre5
      clear hpre5 hpl4
      have hidx : ∀ (i : Nat) (d : Dr), Ds[i]? = some d → d.fit ∧ d.good ∧ ∀ y ∈ d.idx, I64 y := fun i d hd => by
        have hm := List.mem_of_getElem? hd
        refine ⟨HD.out d hm, chkD_good (HGD.out d hm), ?_⟩
        have hi : i < dms.length := by rw [HDl.out]; exact (List.getElem?_eq_some_iff.1 hd).1
        obtain ⟨d', hd', -, hA⟩ := HDi.out i dms[i] (List.getElem?_eq_getElem hi)
        rw [hd] at hd'
        cases hd'
        intro y hy
        obtain ⟨-, -, hw⟩ := hA
        exact bounds_i64 (hw y hy)
      have hfd : ∀ j, ((Ds.take j).flatMap encD).length ≤ 1006 * (Ds.take j).length := fun j => flat_len (fun d hd => by
        obtain ⟨i, hi, rfl⟩ := List.mem_iff_getElem.1 hd
        have hi2 : i < Ds.length := by simp at hi; omega
        have hh := hidx i Ds[i] (List.getElem?_eq_getElem hi2)
        rw [List.getElem_take]
        exact encD_len hh.1 hh.2.1 hh.2.2)
      have HIX := Lib.hid hidx
      clear hidx
      go_wp2_with fail
      go_loopg [68] dms.length (fun k iv wt => ∃ (j : Nat) (F' : List Nat), j + k = dms.length ∧ iv = .int .i64 j ∧ Pen wt base p (pre5 ++ (Ds.take j).flatMap encD) F' ∧ Step F F' w wt)
      case atStart => exact ⟨0, F13, by omega, by simp, by simpa using P13, S13⟩
      case round =>
        clear P13 S13 cB13 B13
        generalize wr = wq at *
        obtain ⟨j, F14, hjk, rfl, P14, s14⟩ := hrel
        have e14 := s14.ext hx HFb.out
        have hflj := hfd j
        have htl : (Ds.take j).length ≤ 32 := by simp; omega
        by_cases hj : j < dms.length
        · have hjI : (j : Int) < (dms.length : Int) := by omega
          obtain ⟨g, off, m, e0, -, hmx, hc⟩ := (QD.ext e14).nth j hj
          cases e0
          obtain ⟨d, hdx, hmd, hA⟩ := HDi.out j m hmx
          obtain ⟨hdf, hdg, hdi⟩ := HIX.out j d hdx
          have HX := Lib.hid (show (Ds.take (j + 1)).flatMap encD = (Ds.take j).flatMap encD ++ encD d by rw [List.take_add_one, hdx]; simp)
          have R3 : wq.rangeAt g (off + j * 27) m.l := hc
          have Bz := Blk.new wq #[.int .u8 0, .bool false, .int .u8 0, .int .u8 0, .int .u8 0, .int .u8 0, .int .u8 0, .int .u8 0, .int .u8 0, .int .u8 0, .int .u8 0, .int .i64 0, .int .i64 0, .int .i64 0, .int .i64 0, .bool false, .int .u8 0, .int .u8 0, .int .u8 0, .int .u8 0, .int .i64 0, .int .u8 0, .int .u8 0, .int .i64 0, .int .i64 0, .int .u8 0, .slice none 0 0] 67
          have Bs := Bz.setRow m.l.toArray
          have e2 : Ext wq ((wq.alloc (.cells #[.int .u8 0, .bool false, .int .u8 0, .int .u8 0, .int .u8 0, .int .u8 0, .int .u8 0, .int .u8 0, .int .u8 0, .int .u8 0, .int .u8 0, .int .i64 0, .int .i64 0, .int .i64 0, .int .i64 0, .bool false, .int .u8 0, .int .u8 0, .int .u8 0, .int .u8 0, .int .i64 0, .int .u8 0, .int .u8 0, .int .i64 0, .int .i64 0, .int .u8 0, .slice none 0 0] 67)).setRow wq.heap.size m.l.toArray) := ((Ext.refl wq).alloc _ _).setRow (Nat.le_refl _) _
          have hone : m.l.toArray.all (·.oneCell') = true := by
            simp only [List.all_toArray, List.all_eq_true]
            exact LD.one _
          have hzl : m.l.length = 27 := rfl
          clear hc hmx hdx
          go_wp2_with (first
            | refine wpList_load_mid rfl 67 (.tmp 70) rfl g (off + j * 27) rfl m.l _ R3 Try.underlying67 rfl (by kernel_rfl) ?_
            | ((with_reducible refine wpList_store_blk (op := ⟨none, .store 67 (.tmp 9) (.tmp 71), _, _, _, _⟩) ?_ 67 (.tmp 9) (.tmp 71) ?_ wq.heap.size ?_ (cs := m.l.toArray) ?_ (z := #[.int .u8 0, .bool false, .int .u8 0, .int .u8 0, .int .u8 0, .int .u8 0, .int .u8 0, .int .u8 0, .int .u8 0, .int .u8 0, .int .u8 0, .int .i64 0, .int .i64 0, .int .i64 0, .int .i64 0, .bool false, .int .u8 0, .int .u8 0, .int .u8 0, .int .u8 0, .int .i64 0, .int .u8 0, .int .u8 0, .int .i64 0, .int .i64 0, .int .u8 0, .slice none 0 0]) (T := 67) ?_ ?_ ?_ ?_ ?_); rfl; rfl; rfl; rfl; exact Bz; (rw [List.size_toArray, hzl]; kernel_rfl); exact hone; rfl)
            | ((with_reducible refine wpList_load_blk (op := ⟨some 72, _, _, _, _, _⟩) ?_ 67 (.tmp 9) ?_ wq.heap.size ?_ (z := m.l.toArray) (T := 67) Bs Try.underlying67 ?_ ?_ ?_); rfl; rfl; rfl; rfl; (rw [List.size_toArray, hzl]; kernel_rfl))
            | fail)
          refine (encDraw_any w0 m d hmd hA hdf hdg hdi _ _ _ _ _ (P14.ext e2) h0 (e14.trans e2) (by simp only [List.length_append]; omega)).mono ?_
          rintro e w15 ⟨rfl, F15, P15, s15⟩
          have S15 := (s14.trans (Step.of_ext (F := F14) e2)).trans s15
          clear P14 s14 s15 e2 Bs Bz R3 hone hzl e14
          go_wp2
          go_roundg (gk - 1)
          case measure => omega
          case rel => exact ⟨j + 1, F15, by omega, by simp, by rw [HX.out, ← List.append_assoc]; exact P15, S15⟩
        · obtain rfl : j = dms.length := by omega
          go_wp2
          refine bodyPost_end (v := .tuple #[]) (by simp [results, Try.results17]) rfl ⟨rfl, F14, ?_, s14⟩
          rw [List.take_of_length_le (by rw [HDl.out]; exact Nat.le_refl _)] at P14
          have he : pre5 ++ Ds.flatMap encD = encS ⟨W, H, [m0, m1, m2, m3, m4, m5, m6, m7, m8, m9, m10, m11, m12, m13, m14, m15], V, Sh, Pa, Ds⟩ := by
            rw [← HP5.out, ← HP4.out, ← HP3.out, ← HP2.out, HPM.out, ← HPR.out]
            simp [encS, encN, seqE, HDl.out, List.append_assoc]
          rw [← he]
          exact P14
end Go.Proofs.Ytbbfmlehddfneaa

namespace Go.Proofs.Ytbbfmlehddfneaa
open Go.RowKit
set_option linter.unusedVariables false
set_option maxRecDepth 100000 in
set_option maxHeartbeats 2000000 in
theorem put11_any (s : ScrM) (x : Scr) (w : World) (hR : ScrR w s x) (hf : x.fit) : Calls Try.prog 9 #[.agg s.l.toArray] w fun e w' => ∃ v, e = .returned (.tuple #[v, .int .i64 (chkS x)]) ∧ (chkS x = 0 → Own w' w.heap.size v (encS x)) ∧ (chkS x ≠ 0 → v = .slice none 0 0) ∧ Ext w w' := by
  have hC := fun u (hu : Ext w u) => checkS_any s x u (hR.ext hu) hf
  have HF := Lib.hid hf
  obtain ⟨W, H, m, ⟨va, vn, vc⟩, ⟨sa, sn, sc⟩, ⟨pa, pn, pc⟩, ⟨da, dn, dc⟩⟩ := s
  obtain ⟨W', H', m', V, Sh, Pa, Ds⟩ := x
  obtain ⟨e1, e2, e3, QV, QS, QP, QD⟩ := hR
  simp only at e1 e2 e3 QV QS QP QD
  subst e1 e2 e3
  obtain ⟨m0, m1, m2, m3, m4, m5, m6, m7, m8, m9, m10, m11, m12, m13, m14, m15, rfl⟩ := sixteen m hf.m16
  obtain ⟨_, _, e, -, -⟩ := QV.slice
  cases e
  obtain ⟨_, _, e⟩ := QS.slice
  cases e
  obtain ⟨_, _, e⟩ := QP.slice
  cases e
  obtain ⟨dms, D1, D2, D3⟩ := QD
  obtain ⟨_, _, e, -, -⟩ := D1.slice
  cases e
  clear hf
  change ∀ u, Ext w u → Calls Try.prog 11 #[.agg #[.int .i64 W, .int .i64 H, .int .i64 m0, .int .i64 m1, .int .i64 m2, .int .i64 m3, .int .i64 m4, .int .i64 m5, .int .i64 m6, .int .i64 m7, .int .i64 m8, .int .i64 m9, .int .i64 m10, .int .i64 m11, .int .i64 m12, .int .i64 m13, .int .i64 m14, .int .i64 m15, .slice va V.length vc, .slice sa Sh.length sc, .slice pa Pa.length pc, .slice da dms.length dc]] u _ at hC
  change Calls Try.prog 9 #[.agg #[.int .i64 W, .int .i64 H, .int .i64 m0, .int .i64 m1, .int .i64 m2, .int .i64 m3, .int .i64 m4, .int .i64 m5, .int .i64 m6, .int .i64 m7, .int .i64 m8, .int .i64 m9, .int .i64 m10, .int .i64 m11, .int .i64 m12, .int .i64 m13, .int .i64 m14, .int .i64 m15, .slice va V.length vc, .slice sa Sh.length sc, .slice pa Pa.length pc, .slice da dms.length dc]] w _
  have x1 := (Ext.refl w).alloc #[.int .i64 W, .int .i64 H, .int .i64 m0, .int .i64 m1, .int .i64 m2, .int .i64 m3, .int .i64 m4, .int .i64 m5, .int .i64 m6, .int .i64 m7, .int .i64 m8, .int .i64 m9, .int .i64 m10, .int .i64 m11, .int .i64 m12, .int .i64 m13, .int .i64 m14, .int .i64 m15, .slice va V.length vc, .slice sa Sh.length sc, .slice pa Pa.length pc, .slice da dms.length dc] 42
  have B1 := Blk.new w #[.int .i64 W, .int .i64 H, .int .i64 m0, .int .i64 m1, .int .i64 m2, .int .i64 m3, .int .i64 m4, .int .i64 m5, .int .i64 m6, .int .i64 m7, .int .i64 m8, .int .i64 m9, .int .i64 m10, .int .i64 m11, .int .i64 m12, .int .i64 m13, .int .i64 m14, .int .i64 m15, .slice va V.length vc, .slice sa Sh.length sc, .slice pa Pa.length pc, .slice da dms.length dc] 42
  have D2' := Lib.hid D2
  clear D2
  go_enter Try.func9, Try.ntmps9
  go_upto_region 1 with fail
  generalize w.alloc (.cells #[.int .i64 W, .int .i64 H, .int .i64 m0, .int .i64 m1, .int .i64 m2, .int .i64 m3, .int .i64 m4, .int .i64 m5, .int .i64 m6, .int .i64 m7, .int .i64 m8, .int .i64 m9, .int .i64 m10, .int .i64 m11, .int .i64 m12, .int .i64 m13, .int .i64 m14, .int .i64 m15, .slice va V.length vc, .slice sa Sh.length sc, .slice pa Pa.length pc, .slice da dms.length dc] 42) = w1 at *
  generalize hb0 : w.heap.size = b0 at *
  go_wp2_with (first
    | ((with_reducible refine wpList_load_blk (op := ⟨some 6, _, _, _, _, _⟩) ?_ 42 (.tmp 1) ?_ b0 ?_ (z := _) (T := 42) B1 Try.underlying42 ?_ ?_ ?_); rfl; rfl; rfl; rfl; kernel_rfl)
    | fail)
  refine (hC _ x1).mono ?_
  rintro e w2 ⟨rfl, x2⟩
  have B2 := B1.ext x2
  have E2 := x1.trans x2
  obtain ⟨c, hc⟩ : ∃ c, chkS ⟨W, H, [m0, m1, m2, m3, m4, m5, m6, m7, m8, m9, m10, m11, m12, m13, m14, m15], V, Sh, Pa, Ds⟩ = c := ⟨_, rfl⟩
  have HC := Lib.hid hc
  rw [hc]
  clear hc hC x1 x2 B1
  by_cases h0 : c = 0
  · subst h0
    have hg := chkS_good HC.out
    have E3 := E2.alloc #[.slice none 0 0] 88
    have B3 := B2.alloc (.cells #[.slice none 0 0] 88)
    have P3 := Pen.new (w := w2) (base := w2.heap.size) (Nat.le_refl _)
    have hz2 := E2.size
    have hby := encS_bytes HF.out hg
    go_wp2_with (first
      | ((with_reducible refine wpList_load_blk (op := ⟨some 13, _, _, _, _, _⟩) ?_ 42 (.tmp 1) ?_ b0 ?_ (z := _) (T := 42) B3 Try.underlying42 ?_ ?_ ?_); rfl; rfl; rfl; rfl; kernel_rfl)
      | fail)
    refine (encode_any w W H m0 m1 m2 m3 m4 m5 m6 m7 m8 m9 m10 m11 m12 m13 m14 m15 va sa pa _ 0 vc 0 sc 0 pc 0 dc V Sh Pa dms Ds QV QS QP D1 D2'.out D3 HF.out hg _ _ _ _ P3 (by omega) E3).mono ?_
    rintro e w4 ⟨rfl, F4, P4, s4⟩
    have E4 := s4.ext E3 (by simp only [List.mem_singleton, forall_eq]; omega)
    have hlen : (encS ⟨W, H, [m0, m1, m2, m3, m4, m5, m6, m7, m8, m9, m10, m11, m12, m13, m14, m15], V, Sh, Pa, Ds⟩).length < 100000 := encS_len HF.out hg (fun d hd y hy => by
      obtain ⟨i, hi, rfl⟩ := List.mem_iff_getElem.1 hd
      have hi2 : i < dms.length := by rw [D2'.out]; exact hi
      obtain ⟨d', hd', -, hA⟩ := D3 i dms[i] (List.getElem?_eq_getElem hi2)
      rw [List.getElem?_eq_getElem hi] at hd'
      cases hd'
      obtain ⟨-, -, hw⟩ := hA
      exact bounds_i64 (hw y hy))
    generalize hbs : encS ⟨W, H, [m0, m1, m2, m3, m4, m5, m6, m7, m8, m9, m10, m11, m12, m13, m14, m15], V, Sh, Pa, Ds⟩ = bs at *
    have HBS := Lib.hid hbs
    clear hbs
    clear P3 s4 E3 B3 B2
    go_wp2_with fail
    refine (pen_bytes _ _ _ _ _ P4 hby hlen).mono ?_
    rintro e w5 ⟨v5, rfl, o5, x5⟩
    go_wp2
    refine bodyPost_ret (v := .tuple #[v5, .int .i64 0]) (by simp [results, Try.results9]) rfl ⟨v5, by rw [HC.out], fun _ => by rw [HBS.out]; first | exact o5.mono E4.size | (rw [← hb0]; exact o5.mono E4.size), fun h => absurd HC.out h, E4.trans x5⟩
  · go_wp2
    refine bodyPost_ret (v := .tuple #[.slice none 0 0, .int .i64 c]) (by simp [results, Try.results9]) rfl ⟨_, by rw [HC.out], fun h => absurd (HC.out.symm.trans h) h0, fun _ => rfl, E2⟩
end Go.Proofs.Ytbbfmlehddfneaa

