/-
  DERIVED. THE WALK of ScriptSmall (made by mkscrsmall.py).
-/
import Derived.Test.YtbbfmlehddfneaaPkAid
namespace Go.Proofs.Ytbbfmlehddfneaa
open Go.RowKit
set_option linter.unusedVariables false
theorem s0_v : ∃ (q0 : Int) (q1 : Bool) (q2 q3 q4 q5 q6 q7 q8 q9 q10 q11 q12 q13 q14 : Int), s0.st = ⟨q0, q1, q2, q3, q4, q5, q6, q7, q8, q9, q10, q11, q12, q13, q14⟩ := ⟨_, _, _, _, _, _, _, _, _, _, _, _, _, _, _, rfl⟩
theorem rep_succ {α : Type} (j : Nat) (a : α) : List.replicate j a ++ [a] = List.replicate (j + 1) a := by rw [List.replicate_succ']
set_option maxRecDepth 100000 in
set_option maxHeartbeats 4000000 in
theorem scriptSmall_main (w : World) (s : SScr) (vs : List VSm) (sh pa : List SlV) (ds : List DSm) (Q : SScrQ w s vs sh pa ds) (n : Int) (hn : 0 ≤ n ∧ n ≤ 255) : Calls Try.prog 5 #[.agg s.v, .int .u8 n] w fun e w' => e = .returned (.bool true) ∧ Ext w w' := by
  have hL := fun u (hu : Ext w u) => light_any u s vs sh pa ds (Q.ext hu)
  have hS := fun u (hu : Ext w u) hl Ls Lp hs hp LX hd => script11_any u s vs sh pa ds (Q.ext hu) hl Ls Lp hs hp LX hd
  obtain ⟨Ls, hCs⟩ := conts_of Q.sq
  obtain ⟨Lp, hCp⟩ := conts_of Q.pq
  obtain ⟨LX, hCd⟩ := dconts_of Q.dq
  have SG := scriptF_ok Q hCs hCp hCd
  have hS := fun u (hu : Ext w u) hl => hS u hu hl Ls Lp (hCs.ext hu) (hCp.ext hu) LX (hCd.ext hu)
  generalize scriptF s vs Ls Lp ds LX = x at *
  clear hCs hCp hCd Q
  obtain ⟨N, hN, hN6⟩ : ∃ N : Nat, n % 64 = N ∧ N < 64 := ⟨(n % 64).toNat, by omega, by omega⟩
  obtain ⟨wd, ht, t0, t1, t2, t3, ⟨va, vn, vc⟩, ⟨sa, sn, sc⟩, ⟨pa', pn, pc⟩, ⟨da, dn, dc⟩⟩ := s
  have x1 := (Ext.refl w).alloc #[.int .u8 wd, .int .u8 ht, .int .i16 t0, .int .i16 t1, .int .i16 t2, .int .i16 t3, .slice va vn vc, .slice sa sn sc, .slice pa' pn pc, .slice da dn dc] 28
  have B1 := Blk.new w #[.int .u8 wd, .int .u8 ht, .int .i16 t0, .int .i16 t1, .int .i16 t2, .int .i16 t3, .slice va vn vc, .slice sa sn sc, .slice pa' pn pc, .slice da dn dc] 28
  go_enter Try.func5, Try.ntmps5
  go_upto_region 1 with fail
  generalize w.alloc (.cells #[.int .u8 wd, .int .u8 ht, .int .i16 t0, .int .i16 t1, .int .i16 t2, .int .i16 t3, .slice va vn vc, .slice sa sn sc, .slice pa' pn pc, .slice da dn dc] 28) = w1 at *
  generalize hb0 : w.heap.size = b0 at *
  go_wp2_with fail
  refine (awake11_any _).mono ?_
  rintro e w2 ⟨rfl, x2⟩
  have B2 := B1.ext x2
  have E2 := x1.trans x2
  clear B1 x1 x2
  go_wp2_with (first
    | ((with_reducible refine wpList_load_blk (op := ⟨some 18, _, _, _, _, _⟩) ?_ 28 (.tmp 2) ?_ b0 ?_ (z := _) (T := 28) B2 Try.underlying28 ?_ ?_ ?_); rfl; rfl; rfl; rfl; kernel_rfl)
    | fail)
  refine (hL _ E2).mono ?_
  rintro e w3 ⟨rfl, x3⟩
  have B3 := B2.ext x3
  have E3 := E2.trans x3
  clear B2 E2 x3 hL
  cases hl : lightB vs sh pa ds
  · go_wp2
    go_ret
    exact ⟨rfl, E3⟩
  have hS := hS _ E3 hl
  clear hl
  go_wp2_with (first
    | ((with_reducible refine wpList_load_blk (op := ⟨some 21, _, _, _, _, _⟩) ?_ 28 (.tmp 2) ?_ b0 ?_ (z := _) (T := 28) B3 Try.underlying28 ?_ ?_ ?_); rfl; rfl; rfl; rfl; kernel_rfl)
    | fail)
  refine hS.mono ?_
  rintro e w5 ⟨m, rfl, SA, x5⟩
  have E5 := E3.trans x5
  clear hS B3 E3 x5
  have hwf := SG.rd.r0.wf
  have sm := SA.m
  have hm16 : m.m.length = 16 := by rw [sm]; exact SG.rd.r0.fit.m16
  clear sm
  obtain ⟨W, H, mm, ⟨gva, gvn, gvc⟩, ⟨gsa, gsn, gsc⟩, ⟨gpa, gpn, gpc⟩, ⟨gda, gdn, gdc⟩⟩ := m
  dsimp only at hm16
  obtain ⟨m0, m1, m2, m3, m4, m5, m6, m7, m8, m9, m10, m11, m12, m13, m14, m15, rfl⟩ := sixteen mm hm16
  clear hm16
  have Bz := Blk.new w5 #[.int .i64 0, .int .i64 0, .int .i64 0, .int .i64 0, .int .i64 0, .int .i64 0, .int .i64 0, .int .i64 0, .int .i64 0, .int .i64 0, .int .i64 0, .int .i64 0, .int .i64 0, .int .i64 0, .int .i64 0, .int .i64 0, .int .i64 0, .int .i64 0, .slice none 0 0, .slice none 0 0, .slice none 0 0, .slice none 0 0] 42
  have X6 := Bz.setRow #[.int .i64 W, .int .i64 H, .int .i64 m0, .int .i64 m1, .int .i64 m2, .int .i64 m3, .int .i64 m4, .int .i64 m5, .int .i64 m6, .int .i64 m7, .int .i64 m8, .int .i64 m9, .int .i64 m10, .int .i64 m11, .int .i64 m12, .int .i64 m13, .int .i64 m14, .int .i64 m15, .slice gva gvn gvc, .slice gsa gsn gsc, .slice gpa gpn gpc, .slice gda gdn gdc]
  have E6 : Ext w5 ((w5.alloc (.cells #[.int .i64 0, .int .i64 0, .int .i64 0, .int .i64 0, .int .i64 0, .int .i64 0, .int .i64 0, .int .i64 0, .int .i64 0, .int .i64 0, .int .i64 0, .int .i64 0, .int .i64 0, .int .i64 0, .int .i64 0, .int .i64 0, .int .i64 0, .int .i64 0, .slice none 0 0, .slice none 0 0, .slice none 0 0, .slice none 0 0] 42)).setRow w5.heap.size #[.int .i64 W, .int .i64 H, .int .i64 m0, .int .i64 m1, .int .i64 m2, .int .i64 m3, .int .i64 m4, .int .i64 m5, .int .i64 m6, .int .i64 m7, .int .i64 m8, .int .i64 m9, .int .i64 m10, .int .i64 m11, .int .i64 m12, .int .i64 m13, .int .i64 m14, .int .i64 m15, .slice gva gvn gvc, .slice gsa gsn gsc, .slice gpa gpn gpc, .slice gda gdn gdc]) := ((Ext.refl w5).alloc _ _).setRow (Nat.le_refl _) _
  go_upto_region 6 with (first
    | ((with_reducible refine wpList_store_blk (op := ⟨none, .store 42 (.tmp 5) (.tmp 22), _, _, _, _⟩) ?_ 42 (.tmp 5) (.tmp 22) ?_ w5.heap.size ?_ (cs := #[.int .i64 W, .int .i64 H, .int .i64 m0, .int .i64 m1, .int .i64 m2, .int .i64 m3, .int .i64 m4, .int .i64 m5, .int .i64 m6, .int .i64 m7, .int .i64 m8, .int .i64 m9, .int .i64 m10, .int .i64 m11, .int .i64 m12, .int .i64 m13, .int .i64 m14, .int .i64 m15, .slice gva gvn gvc, .slice gsa gsn gsc, .slice gpa gpn gpc, .slice gda gdn gdc]) ?_ (z := #[.int .i64 0, .int .i64 0, .int .i64 0, .int .i64 0, .int .i64 0, .int .i64 0, .int .i64 0, .int .i64 0, .int .i64 0, .int .i64 0, .int .i64 0, .int .i64 0, .int .i64 0, .int .i64 0, .int .i64 0, .int .i64 0, .int .i64 0, .int .i64 0, .slice none 0 0, .slice none 0 0, .slice none 0 0, .slice none 0 0]) (T := 42) ?_ ?_ ?_ ?_ ?_); rfl; rfl; rfl; rfl; exact Bz; kernel_rfl; kernel_rfl; kernel_rfl)
    | fail)
  clear Bz
  generalize hw6 : (w5.alloc (.cells #[.int .i64 0, .int .i64 0, .int .i64 0, .int .i64 0, .int .i64 0, .int .i64 0, .int .i64 0, .int .i64 0, .int .i64 0, .int .i64 0, .int .i64 0, .int .i64 0, .int .i64 0, .int .i64 0, .int .i64 0, .int .i64 0, .int .i64 0, .int .i64 0, .slice none 0 0, .slice none 0 0, .slice none 0 0, .slice none 0 0] 42)).setRow w5.heap.size #[.int .i64 W, .int .i64 H, .int .i64 m0, .int .i64 m1, .int .i64 m2, .int .i64 m3, .int .i64 m4, .int .i64 m5, .int .i64 m6, .int .i64 m7, .int .i64 m8, .int .i64 m9, .int .i64 m10, .int .i64 m11, .int .i64 m12, .int .i64 m13, .int .i64 m14, .int .i64 m15, .slice gva gvn gvc, .slice gsa gsn gsc, .slice gpa gpn gpc, .slice gda gdn gdc] = w6 at *
  clear hw6
  have hX6 := X6.lt
  generalize hb5 : w5.heap.size = b5 at *
  have Bz := Blk.new w6 #[.int .i64 0, .int .i64 0, .int .i64 0, .int .i64 0] 35
  have F7 := Bz.setRow #[.int .i64 (-4194304), .int .i64 4194304, .int .i64 (-4194304), .int .i64 4194304]
  have y7 : Ext w6 ((w6.alloc (.cells #[.int .i64 0, .int .i64 0, .int .i64 0, .int .i64 0] 35)).setRow w6.heap.size #[.int .i64 (-4194304), .int .i64 4194304, .int .i64 (-4194304), .int .i64 4194304]) := ((Ext.refl w6).alloc _ _).setRow (Nat.le_refl _) _
  have E7 := E6.trans y7
  have X7 := X6.ext y7
  go_upto_region 7 with (first
    | ((with_reducible refine wpList_store_blk (op := ⟨none, .store 35 (.tmp 6) (.tmp 23), _, _, _, _⟩) ?_ 35 (.tmp 6) (.tmp 23) ?_ w6.heap.size ?_ (cs := #[.int .i64 (-4194304), .int .i64 4194304, .int .i64 (-4194304), .int .i64 4194304]) ?_ (z := #[.int .i64 0, .int .i64 0, .int .i64 0, .int .i64 0]) (T := 35) ?_ ?_ ?_ ?_ ?_); rfl; rfl; rfl; rfl; exact Bz; kernel_rfl; kernel_rfl; kernel_rfl)
    | fail)
  clear Bz y7 E6 X6
  generalize hw7 : (w6.alloc (.cells #[.int .i64 0, .int .i64 0, .int .i64 0, .int .i64 0] 35)).setRow w6.heap.size #[.int .i64 (-4194304), .int .i64 4194304, .int .i64 (-4194304), .int .i64 4194304] = w7 at *
  clear hw7
  generalize hb6 : w6.heap.size = b6 at *
  have h56 : b5 < b6 := by omega
  have hF7 := F7.lt
  have Bz := Blk.new w7 #[.int .i64 0, .int .i64 0, .int .i64 0, .int .i64 0, .int .i64 0, .int .i64 0, .int .i64 0, .int .i64 0, .int .i64 0, .int .i64 0, .int .i64 0, .int .i64 0, .int .i64 0, .int .i64 0, .int .i64 0, .int .i64 0, .int .i64 0, .int .i64 0, .slice none 0 0, .slice none 0 0, .slice none 0 0, .slice none 0 0] 42
  have G8 := Bz.setRow #[.int .i64 W, .int .i64 H, .int .i64 m0, .int .i64 m1, .int .i64 m2, .int .i64 m3, .int .i64 m4, .int .i64 m5, .int .i64 m6, .int .i64 m7, .int .i64 m8, .int .i64 m9, .int .i64 m10, .int .i64 m11, .int .i64 m12, .int .i64 m13, .int .i64 m14, .int .i64 m15, .slice gva gvn gvc, .slice gsa gsn gsc, .slice gpa gpn gpc, .slice gda gdn gdc]
  have y8 : Ext w7 ((w7.alloc (.cells #[.int .i64 0, .int .i64 0, .int .i64 0, .int .i64 0, .int .i64 0, .int .i64 0, .int .i64 0, .int .i64 0, .int .i64 0, .int .i64 0, .int .i64 0, .int .i64 0, .int .i64 0, .int .i64 0, .int .i64 0, .int .i64 0, .int .i64 0, .int .i64 0, .slice none 0 0, .slice none 0 0, .slice none 0 0, .slice none 0 0] 42)).setRow w7.heap.size #[.int .i64 W, .int .i64 H, .int .i64 m0, .int .i64 m1, .int .i64 m2, .int .i64 m3, .int .i64 m4, .int .i64 m5, .int .i64 m6, .int .i64 m7, .int .i64 m8, .int .i64 m9, .int .i64 m10, .int .i64 m11, .int .i64 m12, .int .i64 m13, .int .i64 m14, .int .i64 m15, .slice gva gvn gvc, .slice gsa gsn gsc, .slice gpa gpn gpc, .slice gda gdn gdc]) := ((Ext.refl w7).alloc _ _).setRow (Nat.le_refl _) _
  have E8 := E7.trans y8
  have X8 := X7.ext y8
  have F8 := F7.ext y8
  go_upto_region 8 with (first
    | ((with_reducible refine wpList_load_blk (op := ⟨some 24, _, _, _, _, _⟩) ?_ 42 (.tmp 5) ?_ b5 ?_ (z := _) (T := 42) X7 Try.underlying42 ?_ ?_ ?_); rfl; rfl; rfl; rfl; kernel_rfl)
    | ((with_reducible refine wpList_store_blk (op := ⟨none, .store 42 (.tmp 7) (.tmp 24), _, _, _, _⟩) ?_ 42 (.tmp 7) (.tmp 24) ?_ w7.heap.size ?_ (cs := #[.int .i64 W, .int .i64 H, .int .i64 m0, .int .i64 m1, .int .i64 m2, .int .i64 m3, .int .i64 m4, .int .i64 m5, .int .i64 m6, .int .i64 m7, .int .i64 m8, .int .i64 m9, .int .i64 m10, .int .i64 m11, .int .i64 m12, .int .i64 m13, .int .i64 m14, .int .i64 m15, .slice gva gvn gvc, .slice gsa gsn gsc, .slice gpa gpn gpc, .slice gda gdn gdc]) ?_ (z := #[.int .i64 0, .int .i64 0, .int .i64 0, .int .i64 0, .int .i64 0, .int .i64 0, .int .i64 0, .int .i64 0, .int .i64 0, .int .i64 0, .int .i64 0, .int .i64 0, .int .i64 0, .int .i64 0, .int .i64 0, .int .i64 0, .int .i64 0, .int .i64 0, .slice none 0 0, .slice none 0 0, .slice none 0 0, .slice none 0 0]) (T := 42) ?_ ?_ ?_ ?_ ?_); rfl; rfl; rfl; rfl; exact Bz; kernel_rfl; kernel_rfl; kernel_rfl)
    | fail)
  clear Bz y8 E7 X7 F7
  generalize hw8 : (w7.alloc (.cells #[.int .i64 0, .int .i64 0, .int .i64 0, .int .i64 0, .int .i64 0, .int .i64 0, .int .i64 0, .int .i64 0, .int .i64 0, .int .i64 0, .int .i64 0, .int .i64 0, .int .i64 0, .int .i64 0, .int .i64 0, .int .i64 0, .int .i64 0, .int .i64 0, .slice none 0 0, .slice none 0 0, .slice none 0 0, .slice none 0 0] 42)).setRow w7.heap.size #[.int .i64 W, .int .i64 H, .int .i64 m0, .int .i64 m1, .int .i64 m2, .int .i64 m3, .int .i64 m4, .int .i64 m5, .int .i64 m6, .int .i64 m7, .int .i64 m8, .int .i64 m9, .int .i64 m10, .int .i64 m11, .int .i64 m12, .int .i64 m13, .int .i64 m14, .int .i64 m15, .slice gva gvn gvc, .slice gsa gsn gsc, .slice gpa gpn gpc, .slice gda gdn gdc] = w8 at *
  clear hw8
  generalize hb7 : w7.heap.size = b7 at *
  have h67 : b6 < b7 := by omega
  have hG8 := G8.lt
  have cG8 := G8.cell
  have fG8 := G8.frozen
  have hE0 := E5.size
  go_upto_region 9 with fail
  have G9 : Blk (w8.setCell ⟨b7, 18, none⟩ (.slice none 0 0)) b7 #[.int .i64 W, .int .i64 H, .int .i64 m0, .int .i64 m1, .int .i64 m2, .int .i64 m3, .int .i64 m4, .int .i64 m5, .int .i64 m6, .int .i64 m7, .int .i64 m8, .int .i64 m9, .int .i64 m10, .int .i64 m11, .int .i64 m12, .int .i64 m13, .int .i64 m14, .int .i64 m15, .slice none 0 0, .slice gsa gsn gsc, .slice gpa gpn gpc, .slice gda gdn gdc] 42 := by simpa using G8.set 18 (.slice none 0 0)
  have X9 := X8.far (p := ⟨b7, 18, none⟩) (by simp; omega) (.slice none 0 0)
  have F9 := F8.far (p := ⟨b7, 18, none⟩) (by simp; omega) (.slice none 0 0)
  have E9 := E8.setCell (p := ⟨b7, 18, none⟩) (by simp only; omega) (.slice none 0 0)
  clear G8 X8 F8 E8 cG8 fG8
  generalize hw9 : w8.setCell ⟨b7, 18, none⟩ (.slice none 0 0) = w9 at *
  clear hw9
  have hz9 := G9.lt
  go_wp2_with fail
  go_loopg [26] 64 (fun n0 iv wx => ∃ (j : Nat) (va : Option Addr) (vc : Nat), j + n0 = 64 ∧ iv = .int .i64 j ∧ OwnG LV wx (b7 + 1) (.slice va j vc) (List.replicate j vG) ∧ Blk wx b7 #[.int .i64 W, .int .i64 H, .int .i64 m0, .int .i64 m1, .int .i64 m2, .int .i64 m3, .int .i64 m4, .int .i64 m5, .int .i64 m6, .int .i64 m7, .int .i64 m8, .int .i64 m9, .int .i64 m10, .int .i64 m11, .int .i64 m12, .int .i64 m13, .int .i64 m14, .int .i64 m15, .slice va j vc, .slice gsa gsn gsc, .slice gpa gpn gpc, .slice gda gdn gdc] 42 ∧ Blk wx b5 #[.int .i64 W, .int .i64 H, .int .i64 m0, .int .i64 m1, .int .i64 m2, .int .i64 m3, .int .i64 m4, .int .i64 m5, .int .i64 m6, .int .i64 m7, .int .i64 m8, .int .i64 m9, .int .i64 m10, .int .i64 m11, .int .i64 m12, .int .i64 m13, .int .i64 m14, .int .i64 m15, .slice gva gvn gvc, .slice gsa gsn gsc, .slice gpa gpn gpc, .slice gda gdn gdc] 42 ∧ Blk wx b6 #[.int .i64 (-4194304), .int .i64 4194304, .int .i64 (-4194304), .int .i64 4194304] 35 ∧ Ext w5 wx ∧ b7 < wx.heap.size)
  case atStart => exact ⟨0, none, 0, by omega, by simp, OwnG.nil _ _ _, G9, X9, F9, E9, hz9⟩
  case round =>
    clear G9 X9 F9 E9 hz9
    obtain ⟨j, va, vc, hjk, rfl, oV, G, X, Fr, E, hzr⟩ := hrel
    have cG := G.cell
    by_cases hj : j < 64
    · have hjI : (j : Int) < 64 := by omega
      have cF := Fr.cell
      have x4 : Ext wr (wr.alloc (.cells (V8.l vG).toArray 69)) := (Ext.refl wr).alloc _ _
      have o4 := oV.ext x4
      have G4 := G.ext x4
      have hcn : ∀ i u, (LV.cells vG)[i]? = some u → (wr.alloc (.cells (V8.l vG).toArray 69)).cell? ⟨wr.heap.size, i, none⟩ = some u := fun i u hu => by
        rw [(Blk.new wr _ _).cell]
        simpa [LV] using hu
      have E4 := E.trans x4
      have X4 := X.ext x4
      have Fr4 := Fr.ext x4
      have hVl := oV.lt
      have hz4 := x4.size
      unfold vG at hcn o4 G4 E4 X4 Fr4 x4 hz4
      dsimp only [V8.l] at hcn o4 G4 E4 X4 Fr4 x4 hz4
      go_wp2_with (at_builtin; refine wpList_append_g1 LV rfl _ _ rfl (b7 + 1) _ (List.replicate j vG) rfl o4 wr.heap.size 1 vG rfl hcn (by simp; omega) (by omega) ?_)
      intro v5 w10 o5 A5 hk5
      obtain ⟨a5, c5, rfl, -, -⟩ := o5.slice
      have hO : ∀ b, b ≤ b7 → b ∉ (Value.slice va j vc).ownBlock.toList := fun b hb hin => by have := (hVl b (Option.mem_toList.1 hin)).1; omega
      have G5 := G4.calm A5 (hO _ (Nat.le_refl _))
      have X5 := X4.calm A5 (hO _ (by omega))
      have F5 := Fr4.calm A5 (hO _ (by omega))
      have E5' := Ext.calm_trans E4 A5 (fun g hg => by have := (hVl g (Option.mem_toList.1 hg)).1; omega)
      have hz5 := A5.size
      rw [rep_succ] at o5
      simp only [List.length_append, List.length_replicate, List.length_cons, List.length_nil, Nat.zero_add] at o5 ⊢
      have cG5 := G5.cell
      have fG5 := G5.frozen
      clear o4 A5 hk5 G4 X4 Fr4 E4 x4 hcn oV G X Fr cG cF E
      go_wp2
      have G6 : Blk (w10.setCell ⟨b7, 18, none⟩ (.slice a5 (j + 1) c5)) b7 #[.int .i64 W, .int .i64 H, .int .i64 m0, .int .i64 m1, .int .i64 m2, .int .i64 m3, .int .i64 m4, .int .i64 m5, .int .i64 m6, .int .i64 m7, .int .i64 m8, .int .i64 m9, .int .i64 m10, .int .i64 m11, .int .i64 m12, .int .i64 m13, .int .i64 m14, .int .i64 m15, .slice a5 (j + 1) c5, .slice gsa gsn gsc, .slice gpa gpn gpc, .slice gda gdn gdc] 42 := by simpa using G5.set 18 (.slice a5 (j + 1) c5)
      have X6 := X5.far (p := ⟨b7, 18, none⟩) (by simp; omega) (.slice a5 (j + 1) c5)
      have F6 := F5.far (p := ⟨b7, 18, none⟩) (by simp; omega) (.slice a5 (j + 1) c5)
      have E6 := E5'.setCell (p := ⟨b7, 18, none⟩) (by simp only; omega) (.slice a5 (j + 1) c5)
      have o6 := o5.calm (calm_setP w10 b7 18 (.slice a5 (j + 1) c5)) (fun k hk hin => by have := (o5.lt k hk).1; simp at hin; omega)
      go_roundg (gk - 1)
      case measure => omega
      case rel => exact ⟨j + 1, a5, c5, by omega, by simp, o6, G6, X6, F6, E6, G6.lt⟩
    · obtain rfl : j = 64 := by omega
      have hVl := oV.lt
      have E0 := E
      go_wp2_with fail
      refine wp_loop_rounds 5 ?_
      rw [rounds_succ]
      have cG0 := G.cell
      have fG0 := G.frozen
      go_wp2
      have G1 : Blk ((((wr.setCell ⟨b7, 2, none⟩ (.int .i64 (-2147483647))).setCell ⟨b7, 3, none⟩ (.int .i64 2147483647)).setCell ⟨b7, 4, none⟩ (.int .i64 (-2147483647))).setCell ⟨b7, 5, none⟩ (.int .i64 2147483647)) b7 #[.int .i64 W, .int .i64 H, .int .i64 (-2147483647), .int .i64 2147483647, .int .i64 (-2147483647), .int .i64 2147483647, .int .i64 m4, .int .i64 m5, .int .i64 m6, .int .i64 m7, .int .i64 m8, .int .i64 m9, .int .i64 m10, .int .i64 m11, .int .i64 m12, .int .i64 m13, .int .i64 m14, .int .i64 m15, .slice va 64 vc, .slice gsa gsn gsc, .slice gpa gpn gpc, .slice gda gdn gdc] 42 := by simpa using (((G.set 2 (.int .i64 (-2147483647))).set 3 (.int .i64 2147483647)).set 4 (.int .i64 (-2147483647))).set 5 (.int .i64 2147483647)
      have kS0 : Calm [b7] wr ((((wr.setCell ⟨b7, 2, none⟩ (.int .i64 (-2147483647))).setCell ⟨b7, 3, none⟩ (.int .i64 2147483647)).setCell ⟨b7, 4, none⟩ (.int .i64 (-2147483647))).setCell ⟨b7, 5, none⟩ (.int .i64 2147483647)) := (((calm_setP _ _ _ _).trans (calm_setP _ _ _ _)).trans (calm_setP _ _ _ _)).trans (calm_setP _ _ _ _)
      have X1 := X.calm kS0 (by simp; omega)
      have oV1 := oV.calm kS0 (fun k hk hin => by have := (hVl k hk).1; simp at hin; omega)
      have E1 := Ext.calm_trans E kS0 (fun g hg => by rw [List.mem_singleton.1 hg]; omega)
      clear cG0 fG0 kS0 G X E oV
      generalize hu1 : ((((wr.setCell ⟨b7, 2, none⟩ (.int .i64 (-2147483647))).setCell ⟨b7, 3, none⟩ (.int .i64 2147483647)).setCell ⟨b7, 4, none⟩ (.int .i64 (-2147483647))).setCell ⟨b7, 5, none⟩ (.int .i64 2147483647)) = u1 at *
      clear hu1
      rw [rounds_succ]
      have cG1 := G1.cell
      have fG1 := G1.frozen
      go_wp2
      have G2 : Blk ((((u1.setCell ⟨b7, 6, none⟩ (.int .i64 (-2147483647))).setCell ⟨b7, 7, none⟩ (.int .i64 2147483647)).setCell ⟨b7, 8, none⟩ (.int .i64 (-2147483647))).setCell ⟨b7, 9, none⟩ (.int .i64 2147483647)) b7 #[.int .i64 W, .int .i64 H, .int .i64 (-2147483647), .int .i64 2147483647, .int .i64 (-2147483647), .int .i64 2147483647, .int .i64 (-2147483647), .int .i64 2147483647, .int .i64 (-2147483647), .int .i64 2147483647, .int .i64 m8, .int .i64 m9, .int .i64 m10, .int .i64 m11, .int .i64 m12, .int .i64 m13, .int .i64 m14, .int .i64 m15, .slice va 64 vc, .slice gsa gsn gsc, .slice gpa gpn gpc, .slice gda gdn gdc] 42 := by simpa using (((G1.set 6 (.int .i64 (-2147483647))).set 7 (.int .i64 2147483647)).set 8 (.int .i64 (-2147483647))).set 9 (.int .i64 2147483647)
      have kS1 : Calm [b7] u1 ((((u1.setCell ⟨b7, 6, none⟩ (.int .i64 (-2147483647))).setCell ⟨b7, 7, none⟩ (.int .i64 2147483647)).setCell ⟨b7, 8, none⟩ (.int .i64 (-2147483647))).setCell ⟨b7, 9, none⟩ (.int .i64 2147483647)) := (((calm_setP _ _ _ _).trans (calm_setP _ _ _ _)).trans (calm_setP _ _ _ _)).trans (calm_setP _ _ _ _)
      have X2 := X1.calm kS1 (by simp; omega)
      have oV2 := oV1.calm kS1 (fun k hk hin => by have := (hVl k hk).1; simp at hin; omega)
      have E2 := Ext.calm_trans E1 kS1 (fun g hg => by rw [List.mem_singleton.1 hg]; omega)
      clear cG1 fG1 kS1 G1 X1 E1 oV1
      generalize hu2 : ((((u1.setCell ⟨b7, 6, none⟩ (.int .i64 (-2147483647))).setCell ⟨b7, 7, none⟩ (.int .i64 2147483647)).setCell ⟨b7, 8, none⟩ (.int .i64 (-2147483647))).setCell ⟨b7, 9, none⟩ (.int .i64 2147483647)) = u2 at *
      clear hu2
      rw [rounds_succ]
      have cG2 := G2.cell
      have fG2 := G2.frozen
      go_wp2
      have G3 : Blk ((((u2.setCell ⟨b7, 10, none⟩ (.int .i64 (-2147483647))).setCell ⟨b7, 11, none⟩ (.int .i64 2147483647)).setCell ⟨b7, 12, none⟩ (.int .i64 (-2147483647))).setCell ⟨b7, 13, none⟩ (.int .i64 2147483647)) b7 #[.int .i64 W, .int .i64 H, .int .i64 (-2147483647), .int .i64 2147483647, .int .i64 (-2147483647), .int .i64 2147483647, .int .i64 (-2147483647), .int .i64 2147483647, .int .i64 (-2147483647), .int .i64 2147483647, .int .i64 (-2147483647), .int .i64 2147483647, .int .i64 (-2147483647), .int .i64 2147483647, .int .i64 m12, .int .i64 m13, .int .i64 m14, .int .i64 m15, .slice va 64 vc, .slice gsa gsn gsc, .slice gpa gpn gpc, .slice gda gdn gdc] 42 := by simpa using (((G2.set 10 (.int .i64 (-2147483647))).set 11 (.int .i64 2147483647)).set 12 (.int .i64 (-2147483647))).set 13 (.int .i64 2147483647)
      have kS2 : Calm [b7] u2 ((((u2.setCell ⟨b7, 10, none⟩ (.int .i64 (-2147483647))).setCell ⟨b7, 11, none⟩ (.int .i64 2147483647)).setCell ⟨b7, 12, none⟩ (.int .i64 (-2147483647))).setCell ⟨b7, 13, none⟩ (.int .i64 2147483647)) := (((calm_setP _ _ _ _).trans (calm_setP _ _ _ _)).trans (calm_setP _ _ _ _)).trans (calm_setP _ _ _ _)
      have X3 := X2.calm kS2 (by simp; omega)
      have oV3 := oV2.calm kS2 (fun k hk hin => by have := (hVl k hk).1; simp at hin; omega)
      have E3 := Ext.calm_trans E2 kS2 (fun g hg => by rw [List.mem_singleton.1 hg]; omega)
      clear cG2 fG2 kS2 G2 X2 E2 oV2
      generalize hu3 : ((((u2.setCell ⟨b7, 10, none⟩ (.int .i64 (-2147483647))).setCell ⟨b7, 11, none⟩ (.int .i64 2147483647)).setCell ⟨b7, 12, none⟩ (.int .i64 (-2147483647))).setCell ⟨b7, 13, none⟩ (.int .i64 2147483647)) = u3 at *
      clear hu3
      rw [rounds_succ]
      have cG3 := G3.cell
      have fG3 := G3.frozen
      go_wp2
      have G4 : Blk ((((u3.setCell ⟨b7, 14, none⟩ (.int .i64 (-2147483647))).setCell ⟨b7, 15, none⟩ (.int .i64 2147483647)).setCell ⟨b7, 16, none⟩ (.int .i64 (-2147483647))).setCell ⟨b7, 17, none⟩ (.int .i64 2147483647)) b7 #[.int .i64 W, .int .i64 H, .int .i64 (-2147483647), .int .i64 2147483647, .int .i64 (-2147483647), .int .i64 2147483647, .int .i64 (-2147483647), .int .i64 2147483647, .int .i64 (-2147483647), .int .i64 2147483647, .int .i64 (-2147483647), .int .i64 2147483647, .int .i64 (-2147483647), .int .i64 2147483647, .int .i64 (-2147483647), .int .i64 2147483647, .int .i64 (-2147483647), .int .i64 2147483647, .slice va 64 vc, .slice gsa gsn gsc, .slice gpa gpn gpc, .slice gda gdn gdc] 42 := by simpa using (((G3.set 14 (.int .i64 (-2147483647))).set 15 (.int .i64 2147483647)).set 16 (.int .i64 (-2147483647))).set 17 (.int .i64 2147483647)
      have kS3 : Calm [b7] u3 ((((u3.setCell ⟨b7, 14, none⟩ (.int .i64 (-2147483647))).setCell ⟨b7, 15, none⟩ (.int .i64 2147483647)).setCell ⟨b7, 16, none⟩ (.int .i64 (-2147483647))).setCell ⟨b7, 17, none⟩ (.int .i64 2147483647)) := (((calm_setP _ _ _ _).trans (calm_setP _ _ _ _)).trans (calm_setP _ _ _ _)).trans (calm_setP _ _ _ _)
      have X4 := X3.calm kS3 (by simp; omega)
      have oV4 := oV3.calm kS3 (fun k hk hin => by have := (hVl k hk).1; simp at hin; omega)
      have E4 := Ext.calm_trans E3 kS3 (fun g hg => by rw [List.mem_singleton.1 hg]; omega)
      clear cG3 fG3 kS3 G3 X3 E3 oV3
      generalize hu4 : ((((u3.setCell ⟨b7, 14, none⟩ (.int .i64 (-2147483647))).setCell ⟨b7, 15, none⟩ (.int .i64 2147483647)).setCell ⟨b7, 16, none⟩ (.int .i64 (-2147483647))).setCell ⟨b7, 17, none⟩ (.int .i64 2147483647)) = u4 at *
      clear hu4
      rw [rounds_succ]
      have cG4 := G4.cell
      have fG4 := G4.frozen
      have hz4 := G4.lt
      go_upto_region 19 with fail
      have G5 : Blk (u4.setCell ⟨b7, 21, none⟩ (.slice none 0 0)) b7 #[.int .i64 W, .int .i64 H, .int .i64 (-2147483647), .int .i64 2147483647, .int .i64 (-2147483647), .int .i64 2147483647, .int .i64 (-2147483647), .int .i64 2147483647, .int .i64 (-2147483647), .int .i64 2147483647, .int .i64 (-2147483647), .int .i64 2147483647, .int .i64 (-2147483647), .int .i64 2147483647, .int .i64 (-2147483647), .int .i64 2147483647, .int .i64 (-2147483647), .int .i64 2147483647, .slice va 64 vc, .slice gsa gsn gsc, .slice gpa gpn gpc, .slice none 0 0] 42 := by simpa using G4.set 21 (.slice none 0 0)
      have kS := calm_setP u4 b7 21 (.slice none 0 0)
      have X5 := X4.calm kS (by simp; omega)
      have oV5 := oV4.calm kS (fun k hk hin => by have := (hVl k hk).1; simp at hin; omega)
      have E5' := Ext.calm_trans E4 kS (fun g hg => by rw [List.mem_singleton.1 hg]; omega)
      clear cG4 fG4 kS G4 X4 E4 oV4 Fr E0 hz4 hzr cG
      generalize hu5 : u4.setCell ⟨b7, 21, none⟩ (.slice none 0 0) = u5 at *
      clear hu5
      have hz5 := G5.lt
      have hVs := oV5.lt
      obtain ⟨q0, q1, q2, q3, q4, q5, q6, q7, q8, q9, q10, q11, q12, q13, q14, hs0⟩ := s0_v
      have HN := Lib.hid hN
      have HS0 := Lib.hid hs0
      clear hs0
      go_wp2_with fail
      go_loopg [46] 32 (fun n0 iv wx => ∃ (j : Nat) (da : Option Addr) (dc : Nat) (dms : List DrM), j + n0 = 32 ∧ iv = .int .i64 j ∧ dms.length = j ∧ OwnG LD wx u5.heap.size (.slice da j dc) dms ∧ DrawsAt wx u5.heap.size dms (List.replicate j (drS N)) ∧ (∀ m ∈ dms, ∀ k, m.ix.v.ownBlock = some k → (Value.slice da j dc).ownBlock ≠ some k) ∧ Blk wx b7 #[.int .i64 W, .int .i64 H, .int .i64 (-2147483647), .int .i64 2147483647, .int .i64 (-2147483647), .int .i64 2147483647, .int .i64 (-2147483647), .int .i64 2147483647, .int .i64 (-2147483647), .int .i64 2147483647, .int .i64 (-2147483647), .int .i64 2147483647, .int .i64 (-2147483647), .int .i64 2147483647, .int .i64 (-2147483647), .int .i64 2147483647, .int .i64 (-2147483647), .int .i64 2147483647, .slice va 64 vc, .slice gsa gsn gsc, .slice gpa gpn gpc, .slice da j dc] 42 ∧ Calm [b7] u5 wx)
      case atStart => exact ⟨0, none, 0, [], by omega, by simp, rfl, OwnG.nil _ _ _, ⟨rfl, fun i s hs => by simp at hs⟩, (fun m hm => by simp at hm), G5, Calm.refl _ _⟩
      case round =>
        clear G5
        generalize wr = wy at *
        obtain ⟨j, da, dc, dms, hjk, rfl, hDl, oD, pD, apD, G, cK⟩ := hrel
        have hzy := cK.size
        have hDlt := oD.lt
        have hpDlt := pD.lt
        by_cases hj : j < 32
        · have hjI : (j : Int) < 32 := by omega
          have hst := fun u => small9_any s0 s0_ok u
          rw [HS0.out] at hst
          unfold s0 at hst
          go_wp2_with fail
          refine (hst _).mono ?_
          rintro e w11 ⟨rfl, x11⟩
          clear hst
          have Bz := Blk.new w11 #[.int .u8 0, .bool false, .int .u8 0, .int .u8 0, .int .u8 0, .int .u8 0, .int .u8 0, .int .u8 0, .int .u8 0, .int .u8 0, .int .u8 0, .int .i64 0, .int .i64 0, .int .i64 0, .int .i64 0, .bool false, .int .u8 0, .int .u8 0, .int .u8 0, .int .u8 0, .int .i64 0, .int .u8 0, .int .u8 0, .int .i64 0, .int .i64 0, .int .u8 0, .slice none 0 0] 67
          have D12 := Bz.setRow #[.int .u8 q0, .bool q1, .int .u8 q2, .int .u8 q3, .int .u8 q4, .int .u8 q5, .int .u8 q6, .int .u8 q7, .int .u8 q8, .int .u8 q9, .int .u8 q10, .int .i64 q11, .int .i64 q12, .int .i64 q13, .int .i64 q14, .bool false, .int .u8 0, .int .u8 0, .int .u8 0, .int .u8 0, .int .i64 0, .int .u8 0, .int .u8 0, .int .i64 0, .int .i64 0, .int .u8 0, .slice none 0 0]
          have y12 : Ext w11 ((w11.alloc (.cells #[.int .u8 0, .bool false, .int .u8 0, .int .u8 0, .int .u8 0, .int .u8 0, .int .u8 0, .int .u8 0, .int .u8 0, .int .u8 0, .int .u8 0, .int .i64 0, .int .i64 0, .int .i64 0, .int .i64 0, .bool false, .int .u8 0, .int .u8 0, .int .u8 0, .int .u8 0, .int .i64 0, .int .u8 0, .int .u8 0, .int .i64 0, .int .i64 0, .int .u8 0, .slice none 0 0] 67)).setRow w11.heap.size #[.int .u8 q0, .bool q1, .int .u8 q2, .int .u8 q3, .int .u8 q4, .int .u8 q5, .int .u8 q6, .int .u8 q7, .int .u8 q8, .int .u8 q9, .int .u8 q10, .int .i64 q11, .int .i64 q12, .int .i64 q13, .int .i64 q14, .bool false, .int .u8 0, .int .u8 0, .int .u8 0, .int .u8 0, .int .i64 0, .int .u8 0, .int .u8 0, .int .i64 0, .int .i64 0, .int .u8 0, .slice none 0 0]) := ((Ext.refl w11).alloc _ _).setRow (Nat.le_refl _) _
          have x12 := x11.trans y12
          have hz11 := x11.size
          go_upto_region 22 with (first
            | ((with_reducible refine wpList_store_blk (op := ⟨none, .store 67 (.tmp 9) (.tmp 50), _, _, _, _⟩) ?_ 67 (.tmp 9) (.tmp 50) ?_ w11.heap.size ?_ (cs := #[.int .u8 q0, .bool q1, .int .u8 q2, .int .u8 q3, .int .u8 q4, .int .u8 q5, .int .u8 q6, .int .u8 q7, .int .u8 q8, .int .u8 q9, .int .u8 q10, .int .i64 q11, .int .i64 q12, .int .i64 q13, .int .i64 q14, .bool false, .int .u8 0, .int .u8 0, .int .u8 0, .int .u8 0, .int .i64 0, .int .u8 0, .int .u8 0, .int .i64 0, .int .i64 0, .int .u8 0, .slice none 0 0]) ?_ (z := #[.int .u8 0, .bool false, .int .u8 0, .int .u8 0, .int .u8 0, .int .u8 0, .int .u8 0, .int .u8 0, .int .u8 0, .int .u8 0, .int .u8 0, .int .i64 0, .int .i64 0, .int .i64 0, .int .i64 0, .bool false, .int .u8 0, .int .u8 0, .int .u8 0, .int .u8 0, .int .i64 0, .int .u8 0, .int .u8 0, .int .i64 0, .int .i64 0, .int .u8 0, .slice none 0 0]) (T := 67) ?_ ?_ ?_ ?_ ?_); rfl; rfl; rfl; rfl; exact Bz; kernel_rfl; kernel_rfl; kernel_rfl)
            | fail)
          clear Bz y12 x11
          generalize hw12 : (w11.alloc (.cells #[.int .u8 0, .bool false, .int .u8 0, .int .u8 0, .int .u8 0, .int .u8 0, .int .u8 0, .int .u8 0, .int .u8 0, .int .u8 0, .int .u8 0, .int .i64 0, .int .i64 0, .int .i64 0, .int .i64 0, .bool false, .int .u8 0, .int .u8 0, .int .u8 0, .int .u8 0, .int .i64 0, .int .u8 0, .int .u8 0, .int .i64 0, .int .i64 0, .int .u8 0, .slice none 0 0] 67)).setRow w11.heap.size #[.int .u8 q0, .bool q1, .int .u8 q2, .int .u8 q3, .int .u8 q4, .int .u8 q5, .int .u8 q6, .int .u8 q7, .int .u8 q8, .int .u8 q9, .int .u8 q10, .int .i64 q11, .int .i64 q12, .int .i64 q13, .int .i64 q14, .bool false, .int .u8 0, .int .u8 0, .int .u8 0, .int .u8 0, .int .i64 0, .int .u8 0, .int .u8 0, .int .i64 0, .int .i64 0, .int .u8 0, .slice none 0 0] = w12 at *
          clear hw12
          generalize hb9 : w11.heap.size = b9 at *
          have hz12 := D12.lt
          go_wp2_with fail
          go_loopg [51] 96 (fun n0 iv wz => ∃ (i : Nat) (ia : Option Addr) (ic : Nat), i + n0 = 96 ∧ iv = .int .i64 i ∧ OwnG LI wz w12.heap.size (.slice ia i ic) (List.replicate i (N : Int)) ∧ Blk wz b9 #[.int .u8 q0, .bool q1, .int .u8 q2, .int .u8 q3, .int .u8 q4, .int .u8 q5, .int .u8 q6, .int .u8 q7, .int .u8 q8, .int .u8 q9, .int .u8 q10, .int .i64 q11, .int .i64 q12, .int .i64 q13, .int .i64 q14, .bool false, .int .u8 0, .int .u8 0, .int .u8 0, .int .u8 0, .int .i64 0, .int .u8 0, .int .u8 0, .int .i64 0, .int .i64 0, .int .u8 0, .slice ia i ic] 67 ∧ Calm [b9] w12 wz)
          case atStart => exact ⟨0, none, 0, by omega, by simp, OwnG.nil _ _ _, D12, Calm.refl _ _⟩
          case round =>
            clear D12
            generalize wr = wq at *
            obtain ⟨i, ia, ic, hik, rfl, oI, D, cI⟩ := hrel
            have hzq := cI.size
            have hIl := oI.lt
            have cD := D.cell
            by_cases hi : i < 96
            · have hiI : (i : Int) < 96 := by omega
              have hNn := HN.out
              have hNw : IntKind.i64.wrap (N : Int) = N := by rw [IntKind.wrap_i64]; omega
              have x4 : Ext wq (wq.alloc (.cells #[.int .i64 (N : Int)] 3)) := (Ext.refl wq).alloc _ _
              have o4 := oI.ext x4
              have D4 := D.ext x4
              have hcn : ∀ i u, (LI.cells (N : Int))[i]? = some u → (wq.alloc (.cells #[.int .i64 (N : Int)] 3)).cell? ⟨wq.heap.size, i, none⟩ = some u := fun i u hu => by
                rw [(Blk.new wq _ _).cell]
                simpa [LI] using hu
              have c4 := cI.trans (x4.calm [b9])
              have hz4 := x4.size
              go_wp2_with (at_builtin; refine wpList_append_g1 LI rfl _ _ rfl w12.heap.size _ (List.replicate i (N : Int)) rfl o4 wq.heap.size 1 (N : Int) rfl hcn (by simp; omega) (by omega) ?_)
              intro v5 w13 o5 A5 hk5
              obtain ⟨a5, c5, rfl, -, -⟩ := o5.slice
              have D5 := D4.calm A5 (fun hin => by have := (hIl _ (Option.mem_toList.1 hin)).1; omega)
              have c6 : Calm [b9] w12 w13 := calm_mix c4 A5 (fun g hg => .inr (by have := (o4.lt g (Option.mem_toList.1 hg)).1; omega))
              rw [rep_succ] at o5
              simp only [List.length_append, List.length_replicate, List.length_cons, List.length_nil, Nat.zero_add] at o5 ⊢
              have cD5 := D5.cell
              have fD5 := D5.frozen
              have hz13 := D5.lt
              clear o4 A5 hk5 D4 x4 hcn oI D cD cI c4
              go_wp2
              have D6 : Blk (w13.setCell ⟨b9, 26, none⟩ (.slice a5 (i + 1) c5)) b9 #[.int .u8 q0, .bool q1, .int .u8 q2, .int .u8 q3, .int .u8 q4, .int .u8 q5, .int .u8 q6, .int .u8 q7, .int .u8 q8, .int .u8 q9, .int .u8 q10, .int .i64 q11, .int .i64 q12, .int .i64 q13, .int .i64 q14, .bool false, .int .u8 0, .int .u8 0, .int .u8 0, .int .u8 0, .int .i64 0, .int .u8 0, .int .u8 0, .int .i64 0, .int .i64 0, .int .u8 0, .slice a5 (i + 1) c5] 67 := by simpa using D5.set 26 (.slice a5 (i + 1) c5)
              have kS := calm_setP w13 b9 26 (.slice a5 (i + 1) c5)
              have o6 := o5.calm kS (fun k hk hin => by have := (o5.lt k hk).1; simp at hin; omega)
              have c7 := c6.trans kS
              go_roundg (gk - 1)
              case measure => omega
              case rel => exact ⟨i + 1, a5, c5, by omega, by simp, o6, D6, c7⟩
            · obtain rfl : i = 96 := by omega
              have hm6 : (⟨⟨q0, q1, q2, q3, q4, q5, q6, q7, q8, q9, q10, q11, q12, q13, q14⟩, false, ⟨0, 0, 0, 0, 0, 0, 0⟩, 0, 0, 0, ⟨ia, 96, ic⟩⟩ : DrM).is (drS N) := ⟨HS0.out.symm, rfl, rfl, rfl, rfl, rfl⟩
              have k12 : Calm [b9] w12 wq := cI
              have kA : Calm [b9] wy wq := (x12.calm [b9]).trans cI
              have oX6 : OwnI wq w12.heap.size (.slice ia 96 ic) (List.replicate 96 (N : Int)) := oI.ownI
              have oD6 := oD.calm kA (fun k hk hin => by have := (hDlt k hk).2; simp at hin; omega)
              have pD6 := pD.calm kA (fun m hm k hk hin => by have := (hpDlt m hm k hk).2; simp at hin; omega)
              have G6 := G.calm kA (by simp; omega)
              have c6 : Calm [b7] u5 wq := calm_mix cK kA (fun g hg => .inr (by rw [List.mem_singleton.1 hg]; omega))
              clear oI cI k12 oD pD G cK kA x12
              have x7 : Ext wq (wq.alloc (.cells #[.int .u8 q0, .bool q1, .int .u8 q2, .int .u8 q3, .int .u8 q4, .int .u8 q5, .int .u8 q6, .int .u8 q7, .int .u8 q8, .int .u8 q9, .int .u8 q10, .int .i64 q11, .int .i64 q12, .int .i64 q13, .int .i64 q14, .bool false, .int .u8 0, .int .u8 0, .int .u8 0, .int .u8 0, .int .i64 0, .int .u8 0, .int .u8 0, .int .i64 0, .int .i64 0, .int .u8 0, .slice ia 96 ic] 67)) := (Ext.refl wq).alloc _ _
              have o7 := oD6.ext x7
              have p7 := pD6.ext x7
              have G7 := G6.ext x7
              have oX7 := oX6.ext x7
              have c7 := c6.trans (x7.calm [b7])
              have hcn : ∀ i u, (LD.cells ⟨⟨q0, q1, q2, q3, q4, q5, q6, q7, q8, q9, q10, q11, q12, q13, q14⟩, false, ⟨0, 0, 0, 0, 0, 0, 0⟩, 0, 0, 0, ⟨ia, 96, ic⟩⟩)[i]? = some u → (wq.alloc (.cells #[.int .u8 q0, .bool q1, .int .u8 q2, .int .u8 q3, .int .u8 q4, .int .u8 q5, .int .u8 q6, .int .u8 q7, .int .u8 q8, .int .u8 q9, .int .u8 q10, .int .i64 q11, .int .i64 q12, .int .i64 q13, .int .i64 q14, .bool false, .int .u8 0, .int .u8 0, .int .u8 0, .int .u8 0, .int .i64 0, .int .u8 0, .int .u8 0, .int .i64 0, .int .i64 0, .int .u8 0, .slice ia 96 ic] 67)).cell? ⟨wq.heap.size, i, none⟩ = some u := fun i u hu => by
                rw [(Blk.new wq _ _).cell]
                have hu' : (#[.int .u8 q0, .bool q1, .int .u8 q2, .int .u8 q3, .int .u8 q4, .int .u8 q5, .int .u8 q6, .int .u8 q7, .int .u8 q8, .int .u8 q9, .int .u8 q10, .int .i64 q11, .int .i64 q12, .int .i64 q13, .int .i64 q14, .bool false, .int .u8 0, .int .u8 0, .int .u8 0, .int .u8 0, .int .i64 0, .int .u8 0, .int .u8 0, .int .i64 0, .int .i64 0, .int .u8 0, .slice ia 96 ic] : Array Value).toList[i]? = some u := hu
                simpa using hu'
              have cG6 := G6.cell
              have hIl7 := oX6.lt
              have hz7 := c6.size
              clear oD6 pD6 G6 oX6 c6
              go_wp2_with (first
                | ((with_reducible refine wpList_load_blk (op := ⟨some 64, _, _, _, _, _⟩) ?_ 67 (.tmp 9) ?_ b9 ?_ (z := _) (T := 67) D Try.underlying67 ?_ ?_ ?_); rfl; rfl; rfl; rfl; kernel_rfl)
                | (at_builtin; refine wpList_append_g1 LD rfl _ _ rfl u5.heap.size _ dms rfl o7 wq.heap.size 1 ⟨⟨q0, q1, q2, q3, q4, q5, q6, q7, q8, q9, q10, q11, q12, q13, q14⟩, false, ⟨0, 0, 0, 0, 0, 0, 0⟩, 0, 0, 0, ⟨ia, 96, ic⟩⟩ rfl hcn (by omega) (by simp; omega) ?_))
              intro v8 w14 o8 A8 hk8
              have ap8 : ∀ m ∈ dms ++ [(⟨⟨q0, q1, q2, q3, q4, q5, q6, q7, q8, q9, q10, q11, q12, q13, q14⟩, false, ⟨0, 0, 0, 0, 0, 0, 0⟩, 0, 0, 0, ⟨ia, 96, ic⟩⟩ : DrM)], ∀ k, m.ix.v.ownBlock = some k → v8.ownBlock ≠ some k := fun m hm k hk hv => by
                have hkI : m = ⟨⟨q0, q1, q2, q3, q4, q5, q6, q7, q8, q9, q10, q11, q12, q13, q14⟩, false, ⟨0, 0, 0, 0, 0, 0, 0⟩, 0, 0, 0, ⟨ia, 96, ic⟩⟩ → w12.heap.size ≤ k ∧ k < wq.heap.size := fun e => by subst e; exact hIl7 k hk
                rcases hk8 k hv with h1 | h1
                · rcases List.mem_append.1 hm with h2 | h2
                  · exact apD m h2 k hk h1
                  · have h3 := (hDlt k h1).2
                    have h4 := (hkI (List.mem_singleton.1 h2)).1
                    omega
                · rcases List.mem_append.1 hm with h2 | h2
                  · have := (hpDlt m h2 k hk).2
                    omega
                  · have := (hkI (List.mem_singleton.1 h2)).2
                    omega
              obtain ⟨a8, c8, rfl, -, -⟩ := o8.slice
              have G8 := G7.calm A8 (fun hin => by have := (hDlt _ (Option.mem_toList.1 hin)).1; omega)
              have p8 := (p7.calm A8 (fun m hm k hk hin => apD m hm k hk (Option.mem_toList.1 hin))).snoc hm6 ((oX7.calm A8 (fun k hk hin => by
                have h1 := (hDlt k (Option.mem_toList.1 hin)).2
                have h2 := (hIl7 k hk).1
                omega)).mono (by omega))
              have c9 : Calm [b7] u5 w14 := calm_mix c7 A8 (fun g hg => .inr (hDlt g (Option.mem_toList.1 hg)).1)
              rw [rep_succ] at p8
              simp only [List.length_append, hDl, List.length_cons, List.length_nil, Nat.zero_add] at o8 ap8 ⊢
              have cG8 := G8.cell
              have fG8 := G8.frozen
              have hz14 := c9.size
              clear o7 A8 hk8 G7 p7 oX7 c7 hcn D x7 hm6 cD cG6
              go_wp2
              have kS := calm_setP w14 b7 21 (.slice a8 (j + 1) c8)
              have G9 : Blk (w14.setCell ⟨b7, 21, none⟩ (.slice a8 (j + 1) c8)) b7 #[.int .i64 W, .int .i64 H, .int .i64 (-2147483647), .int .i64 2147483647, .int .i64 (-2147483647), .int .i64 2147483647, .int .i64 (-2147483647), .int .i64 2147483647, .int .i64 (-2147483647), .int .i64 2147483647, .int .i64 (-2147483647), .int .i64 2147483647, .int .i64 (-2147483647), .int .i64 2147483647, .int .i64 (-2147483647), .int .i64 2147483647, .int .i64 (-2147483647), .int .i64 2147483647, .slice va 64 vc, .slice gsa gsn gsc, .slice gpa gpn gpc, .slice a8 (j + 1) c8] 42 := by simpa using G8.set 21 (.slice a8 (j + 1) c8)
              have o9 := o8.calm kS (fun k hk hin => by have := (o8.lt k hk).1; simp at hin; omega)
              have p9 := p8.calm kS (fun m hm k hk hin => by have := (p8.lt m hm k hk).1; simp at hin; omega)
              have c10 := c9.trans kS
              go_roundg (32 - (j + 1))
              case measure => omega
              case rel => exact ⟨j + 1, a8, c8, dms ++ [⟨⟨q0, q1, q2, q3, q4, q5, q6, q7, q8, q9, q10, q11, q12, q13, q14⟩, false, ⟨0, 0, 0, 0, 0, 0, 0⟩, 0, 0, 0, ⟨ia, 96, ic⟩⟩], by omega, by simp, by simp [hDl], o9, p9, ap8, G9, c10⟩
        · obtain rfl : j = 32 := by omega
          have hEy : Ext w5 wy := Ext.calm_trans E5' cK (fun g hg => by rw [List.mem_singleton.1 hg]; omega)
          have oVy := oV5.calm cK (fun k hk hin => by have := (hVs k hk).1; simp at hin; omega)
          have Xy := X5.calm cK (by simp; omega)
          have SAy := SA.ext hEy
          have SRy := SAy.rd hwf
          have hNn : 0 ≤ (N : Int) ∧ (N : Int) < 64 := by omega
          obtain ⟨gfit, gchk⟩ := great_fit SG hNn
          obtain ⟨mfit, mchk, mlen⟩ := more_fit SG
          have xfew := SG.few
          have gfew := great_few SG hNn
          have hDy : DRd wy (.slice da 32 dc) (List.replicate 32 (drS N)) := ⟨dms, by have := oD.parr; exact this, pD.1, fun i m hm => by
            obtain ⟨d, k1, k2, k3⟩ := pD.2 i m hm
            refine ⟨d, k1, k2, k3.arr (fun y hy => ?_)⟩
            have hd := List.eq_of_mem_replicate (List.mem_of_getElem? k1)
            subst hd
            have := List.eq_of_mem_replicate hy
            subst this
            exact wf64 (by unfold I64; omega)⟩
          have GRy : ScrR wy ⟨W, H, mG, ⟨va, 64, vc⟩, ⟨gsa, gsn, gsc⟩, ⟨gpa, gpn, gpc⟩, ⟨da, 32, dc⟩⟩ (great x N) := ⟨SRy.W, SRy.H, rfl, oVy.parr, SRy.sr, SRy.pr, hDy⟩
          have hP1 := fun u (hu : Ext wy u) => put11_any _ x u (SRy.ext hu) SG.rd.r0.fit
          have hP2 := fun u (hu : Ext wy u) => put11_any _ (great x N) u (GRy.ext hu) gfit
          change ∀ u, Ext wy u → Calls Try.prog 9 #[.agg #[.int .i64 W, .int .i64 H, .int .i64 m0, .int .i64 m1, .int .i64 m2, .int .i64 m3, .int .i64 m4, .int .i64 m5, .int .i64 m6, .int .i64 m7, .int .i64 m8, .int .i64 m9, .int .i64 m10, .int .i64 m11, .int .i64 m12, .int .i64 m13, .int .i64 m14, .int .i64 m15, .slice gva gvn gvc, .slice gsa gsn gsc, .slice gpa gpn gpc, .slice gda gdn gdc]] u _ at hP1
          change ∀ u, Ext wy u → Calls Try.prog 9 #[.agg #[.int .i64 W, .int .i64 H, .int .i64 (-2147483647), .int .i64 2147483647, .int .i64 (-2147483647), .int .i64 2147483647, .int .i64 (-2147483647), .int .i64 2147483647, .int .i64 (-2147483647), .int .i64 2147483647, .int .i64 (-2147483647), .int .i64 2147483647, .int .i64 (-2147483647), .int .i64 2147483647, .int .i64 (-2147483647), .int .i64 2147483647, .int .i64 (-2147483647), .int .i64 2147483647, .slice va 64 vc, .slice gsa gsn gsc, .slice gpa gpn gpc, .slice da 32 dc]] u _ at hP2
          have SR5 := SA.rd hwf
          obtain ⟨-, -, -, _, _, _, _, _, ld, -, -, -, ⟨xds, oX, pX, -⟩, -⟩ := SA
          clear SAy
          clear oD pD apD cK oVy hDy GRy X5 oV5 E5' hDlt hpDlt
          go_wp2_with (first
            | ((with_reducible refine wpList_load_blk (op := ⟨some 70, _, _, _, _, _⟩) ?_ 42 (.tmp 5) ?_ b5 ?_ (z := _) (T := 42) Xy Try.underlying42 ?_ ?_ ?_); rfl; rfl; rfl; rfl; kernel_rfl)
            | fail)
          refine (hP1 _ (Ext.refl _)).mono ?_
          rintro e w15 ⟨v1, rfl, r1, -, x15⟩
          have o1 := r1 SG.chk
          rw [SG.chk]
          have G15 := G.ext x15
          have X15 := Xy.ext x15
          have E15 := hEy.trans x15
          obtain ⟨a1, c1, rfl, -, -⟩ := o1.slice
          clear r1 hP1 Xy o1 G
          go_wp2_with (first
            | ((with_reducible refine wpList_load_blk (op := ⟨some 75, _, _, _, _, _⟩) ?_ 42 (.tmp 7) ?_ b7 ?_ (z := _) (T := 42) G15 Try.underlying42 ?_ ?_ ?_); rfl; rfl; rfl; rfl; kernel_rfl)
            | fail)
          refine (hP2 _ x15).mono ?_
          rintro e w16 ⟨v2, rfl, r2, -, x16⟩
          have o2 := r2 gchk
          rw [gchk]
          have X16 := X15.ext x16
          have E16 := E15.trans x16
          have y16 := x15.trans x16
          obtain ⟨a2, c2, rfl, -, -⟩ := o2.slice
          clear r2 hP2 X15 o2 G15 E15 x15 x16
          have hXd : xds.length = x.draws.length := pX.1
          have hx5 := SG.d
          obtain ⟨_, _, eX, -, -⟩ := oX.slice
          have hgn : gdn = xds.length := by cases eX; rfl
          clear eX
          subst hgn
          have HIX : Hid (∀ (i : Nat) (m : DrM), xds[i]? = some m → ∃ d, x.draws[i]? = some d ∧ m.is d ∧ Arr w5 .i64 m.ix.v d.idx) := Lib.hid fun i m hm => by
            obtain ⟨d, k1, k2, k3⟩ := pX.2 i m hm
            exact ⟨d, k1, k2, k3.arr (hwf d (List.mem_of_getElem? k1))⟩
          have HXD := Lib.hid hXd
          have hxl : xds.length ≤ 5 := by omega
          clear pX hXd
          have cX := X16.cell
          have o17 : OwnG LD (w16.alloc (.cells #[] 67)) w16.heap.size (.slice (some ⟨w16.heap.size, 0, none⟩) 0 0) [] := OwnG.lit LD w16 [] (by simp)
          have x17 : Ext w16 (w16.alloc (.cells #[] 67)) := (Ext.refl w16).alloc _ _
          have oX17 := (oX.ext E16).ext x17
          have E17 := E16.trans x17
          have X17 := X16.ext x17
          have hz16 := E16.size
          have cX17 := X17.cell
          have hXb := X16.lt
          clear X16 x17 cX oX SRy hEy y16
          go_wp2_with (first
            | (at_builtin; refine wpList_append_gs LD rfl _ _ rfl w16.heap.size _ [] rfl o17 ld _ xds rfl oX17 (by simp; omega) (by simp) ?_; intro v18 w18 o18 A18 hk18; obtain ⟨a18, c18, rfl, -, -⟩ := o18.slice; have E18 := Ext.calm_trans E17 A18 (fun g hg => by have := (o17.lt g (Option.mem_toList.1 hg)).1; omega); have X18 := X17.calm A18 (fun hin => by have := (o17.lt _ (Option.mem_toList.1 hin)).1; omega); have hz18 := A18.size; rw [List.nil_append] at o18; rw [List.nil_append]; clear o17 A18 hk18 oX17 E17 X17 cX17)
            | fail)
          have hst := fun u => small9_any s0 s0_ok u
          rw [HS0.out] at hst
          unfold s0 at hst
          refine (hst _).mono ?_
          rintro e w19 ⟨rfl, x19⟩
          clear hst
          have x20 : Ext w19 (w19.alloc (.cells #[.int .u8 q0, .bool q1, .int .u8 q2, .int .u8 q3, .int .u8 q4, .int .u8 q5, .int .u8 q6, .int .u8 q7, .int .u8 q8, .int .u8 q9, .int .u8 q10, .int .i64 q11, .int .i64 q12, .int .i64 q13, .int .i64 q14, .bool true, .int .u8 0, .int .u8 0, .int .u8 0, .int .u8 0, .int .i64 0, .int .u8 0, .int .u8 0, .int .i64 0, .int .i64 0, .int .u8 0, .slice none 0 0] 67)) := (Ext.refl w19).alloc _ _
          have o20 := (o18.ext x19).ext x20
          have E20 := (E18.trans x19).trans x20
          have X20 := (X18.ext x19).ext x20
          have hz19 := x19.size
          have hcn : ∀ i u, (LD.cells ⟨⟨q0, q1, q2, q3, q4, q5, q6, q7, q8, q9, q10, q11, q12, q13, q14⟩, true, ⟨0, 0, 0, 0, 0, 0, 0⟩, 0, 0, 0, SlV.nil⟩)[i]? = some u → (w19.alloc (.cells #[.int .u8 q0, .bool q1, .int .u8 q2, .int .u8 q3, .int .u8 q4, .int .u8 q5, .int .u8 q6, .int .u8 q7, .int .u8 q8, .int .u8 q9, .int .u8 q10, .int .i64 q11, .int .i64 q12, .int .i64 q13, .int .i64 q14, .bool true, .int .u8 0, .int .u8 0, .int .u8 0, .int .u8 0, .int .i64 0, .int .u8 0, .int .u8 0, .int .i64 0, .int .i64 0, .int .u8 0, .slice none 0 0] 67)).cell? ⟨w19.heap.size, i, none⟩ = some u := fun i u hu => by
            rw [(Blk.new w19 _ _).cell]
            have hu' : (#[.int .u8 q0, .bool q1, .int .u8 q2, .int .u8 q3, .int .u8 q4, .int .u8 q5, .int .u8 q6, .int .u8 q7, .int .u8 q8, .int .u8 q9, .int .u8 q10, .int .i64 q11, .int .i64 q12, .int .i64 q13, .int .i64 q14, .bool true, .int .u8 0, .int .u8 0, .int .u8 0, .int .u8 0, .int .i64 0, .int .u8 0, .int .u8 0, .int .i64 0, .int .i64 0, .int .u8 0, .slice none 0 0] : Array Value).toList[i]? = some u := hu
            simpa using hu'
          clear o18 E18 X18 x19 x20
          go_wp2_with (at_builtin; refine wpList_append_g1 LD rfl _ _ rfl w16.heap.size _ xds rfl o20 w19.heap.size 1 ⟨⟨q0, q1, q2, q3, q4, q5, q6, q7, q8, q9, q10, q11, q12, q13, q14⟩, true, ⟨0, 0, 0, 0, 0, 0, 0⟩, 0, 0, 0, SlV.nil⟩ rfl hcn (by omega) (by simp at hz18 ⊢; omega) ?_)
          intro v21 w21 o21 A21 hk21
          obtain ⟨a21, c21, rfl, -, -⟩ := o21.slice
          have E21 := Ext.calm_trans E20 A21 (fun g hg => by have := (o20.lt g (Option.mem_toList.1 hg)).1; omega)
          have X21 := X20.calm A21 (fun hin => by have := (o20.lt _ (Option.mem_toList.1 hin)).1; omega)
          have hl21 : (xds ++ [(⟨⟨q0, q1, q2, q3, q4, q5, q6, q7, q8, q9, q10, q11, q12, q13, q14⟩, true, ⟨0, 0, 0, 0, 0, 0, 0⟩, 0, 0, 0, SlV.nil⟩ : DrM)]).length = xds.length + 1 := by simp
          rw [hl21] at o21
          rw [hl21]
          have cX21 := X21.cell
          have fX21 := X21.frozen
          have o21l := o21.lt
          clear o20 A21 hk21 E20 X20 hcn hl21
          go_upto_region 31 with fail
          have X22' : Blk (w21.setCell ⟨b5, 21, none⟩ (.slice a21 (xds.length + 1) c21)) b5 #[.int .i64 W, .int .i64 H, .int .i64 m0, .int .i64 m1, .int .i64 m2, .int .i64 m3, .int .i64 m4, .int .i64 m5, .int .i64 m6, .int .i64 m7, .int .i64 m8, .int .i64 m9, .int .i64 m10, .int .i64 m11, .int .i64 m12, .int .i64 m13, .int .i64 m14, .int .i64 m15, .slice gva gvn gvc, .slice gsa gsn gsc, .slice gpa gpn gpc, .slice a21 (xds.length + 1) c21] 42 := by simpa using X21.set 21 (.slice a21 (xds.length + 1) c21)
          have E22 := E21.setCell (p := ⟨b5, 21, none⟩) (by simp only; omega) (.slice a21 (xds.length + 1) c21)
          have o22 := o21.calm (calm_setP w21 b5 21 (.slice a21 (xds.length + 1) c21)) (fun k hk hin => by have := (o21l k hk).1; simp at hin; omega)
          clear X21 E21 o21 cX21 fX21 o21l
          generalize hw22 : w21.setCell ⟨b5, 21, none⟩ (.slice a21 (xds.length + 1) c21) = w22 at *
          clear hw22
          have hDm : DRd w22 (.slice a21 (xds.length + 1) c21) (more x).draws := ⟨_, o22.parr, by simp [HXD.out, more], fun i m hm => by
            rcases Nat.lt_or_ge i xds.length with hi | hi
            · rw [List.getElem?_append_left hi] at hm
              obtain ⟨d, k1, k2, k3⟩ := HIX.out i m hm
              exact ⟨d, by rw [show (more x).draws = x.draws ++ [drC] from rfl, List.getElem?_append_left (by rw [← HXD.out]; exact hi)]; exact k1, k2, k3.ext E22⟩
            · rw [List.getElem?_append_right hi] at hm
              have hi2 : i = xds.length := by
                have := (List.getElem?_eq_some_iff.1 hm).1
                simp at this
                omega
              subst hi2
              simp at hm
              subst hm
              exact ⟨drC, by rw [show (more x).draws = x.draws ++ [drC] from rfl, HXD.out]; simp, ⟨HS0.out.symm, rfl, rfl, rfl, rfl, rfl⟩, ⟨⟨none, 0, rfl, Nat.le_refl _, fun h => absurd rfl h, fun _ => rfl⟩, by simp [drC, maxLen], fun y hy => by cases hy⟩⟩⟩
          have SRm : ScrR w22 ⟨W, H, [m0, m1, m2, m3, m4, m5, m6, m7, m8, m9, m10, m11, m12, m13, m14, m15], ⟨gva, gvn, gvc⟩, ⟨gsa, gsn, gsc⟩, ⟨gpa, gpn, gpc⟩, ⟨a21, xds.length + 1, c21⟩⟩ (more x) := ⟨SR5.W, SR5.H, SR5.m, SR5.vr.ext E22, SR5.sr.ext E22, SR5.pr.ext E22, hDm⟩
          have hP3 := put11_any _ (more x) w22 SRm mfit
          change Calls Try.prog 9 #[.agg #[.int .i64 W, .int .i64 H, .int .i64 m0, .int .i64 m1, .int .i64 m2, .int .i64 m3, .int .i64 m4, .int .i64 m5, .int .i64 m6, .int .i64 m7, .int .i64 m8, .int .i64 m9, .int .i64 m10, .int .i64 m11, .int .i64 m12, .int .i64 m13, .int .i64 m14, .int .i64 m15, .slice gva gvn gvc, .slice gsa gsn gsc, .slice gpa gpn gpc, .slice a21 (xds.length + 1) c21]] w22 _ at hP3
          have E22w : Ext w w22 := E5.trans E22
          clear SRm hDm o22 SR5 HIX HXD
          go_wp2_with (first
            | ((with_reducible refine wpList_load_blk (op := ⟨some 90, _, _, _, _, _⟩) ?_ 42 (.tmp 5) ?_ b5 ?_ (z := _) (T := 42) X22' Try.underlying42 ?_ ?_ ?_); rfl; rfl; rfl; rfl; kernel_rfl)
            | fail)
          refine hP3.mono ?_
          rintro e w23 ⟨v3, rfl, r3, -, x23⟩
          have o3 := r3 mchk
          rw [mchk]
          obtain ⟨a3, c3, rfl, -, -⟩ := o3.slice
          have E23 := E22w.trans x23
          clear r3 o3 hP3 X22' E22 E22w x23
          generalize (encS (more x)).length = L3 at *
          generalize (encS (great x N)).length = L2 at *
          generalize (encS x).length = L1 at *
          have i2 : (L2 : Int) ≤ 20000 := by omega
          have i3 : (L3 : Int) = (L1 : Int) + 23 := by omega
          have iw : IntKind.i64.wrap ((L1 : Int) + 23) = (L1 : Int) + 23 := by rw [IntKind.wrap_i64]; omega
          subst mlen
          go_wp2
          go_ret
          exact ⟨rfl, by first | exact E23 | (rw [hb0]; exact E23)⟩
theorem scriptSmall_row {w : World} (s : SScr) (vs : List VSm) (sh pa : List SlV) (ds : List DSm) (n : Int) (Q : SScrQ w s vs sh pa ds) (hn : 0 ≤ n ∧ n ≤ 255) : Calls Try.prog 5 #[.agg s.v, .int .u8 n] w fun e w' => e = .returned (.bool true) ∧ Ext w w' := scriptSmall_main w s vs sh pa ds Q n hn
end Go.Proofs.Ytbbfmlehddfneaa

