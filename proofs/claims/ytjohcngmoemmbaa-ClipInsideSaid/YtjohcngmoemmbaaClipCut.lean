/-
  DERIVED. The landed clip's cut (made by mkclip.py).
-/
import Derived.Test.YtjohcngmoemmbaaClipCross
import Derived.Test.YtjohcngmoemmbaaGs
import Derived.Deep.LoopGhost
namespace Go.Proofs.Ytjohcngmoemmbaa
open Go.RowKit
set_option linter.unusedVariables false
theorem info_c8 : (Try.prog.info? 32).map (fun i => (i.zero, i.size, i.bytes)) = some (some (.agg (V8.l ⟨0, 0, 0, 0, 0, 0, 0, 0⟩).toArray), 8, 64) := by kernel_rfl
def LC : Lay V8 where
  st := 40
  et := 32
  n := 8
  bytes := 64
  zero := .agg (V8.l ⟨0, 0, 0, 0, 0, 0, 0, 0⟩).toArray
  cells := V8.l
  len := fun _ => rfl
  one := fun x u hu => by
    simp at hu
    rcases hu with rfl | rfl | rfl | rfl | rfl | rfl | rfl | rfl <;> rfl
  pos := by decide
  small := by decide
  und := Try.underlying40
  info := info_c8
  zcells := rfl
set_option maxRecDepth 100000 in
set_option maxHeartbeats 4000000 in
theorem cut_any (w : World) (v : Value) (L : List V8) (hP : PArrG LC w v L) (hL : L.length ≤ 1000) (hf : ∀ x ∈ L, V8.in64 x) (k : Nat) : Calls Try.prog 20 #[v, .int .i64 (k : Int)] w fun e w' => ∃ r, e = .returned r ∧ OwnG LC w' w.heap.size r (gstep k L) ∧ Ext w w' := by
  obtain ⟨ao, cp, rfl, -, -⟩ := hP.slice
  have P := hP
  clear hP
  go_enter Try.func20, Try.ntmps20
  go_wp2_with fail
  go_loopg [5, 13] L.length (fun n0 v5 iv wx => ∃ (i : Nat) (a4 : Option Addr) (m4 c4 : Nat), i + n0 = L.length ∧ iv = .int .i64 i ∧ v5 = .slice a4 m4 c4 ∧ OwnG LC wx w.heap.size (.slice a4 m4 c4) (gpart k L i) ∧ Ext w wx)
  case atStart => exact ⟨0, none, 0, 0, by omega, by simp, rfl, by rw [gpart_zero]; exact OwnG.nil _ _ _, Ext.refl _⟩
  case round =>
        generalize wr = wy at *
        obtain ⟨i, a4, m4, c4, hik, rfl, rfl, o4, xo⟩ := hrel
        by_cases hi : i < L.length
        · have hiI : (i : Int) < (L.length : Int) := by omega
          obtain ⟨i2, hi2⟩ : ∃ i2, (i + 1) % L.length = i2 := ⟨_, rfl⟩
          have hi2n : i2 < L.length := by rw [← hi2]; exact Nat.mod_lt _ (by omega)
          have hmod : ((i : Int) + 1) % (L.length : Int) = (i2 : Int) := by rw [← hi2]; simp
          have hnI : (L.length : Int) ≠ 0 := by omega
          have hi2I : (i2 : Int) < (L.length : Int) := by omega
          obtain ⟨lb, off, x, rfl, -, hx, cx⟩ := P.nth i hi
          obtain ⟨lb2, off2, y, e2, -, hy, cy⟩ := P.nth i2 hi2n
          cases e2
          have hxf := hf x (List.mem_of_getElem? hx)
          have hyf := hf y (List.mem_of_getElem? hy)
          have hstep := gpart_succ k L i
          rw [List.getD_eq_getElem?_getD, List.getD_eq_getElem?_getD, hx, hi2, hy] at hstep
          simp only [Option.getD_some] at hstep
          have hpl := gpart_len k L i
          obtain ⟨pre, hpre⟩ : ∃ pre, gpart k L i = pre := ⟨_, rfl⟩
          rw [hpre] at o4 hstep hpl
          obtain ⟨_, _, e, -, -⟩ := id o4.slice
          cases e
          have hlt4 := o4.lt
          have hIn := fun u => insideN_any x hxf k u
          have hIm := fun u => insideN_any y hyf k u
          have hC1 := fun (h0 : 0 ≤ insF x.lim k) (h1 : insF y.lim k < 0) u => by
            have := cross_any x y hxf hyf k u
            unfold crossZ at this
            rw [if_neg (by omega)] at this
            exact this
          have hC2 := fun (h0 : 0 ≤ insF y.lim k) (h1 : insF x.lim k < 0) u => by
            have := cross_any y x hyf hxf k u
            unfold crossZ at this
            rw [if_neg (by omega)] at this
            exact this
          unfold gemit at hstep
          obtain ⟨qa, hq1⟩ : ∃ q, gcut x y k = q := ⟨_, rfl⟩
          obtain ⟨qb, hq2⟩ : ∃ q, gcut y x k = q := ⟨_, rfl⟩
          obtain ⟨a, ha⟩ : ∃ a, insF x.lim k = a := ⟨_, rfl⟩
          obtain ⟨b, hb⟩ : ∃ b, insF y.lim k = b := ⟨_, rfl⟩
          rw [ha] at hIn hC1 hC2
          rw [hb] at hIm hC1 hC2
          rw [hq1] at hC1
          rw [hq2] at hC2
          rw [ha, hb, hq1, hq2] at hstep
          clear ha hb hq1 hq2 hpre hi2 hxf hyf hx hy
          have HI1 := Lib.hid hIn
          have HI2 := Lib.hid hIm
          have HC1 := Lib.hid hC1
          have HC2 := Lib.hid hC2
          have HST := Lib.hid hstep
          have HP := Lib.hid P
          have HLf := Lib.hid hf
          clear hIn hIm hC1 hC2 hstep P hf
          obtain ⟨v0, v1, v2, v3, v4, v5, v6, v7⟩ := x
          obtain ⟨u0, u1, u2, u3, u4, u5, u6, u7⟩ := y
          obtain ⟨q0, q1, q2, q3, q4, q5, q6, q7⟩ := qa
          obtain ⟨r0, r1, r2, r3, r4, r5, r6, r7⟩ := qb
          have a0 := xo.old (cx 0 _ rfl)
          have e0 := xo.old (cy 0 _ rfl)
          have a1 := xo.old (cx 1 _ rfl)
          have e1 := xo.old (cy 1 _ rfl)
          have a2 := xo.old (cx 2 _ rfl)
          have e2 := xo.old (cy 2 _ rfl)
          have a3 := xo.old (cx 3 _ rfl)
          have e3 := xo.old (cy 3 _ rfl)
          have a4 := xo.old (cx 4 _ rfl)
          have e4 := xo.old (cy 4 _ rfl)
          have a5 := xo.old (cx 5 _ rfl)
          have e5 := xo.old (cy 5 _ rfl)
          have a6 := xo.old (cx 6 _ rfl)
          have e6 := xo.old (cy 6 _ rfl)
          have a7 := xo.old (cx 7 _ rfl)
          have e7 := xo.old (cy 7 _ rfl)
          simp only [LC, Nat.add_zero] at a0 e0 a1 e1 a2 e2 a3 e3 a4 e4 a5 e5 a6 e6 a7 e7
          clear cx cy
          have B7 := (Blk.new wy #[.int .i64 0, .int .i64 0, .int .i64 0, .int .i64 0, .int .i64 0, .int .i64 0, .int .i64 0, .int .i64 0] 32).setRow #[.int .i64 v0, .int .i64 v1, .int .i64 v2, .int .i64 v3, .int .i64 v4, .int .i64 v5, .int .i64 v6, .int .i64 v7]
          have y7 : Ext wy ((wy.alloc (.cells #[.int .i64 0, .int .i64 0, .int .i64 0, .int .i64 0, .int .i64 0, .int .i64 0, .int .i64 0, .int .i64 0] 32)).setRow wy.heap.size #[.int .i64 v0, .int .i64 v1, .int .i64 v2, .int .i64 v3, .int .i64 v4, .int .i64 v5, .int .i64 v6, .int .i64 v7]) := ((Ext.refl _).alloc _ _).setRow (Nat.le_refl _) _
          go_upto_region 5 with (first
            | ((with_reducible refine wpList_store_blk (op := ⟨none, .store 32 (.tmp 7) (.tmp 17), _, _, _, _⟩) ?_ 32 (.tmp 7) (.tmp 17) ?_ (wy.heap.size) ?_ (cs := #[.int .i64 v0, .int .i64 v1, .int .i64 v2, .int .i64 v3, .int .i64 v4, .int .i64 v5, .int .i64 v6, .int .i64 v7]) ?_ (z := #[.int .i64 0, .int .i64 0, .int .i64 0, .int .i64 0, .int .i64 0, .int .i64 0, .int .i64 0, .int .i64 0]) (T := 32) ?_ ?_ ?_ ?_ ?_); rfl; rfl; rfl; rfl; exact Blk.new wy _ _; kernel_rfl; kernel_rfl; kernel_rfl)
            | fail)
          simp only [Act.put]
          have hb7 : wy.heap.size ≤ wy.heap.size := Nat.le_refl _
          generalize (wy.alloc (.cells #[.int .i64 0, .int .i64 0, .int .i64 0, .int .i64 0, .int .i64 0, .int .i64 0, .int .i64 0, .int .i64 0] 32)).setRow wy.heap.size #[.int .i64 v0, .int .i64 v1, .int .i64 v2, .int .i64 v3, .int .i64 v4, .int .i64 v5, .int .i64 v6, .int .i64 v7] = w7 at *
          generalize hbe7 : wy.heap.size = b7 at *
          have e0 := y7.old e0
          have e1 := y7.old e1
          have e2 := y7.old e2
          have e3 := y7.old e3
          have e4 := y7.old e4
          have e5 := y7.old e5
          have e6 := y7.old e6
          have e7 := y7.old e7
          have B8 := (Blk.new w7 #[.int .i64 0, .int .i64 0, .int .i64 0, .int .i64 0, .int .i64 0, .int .i64 0, .int .i64 0, .int .i64 0] 32).setRow #[.int .i64 u0, .int .i64 u1, .int .i64 u2, .int .i64 u3, .int .i64 u4, .int .i64 u5, .int .i64 u6, .int .i64 u7]
          have y8 : Ext w7 ((w7.alloc (.cells #[.int .i64 0, .int .i64 0, .int .i64 0, .int .i64 0, .int .i64 0, .int .i64 0, .int .i64 0, .int .i64 0] 32)).setRow w7.heap.size #[.int .i64 u0, .int .i64 u1, .int .i64 u2, .int .i64 u3, .int .i64 u4, .int .i64 u5, .int .i64 u6, .int .i64 u7]) := ((Ext.refl _).alloc _ _).setRow (Nat.le_refl _) _
          go_upto_region 6 with (first
            | ((with_reducible refine wpList_store_blk (op := ⟨none, .store 32 (.tmp 8) (.tmp 25), _, _, _, _⟩) ?_ 32 (.tmp 8) (.tmp 25) ?_ (w7.heap.size) ?_ (cs := #[.int .i64 u0, .int .i64 u1, .int .i64 u2, .int .i64 u3, .int .i64 u4, .int .i64 u5, .int .i64 u6, .int .i64 u7]) ?_ (z := #[.int .i64 0, .int .i64 0, .int .i64 0, .int .i64 0, .int .i64 0, .int .i64 0, .int .i64 0, .int .i64 0]) (T := 32) ?_ ?_ ?_ ?_ ?_); rfl; rfl; rfl; rfl; exact Blk.new w7 _ _; kernel_rfl; kernel_rfl; kernel_rfl)
            | fail)
          simp only [Act.put]
          have hb8 : wy.heap.size ≤ w7.heap.size := y7.size
          generalize (w7.alloc (.cells #[.int .i64 0, .int .i64 0, .int .i64 0, .int .i64 0, .int .i64 0, .int .i64 0, .int .i64 0, .int .i64 0] 32)).setRow w7.heap.size #[.int .i64 u0, .int .i64 u1, .int .i64 u2, .int .i64 u3, .int .i64 u4, .int .i64 u5, .int .i64 u6, .int .i64 u7] = w8 at *
          generalize hbe8 : w7.heap.size = b8 at *
          have B7 := B7.ext y8
          clear a0 e0 a1 e1 a2 e2 a3 e3 a4 e4 a5 e5 a6 e6 a7 e7 hmod hi2I hnI hi2n
          have x8 := y7.trans y8
          clear y7 y8
          apply wp_region_reads2 _ (by kernel_rfl) (by kernel_rfl)
          case H =>
            intro y0 hy0
            have hne : Nonempty (Wx y0) := ⟨⟨y0, Ext.refl y0⟩⟩
            have q3 := fun (t : Wx y0) => (B7.ext (hy0.trans t.ext)).cell
            have q4 := fun (t : Wx y0) => (B8.ext (hy0.trans t.ext)).cell
            repeat (go_big_quiet_step (first | (go_at_call 15; with_reducible exact calm_of (HI1.out _)) | (go_at_call 15; with_reducible exact calm_of (HI2.out _))))
            exact wpQuiet_nil rfl
          intro w9 x9
          have B7 := B7.ext x9
          have B8 := B8.ext x9
          have x89 := x8.trans x9
          have o9 := o4.ext x89
          have E9 := xo.trans x89
          have hz9 := x89.size
          have hz0 := E9.size
          clear x8 x9 o4 HI1 HI2
          by_cases s1 : 0 ≤ a
          · by_cases s2 : 0 ≤ b
            · have hst := HST.out
              rw [if_pos s1, if_neg (by omega), if_neg (by omega)] at hst
              have E10_0 := E9
              have y10 : Ext w9 (w9.alloc (.cells #[.int .i64 v0, .int .i64 v1, .int .i64 v2, .int .i64 v3, .int .i64 v4, .int .i64 v5, .int .i64 v6, .int .i64 v7] 32)) := (Ext.refl _).alloc _ _
              have q10 := o9.ext y10
              have hcn10 : ∀ i u, (LC.cells ⟨v0, v1, v2, v3, v4, v5, v6, v7⟩)[i]? = some u → (w9.alloc (.cells #[.int .i64 v0, .int .i64 v1, .int .i64 v2, .int .i64 v3, .int .i64 v4, .int .i64 v5, .int .i64 v6, .int .i64 v7] 32)).cell? ⟨w9.heap.size, i, none⟩ = some u := fun i u hu => by
                rw [(Blk.new w9 _ _).cell]
                have hu' : (#[.int .i64 v0, .int .i64 v1, .int .i64 v2, .int .i64 v3, .int .i64 v4, .int .i64 v5, .int .i64 v6, .int .i64 v7] : Array Value).toList[i]? = some u := hu
                simpa using hu'
              have hz10 := (y10).size
              have hb10 := (E10_0).size
              go_wp2_with (first
                | ((with_reducible refine wpList_load_blk (op := ⟨some 36, _, _, _, _, _⟩) ?_ 32 (.tmp 7) ?_ (b7) ?_ (z := _) (T := 32) B7 Try.underlying32 ?_ ?_ ?_); rfl; rfl; rfl; rfl; kernel_rfl)
                | (at_builtin; refine wpList_append_g1 LC rfl _ _ rfl w.heap.size _ pre rfl q10 w9.heap.size 1 ⟨v0, v1, v2, v3, v4, v5, v6, v7⟩ rfl hcn10 (by first | omega | (simp; omega)) (by omega) ?_)
                | fail)
              intro v10 w10 o10 A10 hk10
              obtain ⟨ao10, c10, rfl, -, -⟩ := o10.slice
              have E10 := Ext.calm_trans (E10_0.trans y10) A10 (fun b hb => (o9.lt b (Option.mem_toList.1 hb)).1)
              simp only [List.length_append, List.length_cons, List.length_nil, Nat.zero_add] at o10 hk10 ⊢
              go_wp2
              go_roundg (gk - 1)
              case measure => omega
              case rel => exact ⟨i + 1, ao10, (pre.length + 1), c10, by omega, by simp, rfl, by rw [hst]; simpa using o10, E10⟩
            · have hst := HST.out
              rw [if_pos s1, if_pos (by omega), if_neg (by omega)] at hst
              have E10_0 := E9
              have y10 : Ext w9 (w9.alloc (.cells #[.int .i64 v0, .int .i64 v1, .int .i64 v2, .int .i64 v3, .int .i64 v4, .int .i64 v5, .int .i64 v6, .int .i64 v7] 32)) := (Ext.refl _).alloc _ _
              have q10 := o9.ext y10
              have hcn10 : ∀ i u, (LC.cells ⟨v0, v1, v2, v3, v4, v5, v6, v7⟩)[i]? = some u → (w9.alloc (.cells #[.int .i64 v0, .int .i64 v1, .int .i64 v2, .int .i64 v3, .int .i64 v4, .int .i64 v5, .int .i64 v6, .int .i64 v7] 32)).cell? ⟨w9.heap.size, i, none⟩ = some u := fun i u hu => by
                rw [(Blk.new w9 _ _).cell]
                have hu' : (#[.int .i64 v0, .int .i64 v1, .int .i64 v2, .int .i64 v3, .int .i64 v4, .int .i64 v5, .int .i64 v6, .int .i64 v7] : Array Value).toList[i]? = some u := hu
                simpa using hu'
              have hz10 := (y10).size
              have hb10 := (E10_0).size
              go_wp2_with (first
                | ((with_reducible refine wpList_load_blk (op := ⟨some 36, _, _, _, _, _⟩) ?_ 32 (.tmp 7) ?_ (b7) ?_ (z := _) (T := 32) B7 Try.underlying32 ?_ ?_ ?_); rfl; rfl; rfl; rfl; kernel_rfl)
                | (at_builtin; refine wpList_append_g1 LC rfl _ _ rfl w.heap.size _ pre rfl q10 w9.heap.size 1 ⟨v0, v1, v2, v3, v4, v5, v6, v7⟩ rfl hcn10 (by first | omega | (simp; omega)) (by omega) ?_)
                | fail)
              intro v10 w10 o10 A10 hk10
              obtain ⟨ao10, c10, rfl, -, -⟩ := o10.slice
              have E10 := Ext.calm_trans (E10_0.trans y10) A10 (fun b hb => (o9.lt b (Option.mem_toList.1 hb)).1)
              simp only [List.length_append, List.length_cons, List.length_nil, Nat.zero_add] at o10 hk10 ⊢
              have nb7 : b7 ∉ (Value.slice a4 pre.length c4).ownBlock.toList := fun hin => by have := (hlt4 _ (Option.mem_toList.1 hin)).2; omega
              have nb8 : b8 ∉ (Value.slice a4 pre.length c4).ownBlock.toList := fun hin => by have := (hlt4 _ (Option.mem_toList.1 hin)).2; omega
              have B7 := (B7.ext y10).calm A10 nb7
              have B8 := (B8.ext y10).calm A10 nb8
              go_wp2_with (first
                | ((with_reducible refine wpList_load_blk (op := ⟨some 46, _, _, _, _, _⟩) ?_ 32 (.tmp 7) ?_ (b7) ?_ (z := _) (T := 32) B7 Try.underlying32 ?_ ?_ ?_); rfl; rfl; rfl; rfl; kernel_rfl)
                | ((with_reducible refine wpList_load_blk (op := ⟨some 47, _, _, _, _, _⟩) ?_ 32 (.tmp 8) ?_ (b8) ?_ (z := _) (T := 32) B8 Try.underlying32 ?_ ?_ ?_); rfl; rfl; rfl; rfl; kernel_rfl)
                | fail)
              refine (HC1.out s1 (by omega) _).mono ?_
              rintro e w11 ⟨rfl, x11⟩
              have o11 := o10.ext x11
              have E12_0 := E10.trans x11
              have y12 : Ext w11 (w11.alloc (.cells #[.int .i64 q0, .int .i64 q1, .int .i64 q2, .int .i64 q3, .int .i64 q4, .int .i64 q5, .int .i64 q6, .int .i64 q7] 32)) := (Ext.refl _).alloc _ _
              have q12 := o11.ext y12
              have hcn12 : ∀ i u, (LC.cells ⟨q0, q1, q2, q3, q4, q5, q6, q7⟩)[i]? = some u → (w11.alloc (.cells #[.int .i64 q0, .int .i64 q1, .int .i64 q2, .int .i64 q3, .int .i64 q4, .int .i64 q5, .int .i64 q6, .int .i64 q7] 32)).cell? ⟨w11.heap.size, i, none⟩ = some u := fun i u hu => by
                rw [(Blk.new w11 _ _).cell]
                have hu' : (#[.int .i64 q0, .int .i64 q1, .int .i64 q2, .int .i64 q3, .int .i64 q4, .int .i64 q5, .int .i64 q6, .int .i64 q7] : Array Value).toList[i]? = some u := hu
                simpa using hu'
              have hz12 := (y12).size
              have hb12 := (E12_0).size
              go_wp2_with (first
                | fail
                | (at_builtin; refine wpList_append_g1 LC rfl _ _ rfl w.heap.size _ (pre ++ [(⟨v0, v1, v2, v3, v4, v5, v6, v7⟩ : V8)]) rfl q12 w11.heap.size 1 ⟨q0, q1, q2, q3, q4, q5, q6, q7⟩ rfl hcn12 (by first | omega | (simp; omega)) (by omega) ?_)
                | fail)
              intro v12 w12 o12 A12 hk12
              obtain ⟨ao12, c12, rfl, -, -⟩ := o12.slice
              have E12 := Ext.calm_trans (E12_0.trans y12) A12 (fun b hb => (o11.lt b (Option.mem_toList.1 hb)).1)
              simp only [List.length_append, List.length_cons, List.length_nil, Nat.zero_add] at o12 hk12 ⊢
              go_wp2
              go_roundg (gk - 1)
              case measure => omega
              case rel => exact ⟨i + 1, ao12, (pre.length + 1 + 1), c12, by omega, by simp, rfl, by rw [hst]; simpa using o12, E12⟩
          · by_cases s2 : 0 ≤ b
            · have hst := HST.out
              rw [if_neg s1, if_neg (by omega), if_pos (by omega)] at hst
              go_wp2_with (first
                | ((with_reducible refine wpList_load_blk (op := ⟨some 59, _, _, _, _, _⟩) ?_ 32 (.tmp 8) ?_ (b8) ?_ (z := _) (T := 32) B8 Try.underlying32 ?_ ?_ ?_); rfl; rfl; rfl; rfl; kernel_rfl)
                | ((with_reducible refine wpList_load_blk (op := ⟨some 60, _, _, _, _, _⟩) ?_ 32 (.tmp 7) ?_ (b7) ?_ (z := _) (T := 32) B7 Try.underlying32 ?_ ?_ ?_); rfl; rfl; rfl; rfl; kernel_rfl)
                | fail)
              refine (HC2.out s2 (by omega) _).mono ?_
              rintro e w11 ⟨rfl, x11⟩
              have o11 := o9.ext x11
              have E12_0 := E9.trans x11
              have y12 : Ext w11 (w11.alloc (.cells #[.int .i64 r0, .int .i64 r1, .int .i64 r2, .int .i64 r3, .int .i64 r4, .int .i64 r5, .int .i64 r6, .int .i64 r7] 32)) := (Ext.refl _).alloc _ _
              have q12 := o11.ext y12
              have hcn12 : ∀ i u, (LC.cells ⟨r0, r1, r2, r3, r4, r5, r6, r7⟩)[i]? = some u → (w11.alloc (.cells #[.int .i64 r0, .int .i64 r1, .int .i64 r2, .int .i64 r3, .int .i64 r4, .int .i64 r5, .int .i64 r6, .int .i64 r7] 32)).cell? ⟨w11.heap.size, i, none⟩ = some u := fun i u hu => by
                rw [(Blk.new w11 _ _).cell]
                have hu' : (#[.int .i64 r0, .int .i64 r1, .int .i64 r2, .int .i64 r3, .int .i64 r4, .int .i64 r5, .int .i64 r6, .int .i64 r7] : Array Value).toList[i]? = some u := hu
                simpa using hu'
              have hz12 := (y12).size
              have hb12 := (E12_0).size
              go_wp2_with (first
                | fail
                | (at_builtin; refine wpList_append_g1 LC rfl _ _ rfl w.heap.size _ pre rfl q12 w11.heap.size 1 ⟨r0, r1, r2, r3, r4, r5, r6, r7⟩ rfl hcn12 (by first | omega | (simp; omega)) (by omega) ?_)
                | fail)
              intro v12 w12 o12 A12 hk12
              obtain ⟨ao12, c12, rfl, -, -⟩ := o12.slice
              have E12 := Ext.calm_trans (E12_0.trans y12) A12 (fun b hb => (o11.lt b (Option.mem_toList.1 hb)).1)
              simp only [List.length_append, List.length_cons, List.length_nil, Nat.zero_add] at o12 hk12 ⊢
              go_wp2
              go_roundg (gk - 1)
              case measure => omega
              case rel => exact ⟨i + 1, ao12, (pre.length + 1), c12, by omega, by simp, rfl, by rw [hst]; simpa using o12, E12⟩
            · have hst := HST.out
              rw [if_neg s1, if_neg (by omega), if_neg (by omega)] at hst
              go_wp2
              go_roundg (gk - 1)
              case measure => omega
              case rel => exact ⟨i + 1, a4, pre.length, c4, by omega, by simp, rfl, by rw [hst]; simpa using o9, E9⟩
        · obtain rfl : i = L.length := by omega
          have HO4 := Lib.hid o4
          have HP := Lib.hid P
          clear o4 P hf
          go_wp2
          go_ret
          exact ⟨_, rfl, HO4.out, xo⟩
end Go.Proofs.Ytjohcngmoemmbaa
