/-
  DERIVED. The landed clip's Clip (made by mkclip.py).
-/
import Derived.Test.YtjohcngmoemmbaaClipCut
import Derived.Test.YtjohcngmoemmbaaClipFin
namespace Go.Proofs.Ytjohcngmoemmbaa
open Go.RowKit
set_option linter.unusedVariables false
theorem takeMap_succ (L : List V8) (j : Nat) (x : V8) (h : L[j]? = some x) : (L.take (j + 1)).map V8.fin = (L.take j).map V8.fin ++ [x.fin] := by
  rw [List.take_add_one, h]
  simp
set_option maxRecDepth 100000 in
set_option maxHeartbeats 4000000 in
theorem polygon_any (w : World) (v : Value) (L : List V8) (hP : PArrG LC w v L) (hL : L.length ≤ 1000) (hf : ∀ x ∈ L, V8.in64 x) : Calls Try.prog 21 #[v] w fun e w' => ∃ r, e = .returned r ∧ OwnG LC w' w.heap.size r (gend L) ∧ Ext w w' := by
  obtain ⟨ao, cp, rfl, -, -⟩ := hP.slice
  have P := hP
  clear hP
  go_enter Try.func21, Try.ntmps21
  by_cases h3 : L.length < 3
  · have hI : (L.length : Int) < 3 := by omega
    go_wp2
    go_ret
    exact ⟨_, rfl, by unfold gend; rw [if_pos (.inl h3)]; exact OwnG.nil _ _ _, Ext.refl _⟩
  have hI : ¬ (L.length : Int) < 3 := by omega
  by_cases h16 : 16 < L.length
  · have hI2 : (16 : Int) < (L.length : Int) := by omega
    go_wp2
    go_ret
    exact ⟨_, rfl, by unfold gend; rw [if_pos (.inr h16)]; exact OwnG.nil _ _ _, Ext.refl _⟩
  have hI2 : ¬ (16 : Int) < (L.length : Int) := by omega
  go_wp2_with fail
  go_loopg [3, 16] L.length (fun n0 v3 iv wx => ∃ (i : Nat) (a4 : Option Addr) (m4 c4 : Nat), i + n0 = L.length ∧ iv = .int .i64 i ∧ v3 = .slice a4 m4 c4 ∧ OwnG LC wx w.heap.size (.slice a4 m4 c4) ((L.take i).map V8.fin) ∧ Ext w wx)
  case atStart => exact ⟨0, none, 0, 0, by omega, by simp, rfl, OwnG.nil _ _ _, Ext.refl _⟩
  case round =>
        generalize wr = wy at *
        obtain ⟨i, a4, m4, c4, hik, rfl, rfl, o4, xo⟩ := hrel
        by_cases hi : i < L.length
        · have hiI : (i : Int) < (L.length : Int) := by omega
          obtain ⟨lb, off, x, rfl, -, hx, cx⟩ := P.nth i hi
          have hst := takeMap_succ L i x hx
          have hpl : ((L.take i).map V8.fin).length ≤ 1000 := by simp; omega
          have hF := fun u => limited_any x (hf x (List.mem_of_getElem? hx)) u
          obtain ⟨pre, hpre⟩ : ∃ pre, (L.take i).map V8.fin = pre := ⟨_, rfl⟩
          obtain ⟨q, hq⟩ : ∃ q, x.fin = q := ⟨_, rfl⟩
          rw [hpre] at o4 hst hpl
          rw [hq] at hst hF
          obtain ⟨_, _, e, -, -⟩ := id o4.slice
          cases e
          clear hx hpre hq
          have HST := Lib.hid hst
          have HF := Lib.hid hF
          have HP := Lib.hid P
          have HLf := Lib.hid hf
          clear hst hF P hf
          obtain ⟨v0, v1, v2, v3, v4, v5, v6, v7⟩ := x
          obtain ⟨q0, q1, q2, q3, q4, q5, q6, q7⟩ := q
          have a0 := xo.old (cx 0 _ rfl)
          have a1 := xo.old (cx 1 _ rfl)
          have a2 := xo.old (cx 2 _ rfl)
          have a3 := xo.old (cx 3 _ rfl)
          have a4 := xo.old (cx 4 _ rfl)
          have a5 := xo.old (cx 5 _ rfl)
          have a6 := xo.old (cx 6 _ rfl)
          have a7 := xo.old (cx 7 _ rfl)
          simp only [LC, Nat.add_zero] at a0 a1 a2 a3 a4 a5 a6 a7
          clear cx
          have B7 := (Blk.new wy #[.int .i64 0, .int .i64 0, .int .i64 0, .int .i64 0, .int .i64 0, .int .i64 0, .int .i64 0, .int .i64 0] 32).setRow #[.int .i64 v0, .int .i64 v1, .int .i64 v2, .int .i64 v3, .int .i64 v4, .int .i64 v5, .int .i64 v6, .int .i64 v7]
          have y7 : Ext wy ((wy.alloc (.cells #[.int .i64 0, .int .i64 0, .int .i64 0, .int .i64 0, .int .i64 0, .int .i64 0, .int .i64 0, .int .i64 0] 32)).setRow wy.heap.size #[.int .i64 v0, .int .i64 v1, .int .i64 v2, .int .i64 v3, .int .i64 v4, .int .i64 v5, .int .i64 v6, .int .i64 v7]) := ((Ext.refl _).alloc _ _).setRow (Nat.le_refl _) _
          go_upto_region 7 with (first
            | ((with_reducible refine wpList_store_blk (op := ⟨none, .store 32 (.tmp 5) (.tmp 19), _, _, _, _⟩) ?_ 32 (.tmp 5) (.tmp 19) ?_ (wy.heap.size) ?_ (cs := #[.int .i64 v0, .int .i64 v1, .int .i64 v2, .int .i64 v3, .int .i64 v4, .int .i64 v5, .int .i64 v6, .int .i64 v7]) ?_ (z := #[.int .i64 0, .int .i64 0, .int .i64 0, .int .i64 0, .int .i64 0, .int .i64 0, .int .i64 0, .int .i64 0]) (T := 32) ?_ ?_ ?_ ?_ ?_); rfl; rfl; rfl; rfl; exact Blk.new wy _ _; kernel_rfl; kernel_rfl; kernel_rfl)
            | fail)
          simp only [Act.put]
          clear a0 a1 a2 a3 a4 a5 a6 a7
          generalize (wy.alloc (.cells #[.int .i64 0, .int .i64 0, .int .i64 0, .int .i64 0, .int .i64 0, .int .i64 0, .int .i64 0, .int .i64 0] 32)).setRow wy.heap.size #[.int .i64 v0, .int .i64 v1, .int .i64 v2, .int .i64 v3, .int .i64 v4, .int .i64 v5, .int .i64 v6, .int .i64 v7] = w7 at *
          generalize hbe : wy.heap.size = b7 at *
          go_wp2_with (first
            | ((with_reducible refine wpList_load_blk (op := ⟨some 21, _, _, _, _, _⟩) ?_ 32 (.tmp 5) ?_ (b7) ?_ (z := _) (T := 32) B7 Try.underlying32 ?_ ?_ ?_); rfl; rfl; rfl; rfl; kernel_rfl)
            | fail)
          refine (HF.out _).mono ?_
          rintro e w9 ⟨rfl, x9⟩
          have o9 := o4.ext (y7.trans x9)
          have E9 := xo.trans (y7.trans x9)
          have E10_0 := E9
          have hst := HST.out
          have y10 : Ext w9 (w9.alloc (.cells #[.int .i64 q0, .int .i64 q1, .int .i64 q2, .int .i64 q3, .int .i64 q4, .int .i64 q5, .int .i64 q6, .int .i64 q7] 32)) := (Ext.refl _).alloc _ _
          have q10 := o9.ext y10
          have hcn10 : ∀ i u, (LC.cells ⟨q0, q1, q2, q3, q4, q5, q6, q7⟩)[i]? = some u → (w9.alloc (.cells #[.int .i64 q0, .int .i64 q1, .int .i64 q2, .int .i64 q3, .int .i64 q4, .int .i64 q5, .int .i64 q6, .int .i64 q7] 32)).cell? ⟨w9.heap.size, i, none⟩ = some u := fun i u hu => by
            rw [(Blk.new w9 _ _).cell]
            have hu' : (#[.int .i64 q0, .int .i64 q1, .int .i64 q2, .int .i64 q3, .int .i64 q4, .int .i64 q5, .int .i64 q6, .int .i64 q7] : Array Value).toList[i]? = some u := hu
            simpa using hu'
          have hz10 := (y10).size
          have hb10 := (E10_0).size
          go_wp2_with (first
            | fail
            | (at_builtin; refine wpList_append_g1 LC rfl _ _ rfl w.heap.size _ pre rfl q10 w9.heap.size 1 ⟨q0, q1, q2, q3, q4, q5, q6, q7⟩ rfl hcn10 (by first | omega | (simp; omega)) (by omega) ?_)
            | fail)
          intro v10 w10 o10 A10 hk10
          obtain ⟨ao10, c10, rfl, -, -⟩ := o10.slice
          have E10 := Ext.calm_trans (E10_0.trans y10) A10 (fun b hb => (o9.lt b (Option.mem_toList.1 hb)).1)
          simp only [List.length_append, List.length_cons, List.length_nil, Nat.zero_add] at o10 hk10 ⊢
          go_wp2
          go_roundg (gk - 1)
          case measure => omega
          case rel => exact ⟨i + 1, ao10, (pre.length + 1), c10, by omega, by simp, rfl, by rw [hst]; simpa using o10, E10⟩
        · obtain rfl : i = L.length := by omega
          have HO4 := Lib.hid o4
          have HP := Lib.hid P
          clear o4 P hf
          go_wp2
          go_ret
          refine ⟨_, rfl, ?_, xo⟩
          have := HO4.out
          rw [List.take_length] at this
          unfold gend
          rw [if_neg (by omega)]
          exact this
set_option maxRecDepth 100000 in
set_option maxHeartbeats 4000000 in
theorem clip_main (v0 v1 v2 v3 v4 v5 v6 v7 n0 n1 n2 n3 n4 n5 n6 n7 t0 t1 t2 t3 t4 t5 t6 t7 : Int) (l : List V8) (hl : l = [⟨v0, v1, v2, v3, v4, v5, v6, v7⟩, ⟨n0, n1, n2, n3, n4, n5, n6, n7⟩, ⟨t0, t1, t2, t3, t4, t5, t6, t7⟩]) (hf : ∀ x ∈ l, V8.in64 x) (w : World) : Calls Try.prog 12 #[.agg #[.int .i64 v0, .int .i64 v1, .int .i64 v2, .int .i64 v3, .int .i64 v4, .int .i64 v5, .int .i64 v6, .int .i64 v7], .agg #[.int .i64 n0, .int .i64 n1, .int .i64 n2, .int .i64 n3, .int .i64 n4, .int .i64 n5, .int .i64 n6, .int .i64 n7], .agg #[.int .i64 t0, .int .i64 t1, .int .i64 t2, .int .i64 t3, .int .i64 t4, .int .i64 t5, .int .i64 t6, .int .i64 t7]] w fun e w' => ∃ r, e = .returned r ∧ OwnG LC w' w.heap.size r (gend (gplanes l 7)) ∧ Ext w w' := by
  have hlen : l.length = 3 := by rw [hl]; rfl
  have x1 : Ext w (((w.alloc (.cells #[.int .i64 v0, .int .i64 v1, .int .i64 v2, .int .i64 v3, .int .i64 v4, .int .i64 v5, .int .i64 v6, .int .i64 v7] 32)).alloc (.cells #[.int .i64 n0, .int .i64 n1, .int .i64 n2, .int .i64 n3, .int .i64 n4, .int .i64 n5, .int .i64 n6, .int .i64 n7] 32)).alloc (.cells #[.int .i64 t0, .int .i64 t1, .int .i64 t2, .int .i64 t3, .int .i64 t4, .int .i64 t5, .int .i64 t6, .int .i64 t7] 32)) := (((Ext.refl w).alloc _ _).alloc _ _).alloc _ _
  have B3 := ((Blk.new w #[.int .i64 v0, .int .i64 v1, .int .i64 v2, .int .i64 v3, .int .i64 v4, .int .i64 v5, .int .i64 v6, .int .i64 v7] 32).alloc (.cells #[.int .i64 n0, .int .i64 n1, .int .i64 n2, .int .i64 n3, .int .i64 n4, .int .i64 n5, .int .i64 n6, .int .i64 n7] 32)).alloc (.cells #[.int .i64 t0, .int .i64 t1, .int .i64 t2, .int .i64 t3, .int .i64 t4, .int .i64 t5, .int .i64 t6, .int .i64 t7] 32)
  have B4 := (Blk.new (w.alloc (.cells #[.int .i64 v0, .int .i64 v1, .int .i64 v2, .int .i64 v3, .int .i64 v4, .int .i64 v5, .int .i64 v6, .int .i64 v7] 32)) #[.int .i64 n0, .int .i64 n1, .int .i64 n2, .int .i64 n3, .int .i64 n4, .int .i64 n5, .int .i64 n6, .int .i64 n7] 32).alloc (.cells #[.int .i64 t0, .int .i64 t1, .int .i64 t2, .int .i64 t3, .int .i64 t4, .int .i64 t5, .int .i64 t6, .int .i64 t7] 32)
  have B5 := Blk.new ((w.alloc (.cells #[.int .i64 v0, .int .i64 v1, .int .i64 v2, .int .i64 v3, .int .i64 v4, .int .i64 v5, .int .i64 v6, .int .i64 v7] 32)).alloc (.cells #[.int .i64 n0, .int .i64 n1, .int .i64 n2, .int .i64 n3, .int .i64 n4, .int .i64 n5, .int .i64 n6, .int .i64 n7] 32)) #[.int .i64 t0, .int .i64 t1, .int .i64 t2, .int .i64 t3, .int .i64 t4, .int .i64 t5, .int .i64 t6, .int .i64 t7] 32
  have HL := Lib.hid hl
  have HN := Lib.hid hlen
  have HF := Lib.hid hf
  clear hl hlen hf
  go_enter Try.func12, Try.ntmps12
  go_upto_region 1 with fail
  simp only [World.size_alloc] at B4 B5
  generalize (((w.alloc (.cells #[.int .i64 v0, .int .i64 v1, .int .i64 v2, .int .i64 v3, .int .i64 v4, .int .i64 v5, .int .i64 v6, .int .i64 v7] 32)).alloc (.cells #[.int .i64 n0, .int .i64 n1, .int .i64 n2, .int .i64 n3, .int .i64 n4, .int .i64 n5, .int .i64 n6, .int .i64 n7] 32)).alloc (.cells #[.int .i64 t0, .int .i64 t1, .int .i64 t2, .int .i64 t3, .int .i64 t4, .int .i64 t5, .int .i64 t6, .int .i64 t7] 32)) = w1 at *
  have O := OwnG.lit LC w1 l (by rw [HN.out]; omega)
  rw [HN.out] at O
  have eF : (LC.flat l).toArray = #[.int .i64 v0, .int .i64 v1, .int .i64 v2, .int .i64 v3, .int .i64 v4, .int .i64 v5, .int .i64 v6, .int .i64 v7, .int .i64 n0, .int .i64 n1, .int .i64 n2, .int .i64 n3, .int .i64 n4, .int .i64 n5, .int .i64 n6, .int .i64 n7, .int .i64 t0, .int .i64 t1, .int .i64 t2, .int .i64 t3, .int .i64 t4, .int .i64 t5, .int .i64 t6, .int .i64 t7] := by rw [HL.out]; rfl
  rw [eF] at O
  have x2 := x1.alloc #[.int .i64 v0, .int .i64 v1, .int .i64 v2, .int .i64 v3, .int .i64 v4, .int .i64 v5, .int .i64 v6, .int .i64 v7, .int .i64 n0, .int .i64 n1, .int .i64 n2, .int .i64 n3, .int .i64 n4, .int .i64 n5, .int .i64 n6, .int .i64 n7, .int .i64 t0, .int .i64 t1, .int .i64 t2, .int .i64 t3, .int .i64 t4, .int .i64 t5, .int .i64 t6, .int .i64 t7] 32
  have O' : OwnG LC (w1.alloc (.cells #[.int .i64 v0, .int .i64 v1, .int .i64 v2, .int .i64 v3, .int .i64 v4, .int .i64 v5, .int .i64 v6, .int .i64 v7, .int .i64 n0, .int .i64 n1, .int .i64 n2, .int .i64 n3, .int .i64 n4, .int .i64 n5, .int .i64 n6, .int .i64 n7, .int .i64 t0, .int .i64 t1, .int .i64 t2, .int .i64 t3, .int .i64 t4, .int .i64 t5, .int .i64 t6, .int .i64 t7] 32)) w1.heap.size (.slice (some ⟨w1.heap.size, 0, none⟩) 3 3) l := O
  have HO := Lib.hid O'
  have HX := Lib.hid x2
  clear O O' eF x2 x1
  go_wp2_with (first
    | ((with_reducible refine wpList_load_blk (op := ⟨some 9, _, _, _, _, _⟩) ?_ 32 (.tmp 3) ?_ (w.heap.size) ?_ (z := _) (T := 32) B3 Try.underlying32 ?_ ?_ ?_); rfl; rfl; rfl; rfl; kernel_rfl)
    | ((with_reducible refine wpList_load_blk (op := ⟨some 10, _, _, _, _, _⟩) ?_ 32 (.tmp 4) ?_ (w.heap.size + 1) ?_ (z := _) (T := 32) B4 Try.underlying32 ?_ ?_ ?_); rfl; rfl; rfl; rfl; kernel_rfl)
    | ((with_reducible refine wpList_load_blk (op := ⟨some 11, _, _, _, _, _⟩) ?_ 32 (.tmp 5) ?_ (w.heap.size + 1 + 1) ?_ (z := _) (T := 32) B5 Try.underlying32 ?_ ?_ ?_); rfl; rfl; rfl; rfl; kernel_rfl)
    | fail)
  have O := HO.out
  have x2 := HX.out
  clear HO HX B3 B4 B5
  generalize w1.alloc (.cells #[.int .i64 v0, .int .i64 v1, .int .i64 v2, .int .i64 v3, .int .i64 v4, .int .i64 v5, .int .i64 v6, .int .i64 v7, .int .i64 n0, .int .i64 n1, .int .i64 n2, .int .i64 n3, .int .i64 n4, .int .i64 n5, .int .i64 n6, .int .i64 n7, .int .i64 t0, .int .i64 t1, .int .i64 t2, .int .i64 t3, .int .i64 t4, .int .i64 t5, .int .i64 t6, .int .i64 t7] 32) = w2 at *
  generalize w1.heap.size = b1 at *
  go_loopg [7, 13] 7 (fun n0 v7 kv wx => ∃ (k : Nat), k + n0 = 7 ∧ kv = .int .i64 k ∧ PArrG LC wx v7 (gplanes l k) ∧ Ext w wx)
  case atStart => exact ⟨0, by omega, by simp, O.parr, x2⟩
  case round =>
    generalize wr = wo at *
    obtain ⟨k, hk, rfl, P, E⟩ := hrel
    have hL := gplanes_len7 (l := l) (by rw [HN.out]; omega) (n := k) (by omega)
    have hF := gplanes_in64 HF.out k
    by_cases hk7 : k < 7
    · have hkI : (k : Int) < 7 := by omega
      have hC := fun u (P' : PArrG LC u u7 (gplanes l k)) => cut_any u u7 _ P' (by omega) hF k
      have HC := Lib.hid hC
      have HP := Lib.hid P
      clear hC P hF
      go_wp2_with fail
      refine (HC.out _ HP.out).mono ?_
      rintro e w3 ⟨r, rfl, o3, x3⟩
      have HO3 := Lib.hid o3
      clear o3 HP HC
      go_wp2
      go_roundg (7 - (k + 1))
      case measure => omega
      case rel => exact ⟨k + 1, by omega, by simp, HO3.out.parr, E.trans x3⟩
    · obtain rfl : k = 7 := by omega
      have hC := fun u (P' : PArrG LC u u7 (gplanes l 7)) => polygon_any u u7 _ P' (by omega) hF
      have HC := Lib.hid hC
      have HP := Lib.hid P
      clear hC P hF
      go_wp2_with fail
      refine (HC.out _ HP.out).mono ?_
      rintro e w3 ⟨r, rfl, o3, x3⟩
      have HO3 := Lib.hid o3
      clear o3 HP HC
      go_wp2
      go_ret
      exact ⟨_, rfl, HO3.out.mono E.size, E.trans x3⟩
theorem clip_any (x y z : V8) (hx : x.in64) (hy : y.in64) (hz : z.in64) (w : World) : Calls Try.prog 12 #[.agg x.l.toArray, .agg y.l.toArray, .agg z.l.toArray] w fun e w' => ∃ r, e = .returned r ∧ OwnG LC w' w.heap.size r (gend (gplanes [x, y, z] 7)) ∧ Ext w w' :=
  clip_main x.p0 x.p1 x.p2 x.p3 x.c0 x.c1 x.c2 x.c3 y.p0 y.p1 y.p2 y.p3 y.c0 y.c1 y.c2 y.c3 z.p0 z.p1 z.p2 z.p3 z.c0 z.c1 z.c2 z.c3 [x, y, z] rfl (by
    intro q hq
    simp only [List.mem_cons, List.not_mem_nil, or_false] at hq
    rcases hq with rfl | rfl | rfl <;> assumption) w
end Go.Proofs.Ytjohcngmoemmbaa
