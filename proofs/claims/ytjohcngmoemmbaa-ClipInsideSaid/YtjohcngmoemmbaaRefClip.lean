/-
  DERIVED. ref12's Clip (made by mkrefclip.py).
-/
import Derived.Test.YtjohcngmoemmbaaRefClip3
import Derived.Deep.LoopGhost
namespace Go.Proofs.Ytjohcngmoemmbaa
open Go.RowKit
set_option linter.unusedVariables false
def capV (v : V8) : V8 := ⟨v.p0, v.p1, v.p2, max v.p3 256, v.c0, v.c1, v.c2, v.c3⟩
def endF (l : List V8) : List V8 := if l.length < 3 ∨ 16 < l.length then [] else l.map capV
def capsF (l : List V8) (j : Nat) : List V8 := (l.take j).map capV ++ l.drop j
theorem capsF_len (l : List V8) (j : Nat) : (capsF l j).length = l.length := by
  simp [capsF]
  omega
theorem capsF_all (l : List V8) : capsF l l.length = l.map capV := by simp [capsF]
theorem capsF_at (l : List V8) (j : Nat) (hj : j < l.length) : (capsF l j)[j]? = l[j]? := by
  unfold capsF
  rw [List.getElem?_append_right (by simp; omega)]
  simp
  congr 1
  omega
theorem capsF_succ (l : List V8) (j : Nat) (hj : j < l.length) : capsF l (j + 1) = (capsF l j).set j (capV (l[j]?.getD z8)) := by
  have e1 : l.take (j + 1) = l.take j ++ [l[j]] := by rw [List.take_add_one]; simp [hj]
  have e2 : l.drop j = l[j] :: l.drop (j + 1) := List.drop_eq_getElem_cons hj
  have e3 : l[j]?.getD z8 = l[j] := by simp [hj]
  unfold capsF
  rw [e1, e2, e3, List.set_append_right _ _ (by simp; omega)]
  have : j - (List.map capV (List.take j l)).length = 0 := by simp; omega
  rw [this, List.set_cons_zero, List.map_append, List.append_assoc]
  rfl
theorem set_same {α : Type} {l : List α} {j : Nat} {x : α} (h : l[j]? = some x) : l.set j x = l := by
  apply List.ext_getElem?
  intro i
  rw [List.getElem?_set]
  split
  · rename_i e; subst e
    split
    · exact h.symm
    · rename_i g; rw [List.getElem?_eq_none (by omega)]
  · rfl
theorem flat_set {α : Type} (L : Lay α) {x x' : α} : ∀ {l : List α} {j : Nat}, l[j]? = some x → ∀ (i : Nat) (u : Value), L.cells x' = (L.cells x).set i u → i < L.n → L.flat (l.set j x') = (L.flat l).set (j * L.n + i) u := by
  intro l
  induction l with
  | nil => intro j h; simp at h
  | cons a r ih =>
    intro j h i u hc hi
    have hla := L.len a
    cases j with
    | zero =>
      simp at h
      subst h
      show L.cells x' ++ L.flat r = (L.cells a ++ L.flat r).set (0 * L.n + i) u
      rw [Nat.zero_mul, Nat.zero_add, hc, List.set_append_left _ _ (by omega)]
    | succ j =>
      simp at h
      have := ih h i u hc hi
      show L.cells a ++ L.flat (r.set j x') = (L.cells a ++ L.flat r).set ((j + 1) * L.n + i) u
      rw [this, List.set_append_right _ _ (by rw [hla, Nat.succ_mul]; omega)]
      congr 2
      rw [hla, Nat.succ_mul]
      omega
def V8.fine (v : V8) : Prop := v.inP ∧ v.inC (-4194304) 4194304
theorem planesF_fine {l : List V8} (h : ∀ x ∈ l, V8.fine x) (n : Nat) : ∀ x ∈ planesF l n, V8.fine x := planesF_all h (fun k a b ha hb h0 h1 => ⟨cutF_in ha.1 hb.1 h0 h1, cutF_inC ha.2 hb.2 h0 h1⟩) n
theorem planesF_len7 {l : List V8} (h : l.length ≤ 3) {n : Nat} (hn : n ≤ 7) : (planesF l n).length ≤ 384 := by
  have h1 := planesF_len l n
  have h2 : 2 ^ n ≤ 2 ^ 7 := Nat.pow_le_pow_right (by decide) hn
  have h3 : l.length * 2 ^ n ≤ 3 * 2 ^ 7 := Nat.mul_le_mul h h2
  omega
set_option maxRecDepth 100000 in
set_option maxHeartbeats 4000000 in
theorem rclip_any (w : World) (ao : Option Addr) (n c : Nat) (l : List V8) (hP : PArrG LR w (.slice ao n c) l) (hl : l.length ≤ 3) (hf : ∀ x ∈ l, V8.fine x) : Calls Try.prog 10 #[.slice ao n c] w fun e w' => ∃ v, e = .returned v ∧ OwnG LR w' w.heap.size v (endF (planesF l 7)) ∧ Ext w w' := by
  go_enter Try.func10, Try.ntmps10
  go_wp2_with fail
  go_loopg [0, 3] 7 (fun n0 v0 kv wx => ∃ (k : Nat) (ao : Option Addr) (n c : Nat), k + n0 = 7 ∧ kv = .int .i64 k ∧ v0 = .slice ao n c ∧ PArrG LR wx (.slice ao n c) (planesF l k) ∧ (k = 0 ∨ OwnG LR wx w.heap.size (.slice ao n c) (planesF l k)) ∧ Ext w wx)
  case atStart => exact ⟨0, ao, n, c, by omega, by simp, rfl, hP, .inl rfl, Ext.refl _⟩
  case round =>
    generalize wr = wo at *
    obtain ⟨k, ao, n, c, hk, rfl, rfl, P, O, E⟩ := hrel
    by_cases hk7 : k < 7
    · have hkI : (k : Int) < 7 := by omega
      have hL := planesF_len7 hl (n := k) (by omega)
      have hF := planesF_fine hf k
      have hS : planesF l (k + 1) = partF k (planesF l k) (planesF l k).length := rfl
      obtain ⟨_, _, e, -, -⟩ := id P.slice
      cases e
      generalize planesF l k = L at *
      go_wp2_with fail
      go_loopg [4, 5] L.length (fun n0 v4 iv wx => ∃ (i : Nat) (a4 : Option Addr) (m4 c4 : Nat), i + n0 = L.length ∧ iv = .int .i64 i ∧ v4 = .slice a4 m4 c4 ∧ OwnG LR wx wo.heap.size (.slice a4 m4 c4) (partF k L i) ∧ Ext wo wx)
      case atStart => exact ⟨0, none, 0, 0, by omega, by simp, rfl, by rw [partF_zero]; exact OwnG.nil _ _ _, Ext.refl _⟩
      case round =>
        generalize wr = wy at *
        obtain ⟨i, a4, m4, c4, hik, rfl, rfl, o4, xo⟩ := hrel
        by_cases hi : i < L.length
        · have hiI : (i : Int) < (L.length : Int) := by omega
          obtain ⟨i2, hi2⟩ : ∃ i2, (i + 1) % L.length = i2 := ⟨_, rfl⟩
          have hi2n : i2 < L.length := by rw [← hi2]; exact Nat.mod_lt _ (by omega)
          obtain ⟨lb, off, x, rfl, -, hx, cx⟩ := P.nth i hi
          obtain ⟨lb2, off2, y, e2, -, hy, cy⟩ := P.nth i2 hi2n
          cases e2
          have hxf := hF x (List.mem_of_getElem? hx)
          have hyf := hF y (List.mem_of_getElem? hy)
          have hstep := partF_succ k L i
          rw [List.getD_eq_getElem?_getD, List.getD_eq_getElem?_getD, hx, hi2, hy] at hstep
          simp only [Option.getD_some] at hstep
          have hpl := partF_len k L i
          obtain ⟨pre, hpre⟩ : ∃ pre, partF k L i = pre := ⟨_, rfl⟩
          rw [hpre] at o4 hstep hpl
          obtain ⟨_, _, e, -, -⟩ := id o4.slice
          cases e
          have hlt4 := o4.lt
          have hIn := fun u => rinside_any x k hk7 hxf.1 u
          have hIm := fun u => rinside_any y k hk7 hyf.1 u
          have hC1 := fun h0 h1 u => rcross_any x y k hk7 hxf.1 hyf.1 hxf.2 hyf.2 h0 h1 u
          have hC2 := fun h0 h1 u => rcross_any y x k hk7 hyf.1 hxf.1 hyf.2 hxf.2 h0 h1 u
          unfold emitF at hstep
          obtain ⟨qa, hq1⟩ : ∃ q, cutF x y k = q := ⟨_, rfl⟩
          obtain ⟨qb, hq2⟩ : ∃ q, cutF y x k = q := ⟨_, rfl⟩
          obtain ⟨a, ha⟩ : ∃ a, insF x k = a := ⟨_, rfl⟩
          obtain ⟨b, hb⟩ : ∃ b, insF y k = b := ⟨_, rfl⟩
          rw [ha] at hIn hC1 hC2
          rw [hb] at hIm hC1 hC2
          rw [hq1] at hC1
          rw [hq2] at hC2
          rw [ha, hb, hq1, hq2] at hstep
          clear ha hb hq1 hq2 hpre
          have HI1 := Lib.hid hIn
          have HI2 := Lib.hid hIm
          have HC1 := Lib.hid hC1
          have HC2 := Lib.hid hC2
          have HST := Lib.hid hstep
          have HSS := Lib.hid hS
          have HP := Lib.hid P
          have HO := Lib.hid O
          have HLf := Lib.hid hF
          clear hIn hIm hC1 hC2 hstep hS P O hF hx hy hxf hyf
          go_upto_region 8 with fail
          refine rclip_r8 _ _ _ _ _ _ _ _ _ _ _ _ _ _ _ _ _ _ _ _ _ _ _ _ _ _ _ _ _ _ _ _ _ _ _ _ _ _ _ _ _ _ _ _ _ _ _ _ _ _ _ _ _ _ _ _ _ _ _ _ _ _ _ _ _ _ _ _ _ _ _ _ _ _ _ _ _ _ _ _ _ _ _ _ _ _ _ _ _ _ _ _ _ _ _ lb off L.length c k i i2 x y wy (by omega) hi hi2 (fun j u hj => xo.old (cx j u hj)) (fun j u hj => xo.old (cy j u hj)) ?_
          intro d21 d22 d23 d24 d25 d26 d27 d28 d29 d30 d31 d32 b6 b7 w8 x8 hb6 hb7 B6 B7
          clear cx cy
          obtain ⟨v0, v1, v2, v3, v4, v5, v6, v7⟩ := x
          obtain ⟨u0, u1, u2, u3, u4, u5, u6, u7⟩ := y
          obtain ⟨q0, q1, q2, q3, q4, q5, q6, q7⟩ := qa
          obtain ⟨r0, r1, r2, r3, r4, r5, r6, r7⟩ := qb
          have B6 : Blk w8 b6 #[.int .i64 v0, .int .i64 v1, .int .i64 v2, .int .i64 v3, .int .i64 v4, .int .i64 v5, .int .i64 v6, .int .i64 v7] 38 := B6
          have B7 : Blk w8 b7 #[.int .i64 u0, .int .i64 u1, .int .i64 u2, .int .i64 u3, .int .i64 u4, .int .i64 u5, .int .i64 u6, .int .i64 u7] 38 := B7
          go_upto_region 9 with fail
          apply wp_region_reads2 _ (by kernel_rfl) (by kernel_rfl)
          case H =>
            intro y0 hy0
            have hne : Nonempty (Wx y0) := ⟨⟨y0, Ext.refl y0⟩⟩
            have q3 := fun (t : Wx y0) => (B6.ext (hy0.trans t.ext)).cell
            have q4 := fun (t : Wx y0) => (B7.ext (hy0.trans t.ext)).cell
            repeat (go_big_quiet_step (first | (go_at_call 16; with_reducible exact calm_of (HI1.out _)) | (go_at_call 16; with_reducible exact calm_of (HI2.out _))))
            exact wpQuiet_nil rfl
          intro w9 x9
          have B6 := B6.ext x9
          have B7 := B7.ext x9
          have x89 := x8.trans x9
          have o9 := o4.ext x89
          have E9 := xo.trans x89
          have hz9 := x89.size
          have hz0 := E9.size
          clear x8 x9 o4 HI1 HI2
          have HE := Lib.hid E
          clear E
          by_cases s1 : 0 ≤ a
          · by_cases s2 : 0 ≤ b
            · have hst := HST.out
              rw [if_pos s1, if_neg (by omega), if_neg (by omega)] at hst
              have E10_0 := E9
              have y10 : Ext w9 (w9.alloc (.cells #[.int .i64 v0, .int .i64 v1, .int .i64 v2, .int .i64 v3, .int .i64 v4, .int .i64 v5, .int .i64 v6, .int .i64 v7] 38)) := (Ext.refl _).alloc _ _
              have q10 := o9.ext y10
              have hcn10 : ∀ i u, (LR.cells ⟨v0, v1, v2, v3, v4, v5, v6, v7⟩)[i]? = some u → (w9.alloc (.cells #[.int .i64 v0, .int .i64 v1, .int .i64 v2, .int .i64 v3, .int .i64 v4, .int .i64 v5, .int .i64 v6, .int .i64 v7] 38)).cell? ⟨w9.heap.size, i, none⟩ = some u := fun i u hu => by
                rw [(Blk.new w9 _ _).cell]
                have hu' : (#[.int .i64 v0, .int .i64 v1, .int .i64 v2, .int .i64 v3, .int .i64 v4, .int .i64 v5, .int .i64 v6, .int .i64 v7] : Array Value).toList[i]? = some u := hu
                simpa using hu'
              have hz10 := (y10).size
              have hb10 := (E10_0).size
              go_wp2_with (first
                | ((with_reducible refine wpList_load_blk (op := ⟨some 43, _, _, _, _, _⟩) ?_ 38 (.tmp 6) ?_ b6 ?_ (z := _) (T := 38) B6 Try.underlying38 ?_ ?_ ?_); rfl; rfl; rfl; rfl; kernel_rfl)
                | (at_builtin; refine wpList_append_g1 LR rfl _ _ rfl wo.heap.size _ pre rfl q10 w9.heap.size 1 ⟨v0, v1, v2, v3, v4, v5, v6, v7⟩ rfl hcn10 (by first | omega | (simp; omega)) (by omega) ?_)
                | fail)
              intro v10 w10 o10 A10 hk10
              obtain ⟨ao10, c10, rfl, -, -⟩ := o10.slice
              have E10 := Ext.calm_trans (E10_0.trans y10) A10 (fun b hb => (o9.lt b (Option.mem_toList.1 hb)).1)
              simp only [List.length_append, List.length_cons, List.length_nil, Nat.zero_add] at o10 hk10 ⊢
              go_wp2
              go_roundg (gk - 1)
              case measure => omega
              case rel => exact ⟨i + 1, ao10, (pre.length + 1), c10, by omega, by simp, rfl, by rw [hst]; simpa using o10, E10⟩
            · have hst := HST.out
              rw [if_pos s1, if_pos (by omega), if_neg (by omega)] at hst
              have E10_0 := E9
              have y10 : Ext w9 (w9.alloc (.cells #[.int .i64 v0, .int .i64 v1, .int .i64 v2, .int .i64 v3, .int .i64 v4, .int .i64 v5, .int .i64 v6, .int .i64 v7] 38)) := (Ext.refl _).alloc _ _
              have q10 := o9.ext y10
              have hcn10 : ∀ i u, (LR.cells ⟨v0, v1, v2, v3, v4, v5, v6, v7⟩)[i]? = some u → (w9.alloc (.cells #[.int .i64 v0, .int .i64 v1, .int .i64 v2, .int .i64 v3, .int .i64 v4, .int .i64 v5, .int .i64 v6, .int .i64 v7] 38)).cell? ⟨w9.heap.size, i, none⟩ = some u := fun i u hu => by
                rw [(Blk.new w9 _ _).cell]
                have hu' : (#[.int .i64 v0, .int .i64 v1, .int .i64 v2, .int .i64 v3, .int .i64 v4, .int .i64 v5, .int .i64 v6, .int .i64 v7] : Array Value).toList[i]? = some u := hu
                simpa using hu'
              have hz10 := (y10).size
              have hb10 := (E10_0).size
              go_wp2_with (first
                | ((with_reducible refine wpList_load_blk (op := ⟨some 43, _, _, _, _, _⟩) ?_ 38 (.tmp 6) ?_ b6 ?_ (z := _) (T := 38) B6 Try.underlying38 ?_ ?_ ?_); rfl; rfl; rfl; rfl; kernel_rfl)
                | (at_builtin; refine wpList_append_g1 LR rfl _ _ rfl wo.heap.size _ pre rfl q10 w9.heap.size 1 ⟨v0, v1, v2, v3, v4, v5, v6, v7⟩ rfl hcn10 (by first | omega | (simp; omega)) (by omega) ?_)
                | fail)
              intro v10 w10 o10 A10 hk10
              obtain ⟨ao10, c10, rfl, -, -⟩ := o10.slice
              have E10 := Ext.calm_trans (E10_0.trans y10) A10 (fun b hb => (o9.lt b (Option.mem_toList.1 hb)).1)
              simp only [List.length_append, List.length_cons, List.length_nil, Nat.zero_add] at o10 hk10 ⊢
              have nb6 : b6 ∉ (Value.slice a4 pre.length c4).ownBlock.toList := fun hin => by have := (hlt4 _ (Option.mem_toList.1 hin)).2; omega
              have nb7 : b7 ∉ (Value.slice a4 pre.length c4).ownBlock.toList := fun hin => by have := (hlt4 _ (Option.mem_toList.1 hin)).2; omega
              have B6 := (B6.ext y10).calm A10 nb6
              have B7 := (B7.ext y10).calm A10 nb7
              go_wp2_with (first
                | ((with_reducible refine wpList_load_blk (op := ⟨some 52, _, _, _, _, _⟩) ?_ 38 (.tmp 6) ?_ b6 ?_ (z := _) (T := 38) B6 Try.underlying38 ?_ ?_ ?_); rfl; rfl; rfl; rfl; kernel_rfl)
                | ((with_reducible refine wpList_load_blk (op := ⟨some 53, _, _, _, _, _⟩) ?_ 38 (.tmp 7) ?_ b7 ?_ (z := _) (T := 38) B7 Try.underlying38 ?_ ?_ ?_); rfl; rfl; rfl; rfl; kernel_rfl)
                | fail)
              refine (HC1.out s1 (by omega) _).mono ?_
              rintro e w11 ⟨rfl, x11⟩
              have o11 := o10.ext x11
              have E12_0 := E10.trans x11
              have y12 : Ext w11 (w11.alloc (.cells #[.int .i64 q0, .int .i64 q1, .int .i64 q2, .int .i64 q3, .int .i64 q4, .int .i64 q5, .int .i64 q6, .int .i64 q7] 38)) := (Ext.refl _).alloc _ _
              have q12 := o11.ext y12
              have hcn12 : ∀ i u, (LR.cells ⟨q0, q1, q2, q3, q4, q5, q6, q7⟩)[i]? = some u → (w11.alloc (.cells #[.int .i64 q0, .int .i64 q1, .int .i64 q2, .int .i64 q3, .int .i64 q4, .int .i64 q5, .int .i64 q6, .int .i64 q7] 38)).cell? ⟨w11.heap.size, i, none⟩ = some u := fun i u hu => by
                rw [(Blk.new w11 _ _).cell]
                have hu' : (#[.int .i64 q0, .int .i64 q1, .int .i64 q2, .int .i64 q3, .int .i64 q4, .int .i64 q5, .int .i64 q6, .int .i64 q7] : Array Value).toList[i]? = some u := hu
                simpa using hu'
              have hz12 := (y12).size
              have hb12 := (E12_0).size
              go_wp2_with (first
                | fail
                | (at_builtin; refine wpList_append_g1 LR rfl _ _ rfl wo.heap.size _ (pre ++ [(⟨v0, v1, v2, v3, v4, v5, v6, v7⟩ : V8)]) rfl q12 w11.heap.size 1 ⟨q0, q1, q2, q3, q4, q5, q6, q7⟩ rfl hcn12 (by first | omega | (simp; omega)) (by omega) ?_)
                | fail)
              intro v12 w12 o12 A12 hk12
              obtain ⟨ao12, c12, rfl, -, -⟩ := o12.slice
              have E12 := Ext.calm_trans (E12_0.trans y12) A12 (fun b hb => (o11.lt b (Option.mem_toList.1 hb)).1)
              simp only [List.length_append, List.length_cons, List.length_nil, Nat.zero_add] at o12 hk12 ⊢
              go_wp2
              go_roundg (gk - 1)
              case measure => omega
              case rel => exact ⟨i + 1, ao12, (pre.length + 1 + 1), c12, by omega, by simp, rfl, by rw [hst]; simpa using o12, E12⟩
          · by_cases s2 : 0 ≤ b
            · have hst := HST.out
              rw [if_neg s1, if_neg (by omega), if_pos (by omega)] at hst
              go_wp2_with (first
                | ((with_reducible refine wpList_load_blk (op := ⟨some 64, _, _, _, _, _⟩) ?_ 38 (.tmp 7) ?_ b7 ?_ (z := _) (T := 38) B7 Try.underlying38 ?_ ?_ ?_); rfl; rfl; rfl; rfl; kernel_rfl)
                | ((with_reducible refine wpList_load_blk (op := ⟨some 65, _, _, _, _, _⟩) ?_ 38 (.tmp 6) ?_ b6 ?_ (z := _) (T := 38) B6 Try.underlying38 ?_ ?_ ?_); rfl; rfl; rfl; rfl; kernel_rfl)
                | fail)
              refine (HC2.out s2 (by omega) _).mono ?_
              rintro e w11 ⟨rfl, x11⟩
              have o11 := o9.ext x11
              have E12_0 := E9.trans x11
              have y12 : Ext w11 (w11.alloc (.cells #[.int .i64 r0, .int .i64 r1, .int .i64 r2, .int .i64 r3, .int .i64 r4, .int .i64 r5, .int .i64 r6, .int .i64 r7] 38)) := (Ext.refl _).alloc _ _
              have q12 := o11.ext y12
              have hcn12 : ∀ i u, (LR.cells ⟨r0, r1, r2, r3, r4, r5, r6, r7⟩)[i]? = some u → (w11.alloc (.cells #[.int .i64 r0, .int .i64 r1, .int .i64 r2, .int .i64 r3, .int .i64 r4, .int .i64 r5, .int .i64 r6, .int .i64 r7] 38)).cell? ⟨w11.heap.size, i, none⟩ = some u := fun i u hu => by
                rw [(Blk.new w11 _ _).cell]
                have hu' : (#[.int .i64 r0, .int .i64 r1, .int .i64 r2, .int .i64 r3, .int .i64 r4, .int .i64 r5, .int .i64 r6, .int .i64 r7] : Array Value).toList[i]? = some u := hu
                simpa using hu'
              have hz12 := (y12).size
              have hb12 := (E12_0).size
              go_wp2_with (first
                | fail
                | (at_builtin; refine wpList_append_g1 LR rfl _ _ rfl wo.heap.size _ pre rfl q12 w11.heap.size 1 ⟨r0, r1, r2, r3, r4, r5, r6, r7⟩ rfl hcn12 (by first | omega | (simp; omega)) (by omega) ?_)
                | fail)
              intro v12 w12 o12 A12 hk12
              obtain ⟨ao12, c12, rfl, -, -⟩ := o12.slice
              have E12 := Ext.calm_trans (E12_0.trans y12) A12 (fun b hb => (o11.lt b (Option.mem_toList.1 hb)).1)
              simp only [List.length_append, List.length_cons, List.length_nil, Nat.zero_add] at o12 hk12 ⊢
              go_wp2
              go_roundg (gk - 1)
              case measure => omega
              case rel => exact ⟨i + 1, ao12, (pre.length + 1), c12, by omega, by simp, rfl, by rw [hst]; simpa using o12, E12⟩
            · have hst := HST.out
              rw [if_neg s1, if_neg (by omega), if_neg (by omega)] at hst
              go_wp2
              go_roundg (gk - 1)
              case measure => omega
              case rel => exact ⟨i + 1, a4, pre.length, c4, by omega, by simp, rfl, by rw [hst]; simpa using o9, E9⟩
        · obtain rfl : i = L.length := by omega
          obtain ⟨_, _, e, -, -⟩ := id o4.slice
          cases e
          have HSS := Lib.hid hS
          have HO4 := Lib.hid o4
          have HP := Lib.hid P
          have HO := Lib.hid O
          clear hS o4 P O hF
          go_wp2
          go_roundg (7 - (k + 1))
          case measure => omega
          case rel => exact ⟨k + 1, a4, _, c4, by omega, by simp, rfl, by rw [HSS.out]; exact HO4.out.parr, .inr (by rw [HSS.out]; exact HO4.out.mono E.size), E.trans xo⟩
    · obtain rfl : k = 7 := by omega
      have hO : OwnG LR wo w.heap.size (.slice ao n c) (planesF l 7) := O.resolve_left (by omega)
      have hL := planesF_len7 hl (n := 7) (by omega)
      obtain ⟨L, hLe⟩ : ∃ L, planesF l 7 = L := ⟨_, rfl⟩
      rw [hLe] at hO hL
      obtain ⟨_, _, e, -, -⟩ := id hO.slice
      cases e
      have HLE := Lib.hid hLe
      clear hLe P O
      by_cases h3 : L.length < 3
      · have hI : (L.length : Int) < 3 := by omega
        go_wp2
        go_ret
        exact ⟨_, rfl, by rw [HLE.out]; unfold endF; rw [if_pos (.inl h3)]; exact OwnG.nil _ _ _, E⟩
      · have hI : ¬ (L.length : Int) < 3 := by omega
        by_cases h16 : 16 < L.length
        · have hI2 : (16 : Int) < (L.length : Int) := by omega
          go_wp2
          go_ret
          exact ⟨_, rfl, by rw [HLE.out]; unfold endF; rw [if_pos (.inr h16)]; exact OwnG.nil _ _ _, E⟩
        · have hI2 : ¬ (16 : Int) < (L.length : Int) := by omega
          have HO := Lib.hid hO
          clear hO
          go_wp2_with fail
          go_loopg [10] L.length (fun n0 iv wx => ∃ j : Nat, j + n0 = L.length ∧ iv = .int .i64 j ∧ OwnG LR wx w.heap.size (.slice ao L.length c) (capsF L j) ∧ Ext w wx)
          case atStart => exact ⟨0, by omega, by simp, by simpa [capsF] using HO.out, E⟩
          case round =>
            generalize wr = wz at *
            obtain ⟨j, hjk, rfl, o, Ez⟩ := hrel
            by_cases hj : j < L.length
            · have hjI : (j : Int) < (L.length : Int) := by omega
              have hcl := capsF_len L j
              obtain ⟨g, x, e0, hn0, hx, cx⟩ := o.nth j (by omega)
              cases e0
              have hxL := capsF_at L j hj
              rw [hx] at hxL
              have hs := capsF_succ L j hj
              rw [← hxL] at hs
              simp only [Option.getD_some] at hs
              have c3 : wz.cell? ⟨g, j * 8 + 3, none⟩ = some (.int .i64 x.p3) := cx 3 _ rfl
              have f3 : wz.frozen? ⟨g, j * 8 + 3, none⟩ = false := o.thaw hn0 _
              have HS := Lib.hid hs
              have HX := Lib.hid hx
              have HN := Lib.hid hn0
              have HOO := Lib.hid o
              have hgb := (o.lt g rfl).1
              clear hs hx hn0 cx hxL hcl o
              by_cases hp : x.p3 < 256
              · have oS := HOO.out.store HN.out (j * 8 + 3) (.int .i64 256) (l' := (capsF L j).set j (capV x)) (by simp) (by
                  refine flat_set LR HX.out 3 (.int .i64 256) ?_ (by show 3 < 8; omega)
                  have : max x.p3 256 = 256 := by omega
                  simp [LR, capV, this])
                go_wp2
                go_roundg (gk - 1)
                case measure => omega
                case rel => exact ⟨j + 1, by omega, by simp, by rw [HS.out]; exact oS, Ez.setCell hgb _⟩
              · have hcap : capV x = x := by
                  have : max x.p3 256 = x.p3 := by omega
                  simp [capV, this]
                go_wp2
                go_roundg (gk - 1)
                case measure => omega
                case rel => exact ⟨j + 1, by omega, by simp, by rw [HS.out, hcap, set_same HX.out]; exact HOO.out, Ez⟩
            · obtain rfl : j = L.length := by omega
              have HOO := Lib.hid o
              clear o
              go_wp2
              go_ret
              refine ⟨_, rfl, ?_, Ez⟩
              rw [HLE.out]
              unfold endF
              rw [if_neg (by omega)]
              have := HOO.out
              rw [capsF_all] at this
              exact this
end Go.Proofs.Ytjohcngmoemmbaa
