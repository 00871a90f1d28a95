/-
  DERIVED. THE LAW VmJoins: what one program leaves another one behind it goes on with (made by mkvm.py).
-/
import Derived.Test.YtellfhnfifgpoaaPkRun
import Derived.Test.YtellfhnfifgpoaaPkAid
import Derived.Test.YtellfhnfifgpoaaPkProg
import Derived.Test.YtellfhnfifgpoaaPkIsa
namespace Go.Proofs.Ytellfhnfifgpoaa
open Go.RowKit
set_option linter.unusedVariables false
theorem RAt.regs2 {w : World} {b : Nat} {s : St} (h : RAt w b s) : w.rangeAt b 0 (s.rs.map (Value.int .i64)) := fun j v hv => by
  have hj := (List.getElem?_eq_some_iff.1 hv).1
  rw [Nat.zero_add, h.1.cell j]
  simp only [List.getElem?_toArray, resL]
  rw [List.getElem?_append_left hj]
  exact hv
theorem runV_steps {p : List In} (hok : ∀ x ∈ p, x.ok) (hc : chk true p = 0) (rs : List Int) : 0 ≤ (runV p rs).steps ∧ (runV p rs).steps ≤ 200 := by
  obtain ⟨_, ha, hf⟩ := chk_zero hc
  have h1 := run_fuel_bound hok ha (p.length - 0) (st0 rs)
  have h2 := run_up p 0 p.length (st0 rs)
  rw [runV_ok hc]
  have h0 : (st0 rs).steps = 0 := rfl
  unfold run at *
  omega
set_option maxRecDepth 100000 in
set_option maxHeartbeats 1000000 in
theorem vmJoins_main {w : World} (u1 u2 : Value) (sl1 sl2 : List Sm) (v1 : Value) (ins : List Int) (h1 : SArr w u1 sl1) (h2 : SArr w u2 sl2) (h3 : Arr w .i32 v1 ins) (l1 : sl1.length ≤ 10) (l2 : sl2.length ≤ 10) (l3 : ins.length ≤ 100) :
    Calls Try.prog 6 #[u1, u2, v1] w fun e w' => e = .returned (.bool true) ∧ Ext w w' := by
  have hS1 := Lib.hid h1
  have hS2 := Lib.hid h2
  have hA := Lib.hid h3
  obtain ⟨⟨a1, c1, rfl, -⟩, -, -⟩ := h1
  obtain ⟨⟨a2, c2, rfl, -⟩, -, -⟩ := h2
  have HBD := Lib.hid (regsOf_bd (raw := ⟨0, 0, 0, 0⟩) (arr_wide h3) (by simp) (by simp) (by simp) (by simp))
  obtain ⟨⟨a3, c3, rfl, -, -, -⟩, -, -⟩ := h3
  have i1 : (sl1.length : Int) ≤ 10 := by omega
  have i2 : (sl2.length : Int) ≤ 10 := by omega
  have i3 : (ins.length : Int) ≤ 100 := by omega
  go_enter Try.func6, Try.ntmps6
  go_wp2_with fail
  refine (awake8_any _).mono ?_
  rintro e w1 ⟨rfl, x1⟩
  have HE1 := Lib.hid x1
  clear x1
  go_wp2_with fail
  refine (program_any true _ _ sl1 (hS1.out.ext HE1.out) (by omega)).mono ?_
  rintro e w2 ⟨v2, p, rfl, o2, hokp, hpl, hcp, x2⟩
  have HE2 := Lib.hid (HE1.out.trans x2)
  have z1 := HE1.out.size
  have hp12 : p.length ≤ 10 := by omega
  clear hpl
  go_wp2_with fail
  refine (program_any true _ _ sl2 (hS2.out.ext HE2.out) (by omega)).mono ?_
  rintro e w3 ⟨v3, q, rfl, o3, hokq, hql, hcq, x3⟩
  have HE3 := Lib.hid (HE2.out.trans x3)
  have z2 := HE2.out.size
  have hq12 : q.length ≤ 10 := by omega
  have op3 := (o2.ext x3).mono z1
  have oq3 := o3.mono z2
  have hc := chk_all (d := true) (xs := p ++ q) (by rw [List.length_append]; omega) (allAt_append (chk_zero hcp).2.1 (chk_zero hcq).2.1)
  have hokA : ∀ x ∈ p ++ q, x.ok := fun x hx => by
    rcases List.mem_append.1 hx with h | h
    · exact hokp x h
    · exact hokq x h
  have HC := Lib.hid hc
  have HOKP := Lib.hid hokp
  have HOKQ := Lib.hid hokq
  have HOKA := Lib.hid hokA
  have HCP := Lib.hid hcp
  have HCQ := Lib.hid hcq
  have hlA : (p ++ q).length ≤ 24 := by rw [List.length_append]; omega
  have HLA := Lib.hid hlA
  have HP3 := Lib.hid op3
  have HQ3 := Lib.hid oq3
  clear hql hcp hcq hc hokp hokq hokA hlA o2 o3 x2 x3 HE1 HE2 hS1 hS2
  obtain ⟨aop, cp, rfl, -, -⟩ := op3.slice
  obtain ⟨aoq, cq, rfl, -, -⟩ := oq3.slice
  clear op3 oq3
  go_wp2_with fail
  go_loopg [37] p.length (fun m iv wr => ∃ i : Nat, i + m = p.length ∧ iv = .int .i64 (i : Int) ∧ (∀ x ∈ p.take i, x.op ≠ 0 ∧ x.op ≠ 13) ∧ Ext w3 wr)
  case atStart => exact ⟨0, by omega, rfl, fun x hx => by simp at hx, Ext.refl _⟩
  case round =>
    obtain ⟨i, him, rfl, hq0, e4⟩ := hrel
    have HQ0 := Lib.hid hq0
    have HE4 := Lib.hid e4
    clear hq0 e4
    by_cases hi : i < p.length
    · have hiI : (i : Int) < (p.length : Int) := by omega
      obtain ⟨g, x, rfl, -, hx, d0, d1, d2, d3, d4⟩ := (HP3.out.ext HE4.out).nth i hi
      have HX := Lib.hid hx
      have HE5 := Lib.hid (HE4.out.alloc #[.int .u8 x.op, .int .u8 x.dst, .int .u8 x.a, .int .u8 x.b, .int .i16 x.imm] 70)
      have N5 := Blk.new wr #[.int .u8 x.op, .int .u8 x.dst, .int .u8 x.a, .int .u8 x.b, .int .i16 x.imm] 70
      have HN5 := Lib.hid N5
      clear hx N5
      go_upto_region 9 with fail
      generalize wr.alloc (.cells #[.int .u8 x.op, .int .u8 x.dst, .int .u8 x.a, .int .u8 x.b, .int .i16 x.imm] 70) = w5 at *
      have cN := HN5.out.cell
      clear d0 d1 d2 d3 d4
      by_cases z0 : x.op = 0
      · have y0 : (x.op == 0) = true := by simpa using z0
        clear z0
        go_wp2
        go_ret
        exact ⟨rfl, HE3.out.trans HE5.out⟩
      · have y0 : (x.op == 0) = false := by simpa using z0
        by_cases z13 : x.op = 13
        · have y13 : (x.op == 13) = true := by simpa using z13
          clear z0 z13
          go_wp2
          go_ret
          exact ⟨rfl, HE3.out.trans HE5.out⟩
        · have y13 : (x.op == 13) = false := by simpa using z13
          have HZ := Lib.hid (And.intro z0 z13)
          clear z0 z13
          go_wp2
          go_roundg (p.length - (i + 1))
          case measure => omega
          case rel =>
            refine ⟨i + 1, by omega, rfl, fun y hy => ?_, HE5.out⟩
            rw [List.take_add_one, HX.out] at hy
            rcases List.mem_append.1 hy with h | h
            · exact HQ0.out y h
            · simp at h
              rw [h]
              exact HZ.out
    · obtain rfl : i = p.length := by omega
      have HQT := Lib.hid (show Quiet p from fun x hx => HQ0.out x (by rw [List.take_of_length_le (Nat.le_refl _)]; exact hx))
      have op4 := HP3.out.ext HE4.out
      have oq4 := HQ3.out.ext HE4.out
      have HEW := Lib.hid (HE3.out.trans HE4.out)
      have z4 := HEW.out.size
      generalize wr = w4 at *
      have x5 := (Ext.refl w4).alloc #[] 70
      have ol := lit_none w4
      have op5 := op4.ext x5
      clear HQ0 HE4
      go_upto_region 13 with (at_builtin; first
        | (refine wpList_append_own rfl _ _ rfl w4.heap.size _ p rfl o6 w.heap.size _ q rfl oq6 (by omega) (by omega) ?_
           intro v7 w7 o7 K7 hk7
           have x7 := Ext.calm_trans x6 K7 (fun g hg => (o6.lt g (Option.mem_toList.1 hg)).1))
        | (refine wpList_append_own rfl _ _ rfl w4.heap.size _ [] rfl ol w.heap.size _ p rfl op5 (by simp; omega) (by simp) ?_
           intro v6 w6 o6 K6 hk6
           rw [List.nil_append] at o6
           have x6 := Ext.calm_trans x5 K6 (fun g hg => (ol.lt g (Option.mem_toList.1 hg)).1)
           have oq6 := oq4.ext x6
           have z6 := x6.size))
      have HE7 := Lib.hid (HEW.out.trans x7)
      have HP7 := Lib.hid (op4.ext x7)
      have HQ7 := Lib.hid (oq4.ext x7)
      have HB7 := Lib.hid o7
      obtain ⟨ao7, c7, rfl, -, -⟩ := o7.slice
      rw [List.length_append] at HB7 ⊢
      clear x5 ol op5 o6 oq6 x6 K6 K7 hk6 hk7 op4 oq4 x7 o7 HEW HP3 HQ3
      go_wp2_with fail
      refine (fuelP_any w7 _ (p ++ q) HB7.out.parr HOKA.out (by have := HLA.out; omega)).mono ?_
      rintro e w8 ⟨rfl, x8⟩
      have HE8 := Lib.hid (HE7.out.trans x8)
      have HP8 := Lib.hid (HP7.out.ext x8)
      have HQ8 := Lib.hid (HQ7.out.ext x8)
      have HB8 := Lib.hid (HB7.out.ext x8)
      clear x8 HE7 HP7 HQ7 HB7
      by_cases hf : 200 < fuelL (p ++ q)
      · go_wp2
        go_ret
        exact ⟨rfl, HE8.out⟩
      · have HCB := Lib.hid (show chk true (p ++ q) = 0 by rw [HC.out, if_neg hf])
        go_wp2_with fail
        show Calls Try.prog _ #[_, .agg #[.int .i64 (⟨0, 0, 0, 0⟩ : V4).c0, .int .i64 (⟨0, 0, 0, 0⟩ : V4).c1, .int .i64 (⟨0, 0, 0, 0⟩ : V4).c2, .int .i64 (⟨0, 0, 0, 0⟩ : V4).c3]] _ _
        refine (regs8_rl _ _ ins (hA.out.ext HE8.out) l3 ⟨0, 0, 0, 0⟩).mono ?_
        rintro e w9 ⟨rfl, x9⟩
        obtain ⟨rs, hrs⟩ : ∃ rs, regsOf ins ⟨0, 0, 0, 0⟩ = rs := ⟨_, rfl⟩
        have hrl : rs.length = 48 := by rw [← hrs]; exact regsOf_len ins _
        rw [hrs] at HBD ⊢
        have HRL := Lib.hid hrl
        have hsz := RL.size hrl
        have hone := RL.one rs
        have Z9 := Blk.new w9 #[.int .i64 0, .int .i64 0, .int .i64 0, .int .i64 0, .int .i64 0, .int .i64 0, .int .i64 0, .int .i64 0, .int .i64 0, .int .i64 0, .int .i64 0, .int .i64 0, .int .i64 0, .int .i64 0, .int .i64 0, .int .i64 0, .int .i64 0, .int .i64 0, .int .i64 0, .int .i64 0, .int .i64 0, .int .i64 0, .int .i64 0, .int .i64 0, .int .i64 0, .int .i64 0, .int .i64 0, .int .i64 0, .int .i64 0, .int .i64 0, .int .i64 0, .int .i64 0, .int .i64 0, .int .i64 0, .int .i64 0, .int .i64 0, .int .i64 0, .int .i64 0, .int .i64 0, .int .i64 0, .int .i64 0, .int .i64 0, .int .i64 0, .int .i64 0, .int .i64 0, .int .i64 0, .int .i64 0, .int .i64 0] 31
        have HE9 := Lib.hid (HE8.out.trans x9)
        have HP9 := Lib.hid (HP8.out.ext x9)
        have HQ9 := Lib.hid (HQ8.out.ext x9)
        have HB9 := Lib.hid (HB8.out.ext x9)
        clear hrs hrl x9 hA HE8 HP8 HQ8 HB8 hf
        go_upto_region 16 with (first
          | ((with_reducible refine wpList_store_blk (op := ⟨none, .store 31 (.tmp 12) (.tmp 60), _, _, _, _⟩) ?_ 31 (.tmp 12) (.tmp 60) ?_ w9.heap.size ?_ (cs := RL rs) ?_ (T := 31) Z9 ?_ ?_ ?_ ?_); rfl; rfl; rfl; rfl; (rw [hsz]; kernel_rfl); exact hone; (rw [hsz]; rfl))
          | fail)
        have G10 := Z9.setRow (RL rs)
        have E10 := Ext.setRow ((Ext.refl w9).alloc #[.int .i64 0, .int .i64 0, .int .i64 0, .int .i64 0, .int .i64 0, .int .i64 0, .int .i64 0, .int .i64 0, .int .i64 0, .int .i64 0, .int .i64 0, .int .i64 0, .int .i64 0, .int .i64 0, .int .i64 0, .int .i64 0, .int .i64 0, .int .i64 0, .int .i64 0, .int .i64 0, .int .i64 0, .int .i64 0, .int .i64 0, .int .i64 0, .int .i64 0, .int .i64 0, .int .i64 0, .int .i64 0, .int .i64 0, .int .i64 0, .int .i64 0, .int .i64 0, .int .i64 0, .int .i64 0, .int .i64 0, .int .i64 0, .int .i64 0, .int .i64 0, .int .i64 0, .int .i64 0, .int .i64 0, .int .i64 0, .int .i64 0, .int .i64 0, .int .i64 0, .int .i64 0, .int .i64 0, .int .i64 0] 31) (Nat.le_refl _) (RL rs)
        clear Z9
        generalize (w9.alloc (.cells #[.int .i64 0, .int .i64 0, .int .i64 0, .int .i64 0, .int .i64 0, .int .i64 0, .int .i64 0, .int .i64 0, .int .i64 0, .int .i64 0, .int .i64 0, .int .i64 0, .int .i64 0, .int .i64 0, .int .i64 0, .int .i64 0, .int .i64 0, .int .i64 0, .int .i64 0, .int .i64 0, .int .i64 0, .int .i64 0, .int .i64 0, .int .i64 0, .int .i64 0, .int .i64 0, .int .i64 0, .int .i64 0, .int .i64 0, .int .i64 0, .int .i64 0, .int .i64 0, .int .i64 0, .int .i64 0, .int .i64 0, .int .i64 0, .int .i64 0, .int .i64 0, .int .i64 0, .int .i64 0, .int .i64 0, .int .i64 0, .int .i64 0, .int .i64 0, .int .i64 0, .int .i64 0, .int .i64 0, .int .i64 0] 31)).setRow w9.heap.size (RL rs) = w10 at *
        have HG10 := Lib.hid G10
        have HE10 := Lib.hid (HE9.out.trans E10)
        have HP10 := Lib.hid (HP9.out.ext E10)
        have HQ10 := Lib.hid (HQ9.out.ext E10)
        have HB10 := Lib.hid (HB9.out.ext E10)
        generalize w9.heap.size = n at *
        clear E10 HE9 HP9 HQ9 HB9
        go_wp2_with (first
          | ((with_reducible refine wpList_load_blk (op := ⟨some 62, _, _, _, _, _⟩) ?_ 31 (.tmp 12) ?_ n ?_ (z := RL rs) (T := 31) G10 Try.underlying31 ?_ ?_ ?_); rfl; rfl; rfl; rfl; (rw [hsz]; kernel_rfl))
          | fail)
        refine (vrun_any w10 _ p HP10.out.parr HOKP.out (by omega) rs HRL.out HBD.out).mono ?_
        rintro e w11 ⟨rfl, x1⟩
        have HRB1 := Lib.hid (runV_rb HOKP.out HRL.out)
        have HST1 := Lib.hid (runV_steps HOKP.out HCP.out rs)
        have HJ := Lib.hid (join_runs HOKP.out HOKQ.out HCP.out HCQ.out HCB.out HQT.out HRL.out)
        obtain ⟨s1, hs1⟩ : ∃ s1, runV p rs = s1 := ⟨_, rfl⟩
        rw [hs1] at HRB1 HST1 HJ ⊢
        clear hs1
        have hry1 : (resL s1).toArray.size = 50 := by simp [resL, HRB1.out.1]
        have hro1 := resL_one s1
        have Z1 := Blk.new w11 #[.int .i64 0, .int .i64 0, .int .i64 0, .int .i64 0, .int .i64 0, .int .i64 0, .int .i64 0, .int .i64 0, .int .i64 0, .int .i64 0, .int .i64 0, .int .i64 0, .int .i64 0, .int .i64 0, .int .i64 0, .int .i64 0, .int .i64 0, .int .i64 0, .int .i64 0, .int .i64 0, .int .i64 0, .int .i64 0, .int .i64 0, .int .i64 0, .int .i64 0, .int .i64 0, .int .i64 0, .int .i64 0, .int .i64 0, .int .i64 0, .int .i64 0, .int .i64 0, .int .i64 0, .int .i64 0, .int .i64 0, .int .i64 0, .int .i64 0, .int .i64 0, .int .i64 0, .int .i64 0, .int .i64 0, .int .i64 0, .int .i64 0, .int .i64 0, .int .i64 0, .int .i64 0, .int .i64 0, .int .i64 0, .bool false, .int .i64 0] 42
        go_upto_region 17 with (first
          | ((with_reducible refine wpList_store_blk (op := ⟨none, .store 42 (.tmp 13) (.tmp 63), _, _, _, _⟩) ?_ 42 (.tmp 13) (.tmp 63) ?_ w11.heap.size ?_ (cs := (resL s1).toArray) ?_ (T := 42) Z1 ?_ ?_ ?_ ?_); rfl; rfl; rfl; rfl; (rw [hry1]; kernel_rfl); exact hro1; (rw [hry1]; rfl))
          | fail)
        have R1 : RAt _ w11.heap.size s1 := ⟨Z1.setRow _, HRB1.out.1⟩
        have E1 := Ext.trans x1 (Ext.setRow ((Ext.refl w11).alloc #[.int .i64 0, .int .i64 0, .int .i64 0, .int .i64 0, .int .i64 0, .int .i64 0, .int .i64 0, .int .i64 0, .int .i64 0, .int .i64 0, .int .i64 0, .int .i64 0, .int .i64 0, .int .i64 0, .int .i64 0, .int .i64 0, .int .i64 0, .int .i64 0, .int .i64 0, .int .i64 0, .int .i64 0, .int .i64 0, .int .i64 0, .int .i64 0, .int .i64 0, .int .i64 0, .int .i64 0, .int .i64 0, .int .i64 0, .int .i64 0, .int .i64 0, .int .i64 0, .int .i64 0, .int .i64 0, .int .i64 0, .int .i64 0, .int .i64 0, .int .i64 0, .int .i64 0, .int .i64 0, .int .i64 0, .int .i64 0, .int .i64 0, .int .i64 0, .int .i64 0, .int .i64 0, .int .i64 0, .int .i64 0, .bool false, .int .i64 0] 42) (Nat.le_refl _) (resL s1).toArray)
        have F1 := Ext.setRow ((Ext.refl w11).alloc #[.int .i64 0, .int .i64 0, .int .i64 0, .int .i64 0, .int .i64 0, .int .i64 0, .int .i64 0, .int .i64 0, .int .i64 0, .int .i64 0, .int .i64 0, .int .i64 0, .int .i64 0, .int .i64 0, .int .i64 0, .int .i64 0, .int .i64 0, .int .i64 0, .int .i64 0, .int .i64 0, .int .i64 0, .int .i64 0, .int .i64 0, .int .i64 0, .int .i64 0, .int .i64 0, .int .i64 0, .int .i64 0, .int .i64 0, .int .i64 0, .int .i64 0, .int .i64 0, .int .i64 0, .int .i64 0, .int .i64 0, .int .i64 0, .int .i64 0, .int .i64 0, .int .i64 0, .int .i64 0, .int .i64 0, .int .i64 0, .int .i64 0, .int .i64 0, .int .i64 0, .int .i64 0, .int .i64 0, .int .i64 0, .bool false, .int .i64 0] 42) (Nat.le_refl _) (resL s1).toArray
        clear Z1 hry1 hro1 x1
        generalize (w11.alloc (.cells #[.int .i64 0, .int .i64 0, .int .i64 0, .int .i64 0, .int .i64 0, .int .i64 0, .int .i64 0, .int .i64 0, .int .i64 0, .int .i64 0, .int .i64 0, .int .i64 0, .int .i64 0, .int .i64 0, .int .i64 0, .int .i64 0, .int .i64 0, .int .i64 0, .int .i64 0, .int .i64 0, .int .i64 0, .int .i64 0, .int .i64 0, .int .i64 0, .int .i64 0, .int .i64 0, .int .i64 0, .int .i64 0, .int .i64 0, .int .i64 0, .int .i64 0, .int .i64 0, .int .i64 0, .int .i64 0, .int .i64 0, .int .i64 0, .int .i64 0, .int .i64 0, .int .i64 0, .int .i64 0, .int .i64 0, .int .i64 0, .int .i64 0, .int .i64 0, .int .i64 0, .int .i64 0, .int .i64 0, .int .i64 0, .bool false, .int .i64 0] 42)).setRow w11.heap.size (resL s1).toArray = w12 at *
        have HR1 := Lib.hid R1
        have hrr := HR1.out.regs2
        have hrz : (s1.rs.map (Value.int .i64)).length = 48 := by simp [HRB1.out.1]
        have HE12 := Lib.hid (HE10.out.trans E1)
        have HG12 := Lib.hid (HG10.out.ext E1)
        have HQ12 := Lib.hid (HQ10.out.ext E1)
        have HB12 := Lib.hid (HB10.out.ext E1)
        clear R1 E1 F1 G10 HG10 HE10 HP10 HQ10 HB10
        go_wp2_with (first
          | ((with_reducible refine wpList_load_mid (op := ⟨some 66, _, _, _, _, _⟩) ?_ 31 (.tmp 65) ?_ w11.heap.size 0 ?_ (s1.rs.map (Value.int .i64)) _ hrr Try.underlying31 ?_ ?_ ?_); rfl; rfl; rfl; rfl; (rw [hrz]; kernel_rfl))
          | fail)
        show Calls Try.prog _ #[_, .agg (RL s1.rs)] _ _
        refine (vrun_any w12 _ q HQ12.out.parr HOKQ.out (by omega) s1.rs HRB1.out.1 (fun n hn => (HRB1.out.2 n hn).wide)).mono ?_
        rintro e w13 ⟨rfl, x2⟩
        have HRB2 := Lib.hid (runV_rb HOKQ.out HRB1.out.1)
        have HST2 := Lib.hid (runV_steps HOKQ.out HCQ.out s1.rs)
        obtain ⟨s2, hs2⟩ : ∃ s2, runV q s1.rs = s2 := ⟨_, rfl⟩
        rw [hs2] at HRB2 HST2 HJ ⊢
        clear hs2 hrr hrz
        have hry2 : (resL s2).toArray.size = 50 := by simp [resL, HRB2.out.1]
        have hro2 := resL_one s2
        have Z2 := Blk.new w13 #[.int .i64 0, .int .i64 0, .int .i64 0, .int .i64 0, .int .i64 0, .int .i64 0, .int .i64 0, .int .i64 0, .int .i64 0, .int .i64 0, .int .i64 0, .int .i64 0, .int .i64 0, .int .i64 0, .int .i64 0, .int .i64 0, .int .i64 0, .int .i64 0, .int .i64 0, .int .i64 0, .int .i64 0, .int .i64 0, .int .i64 0, .int .i64 0, .int .i64 0, .int .i64 0, .int .i64 0, .int .i64 0, .int .i64 0, .int .i64 0, .int .i64 0, .int .i64 0, .int .i64 0, .int .i64 0, .int .i64 0, .int .i64 0, .int .i64 0, .int .i64 0, .int .i64 0, .int .i64 0, .int .i64 0, .int .i64 0, .int .i64 0, .int .i64 0, .int .i64 0, .int .i64 0, .int .i64 0, .int .i64 0, .bool false, .int .i64 0] 42
        go_upto_region 18 with (first
          | ((with_reducible refine wpList_store_blk (op := ⟨none, .store 42 (.tmp 14) (.tmp 67), _, _, _, _⟩) ?_ 42 (.tmp 14) (.tmp 67) ?_ w13.heap.size ?_ (cs := (resL s2).toArray) ?_ (T := 42) Z2 ?_ ?_ ?_ ?_); rfl; rfl; rfl; rfl; (rw [hry2]; kernel_rfl); exact hro2; (rw [hry2]; rfl))
          | fail)
        have R2 : RAt _ w13.heap.size s2 := ⟨Z2.setRow _, HRB2.out.1⟩
        have E2 := Ext.trans x2 (Ext.setRow ((Ext.refl w13).alloc #[.int .i64 0, .int .i64 0, .int .i64 0, .int .i64 0, .int .i64 0, .int .i64 0, .int .i64 0, .int .i64 0, .int .i64 0, .int .i64 0, .int .i64 0, .int .i64 0, .int .i64 0, .int .i64 0, .int .i64 0, .int .i64 0, .int .i64 0, .int .i64 0, .int .i64 0, .int .i64 0, .int .i64 0, .int .i64 0, .int .i64 0, .int .i64 0, .int .i64 0, .int .i64 0, .int .i64 0, .int .i64 0, .int .i64 0, .int .i64 0, .int .i64 0, .int .i64 0, .int .i64 0, .int .i64 0, .int .i64 0, .int .i64 0, .int .i64 0, .int .i64 0, .int .i64 0, .int .i64 0, .int .i64 0, .int .i64 0, .int .i64 0, .int .i64 0, .int .i64 0, .int .i64 0, .int .i64 0, .int .i64 0, .bool false, .int .i64 0] 42) (Nat.le_refl _) (resL s2).toArray)
        have F2 := Ext.setRow ((Ext.refl w13).alloc #[.int .i64 0, .int .i64 0, .int .i64 0, .int .i64 0, .int .i64 0, .int .i64 0, .int .i64 0, .int .i64 0, .int .i64 0, .int .i64 0, .int .i64 0, .int .i64 0, .int .i64 0, .int .i64 0, .int .i64 0, .int .i64 0, .int .i64 0, .int .i64 0, .int .i64 0, .int .i64 0, .int .i64 0, .int .i64 0, .int .i64 0, .int .i64 0, .int .i64 0, .int .i64 0, .int .i64 0, .int .i64 0, .int .i64 0, .int .i64 0, .int .i64 0, .int .i64 0, .int .i64 0, .int .i64 0, .int .i64 0, .int .i64 0, .int .i64 0, .int .i64 0, .int .i64 0, .int .i64 0, .int .i64 0, .int .i64 0, .int .i64 0, .int .i64 0, .int .i64 0, .int .i64 0, .int .i64 0, .int .i64 0, .bool false, .int .i64 0] 42) (Nat.le_refl _) (resL s2).toArray
        clear Z2 hry2 hro2 x2
        generalize (w13.alloc (.cells #[.int .i64 0, .int .i64 0, .int .i64 0, .int .i64 0, .int .i64 0, .int .i64 0, .int .i64 0, .int .i64 0, .int .i64 0, .int .i64 0, .int .i64 0, .int .i64 0, .int .i64 0, .int .i64 0, .int .i64 0, .int .i64 0, .int .i64 0, .int .i64 0, .int .i64 0, .int .i64 0, .int .i64 0, .int .i64 0, .int .i64 0, .int .i64 0, .int .i64 0, .int .i64 0, .int .i64 0, .int .i64 0, .int .i64 0, .int .i64 0, .int .i64 0, .int .i64 0, .int .i64 0, .int .i64 0, .int .i64 0, .int .i64 0, .int .i64 0, .int .i64 0, .int .i64 0, .int .i64 0, .int .i64 0, .int .i64 0, .int .i64 0, .int .i64 0, .int .i64 0, .int .i64 0, .int .i64 0, .int .i64 0, .bool false, .int .i64 0] 42)).setRow w13.heap.size (resL s2).toArray = w14 at *
        have HR2 := Lib.hid R2
        have HE14 := Lib.hid (HE12.out.trans E2)
        have G14 := HG12.out.ext E2
        have HR14 := Lib.hid (HR1.out.ext E2)
        have HB14 := Lib.hid (HB12.out.ext E2)
        clear R2 E2 F2 HE12 HG12 HQ12 HB12 HR1
        go_wp2_with (first
          | ((with_reducible refine wpList_load_blk (op := ⟨some 69, _, _, _, _, _⟩) ?_ 31 (.tmp 12) ?_ n ?_ (z := RL rs) (T := 31) G14 Try.underlying31 ?_ ?_ ?_); rfl; rfl; rfl; rfl; (rw [hsz]; kernel_rfl))
          | fail)
        refine (vrun_any w14 _ (p ++ q) HB14.out.parr HOKA.out (by have := HLA.out; omega) rs HRL.out HBD.out).mono ?_
        rintro e w15 ⟨rfl, x3⟩
        rw [HJ.out]
        have HRB3 := Lib.hid (show RB (s2.plus s1.steps).rs from HRB2.out)
        have hry3 : (resL (s2.plus s1.steps)).toArray.size = 50 := by simp [resL, HRB3.out.1]
        have hro3 := resL_one (s2.plus s1.steps)
        have Z3 := Blk.new w15 #[.int .i64 0, .int .i64 0, .int .i64 0, .int .i64 0, .int .i64 0, .int .i64 0, .int .i64 0, .int .i64 0, .int .i64 0, .int .i64 0, .int .i64 0, .int .i64 0, .int .i64 0, .int .i64 0, .int .i64 0, .int .i64 0, .int .i64 0, .int .i64 0, .int .i64 0, .int .i64 0, .int .i64 0, .int .i64 0, .int .i64 0, .int .i64 0, .int .i64 0, .int .i64 0, .int .i64 0, .int .i64 0, .int .i64 0, .int .i64 0, .int .i64 0, .int .i64 0, .int .i64 0, .int .i64 0, .int .i64 0, .int .i64 0, .int .i64 0, .int .i64 0, .int .i64 0, .int .i64 0, .int .i64 0, .int .i64 0, .int .i64 0, .int .i64 0, .int .i64 0, .int .i64 0, .int .i64 0, .int .i64 0, .bool false, .int .i64 0] 42
        go_upto_region 19 with (first
          | ((with_reducible refine wpList_store_blk (op := ⟨none, .store 42 (.tmp 15) (.tmp 70), _, _, _, _⟩) ?_ 42 (.tmp 15) (.tmp 70) ?_ w15.heap.size ?_ (cs := (resL (s2.plus s1.steps)).toArray) ?_ (T := 42) Z3 ?_ ?_ ?_ ?_); rfl; rfl; rfl; rfl; (rw [hry3]; kernel_rfl); exact hro3; (rw [hry3]; rfl))
          | fail)
        have R3 : RAt _ w15.heap.size (s2.plus s1.steps) := ⟨Z3.setRow _, HRB3.out.1⟩
        have E3 := Ext.trans x3 (Ext.setRow ((Ext.refl w15).alloc #[.int .i64 0, .int .i64 0, .int .i64 0, .int .i64 0, .int .i64 0, .int .i64 0, .int .i64 0, .int .i64 0, .int .i64 0, .int .i64 0, .int .i64 0, .int .i64 0, .int .i64 0, .int .i64 0, .int .i64 0, .int .i64 0, .int .i64 0, .int .i64 0, .int .i64 0, .int .i64 0, .int .i64 0, .int .i64 0, .int .i64 0, .int .i64 0, .int .i64 0, .int .i64 0, .int .i64 0, .int .i64 0, .int .i64 0, .int .i64 0, .int .i64 0, .int .i64 0, .int .i64 0, .int .i64 0, .int .i64 0, .int .i64 0, .int .i64 0, .int .i64 0, .int .i64 0, .int .i64 0, .int .i64 0, .int .i64 0, .int .i64 0, .int .i64 0, .int .i64 0, .int .i64 0, .int .i64 0, .int .i64 0, .bool false, .int .i64 0] 42) (Nat.le_refl _) (resL (s2.plus s1.steps)).toArray)
        have F3 := Ext.setRow ((Ext.refl w15).alloc #[.int .i64 0, .int .i64 0, .int .i64 0, .int .i64 0, .int .i64 0, .int .i64 0, .int .i64 0, .int .i64 0, .int .i64 0, .int .i64 0, .int .i64 0, .int .i64 0, .int .i64 0, .int .i64 0, .int .i64 0, .int .i64 0, .int .i64 0, .int .i64 0, .int .i64 0, .int .i64 0, .int .i64 0, .int .i64 0, .int .i64 0, .int .i64 0, .int .i64 0, .int .i64 0, .int .i64 0, .int .i64 0, .int .i64 0, .int .i64 0, .int .i64 0, .int .i64 0, .int .i64 0, .int .i64 0, .int .i64 0, .int .i64 0, .int .i64 0, .int .i64 0, .int .i64 0, .int .i64 0, .int .i64 0, .int .i64 0, .int .i64 0, .int .i64 0, .int .i64 0, .int .i64 0, .int .i64 0, .int .i64 0, .bool false, .int .i64 0] 42) (Nat.le_refl _) (resL (s2.plus s1.steps)).toArray
        clear Z3 hry3 hro3 x3
        generalize (w15.alloc (.cells #[.int .i64 0, .int .i64 0, .int .i64 0, .int .i64 0, .int .i64 0, .int .i64 0, .int .i64 0, .int .i64 0, .int .i64 0, .int .i64 0, .int .i64 0, .int .i64 0, .int .i64 0, .int .i64 0, .int .i64 0, .int .i64 0, .int .i64 0, .int .i64 0, .int .i64 0, .int .i64 0, .int .i64 0, .int .i64 0, .int .i64 0, .int .i64 0, .int .i64 0, .int .i64 0, .int .i64 0, .int .i64 0, .int .i64 0, .int .i64 0, .int .i64 0, .int .i64 0, .int .i64 0, .int .i64 0, .int .i64 0, .int .i64 0, .int .i64 0, .int .i64 0, .int .i64 0, .int .i64 0, .int .i64 0, .int .i64 0, .int .i64 0, .int .i64 0, .int .i64 0, .int .i64 0, .int .i64 0, .int .i64 0, .bool false, .int .i64 0] 42)).setRow w15.heap.size (resL (s2.plus s1.steps)).toArray = w16 at *
        have HR3 := Lib.hid R3
        have HE16 := Lib.hid (HE14.out.trans E3)
        have R14 := HR2.out.ext E3
        have R13 := HR14.out.ext E3
        have k1 : w16.rangeAt w15.heap.size 0 (s2.rs.map (Value.int .i64)) := R3.regs2
        have k2 := R14.regs2
        have k3 : w16.cell? ⟨w15.heap.size, 48, none⟩ = some (.bool s2.gone) := R3.gone
        have k4 := R14.gone
        have k5 : w16.cell? ⟨w15.heap.size, 49, none⟩ = some (.int .i64 (s1.steps + s2.steps)) := by
          rw [Int.add_comm]
          exact R3.steps
        have k6 := R13.steps
        have k7 := R14.steps
        have hrz : (s2.rs.map (Value.int .i64)).length = 48 := by simp [HRB2.out.1]
        have hwr : IntKind.i64.wrap (s1.steps + s2.steps) = s1.steps + s2.steps := by
          have h1 := HST1.out
          have h2 := HST2.out
          rw [IntKind.wrap_i64]
          omega
        have hE := fun W => eqR s2.rs HRB2.out.1 W
        clear R3 R14 R13 E3 F3 HR3 HR2 HR14 G14 hsz hone HJ HST1 HST2
        go_wp2_with (first
          | ((with_reducible refine wpList_load_mid (op := ⟨some 72, _, _, _, _, _⟩) ?_ 31 (.tmp 71) ?_ w15.heap.size 0 ?_ (s2.rs.map (Value.int .i64)) _ k1 Try.underlying31 ?_ ?_ ?_); rfl; rfl; rfl; rfl; (rw [hrz]; kernel_rfl))
          | ((with_reducible refine wpList_load_mid (op := ⟨some 74, _, _, _, _, _⟩) ?_ 31 (.tmp 73) ?_ w13.heap.size 0 ?_ (s2.rs.map (Value.int .i64)) _ k2 Try.underlying31 ?_ ?_ ?_); rfl; rfl; rfl; rfl; (rw [hrz]; kernel_rfl))
          | fail)
        go_ret
        exact ⟨rfl, HE16.out⟩
theorem vmJoins_row {w : World} (u1 : Value) (sl1 : List Sm) (u2 : Value) (sl2 : List Sm) (v1 : Value) (ins : List Int) (h1 : SArr w u1 sl1) (h2 : SArr w u2 sl2) (h3 : Arr w .i32 v1 ins) :
    Calls Try.prog 6 #[u1, u2, v1] w fun e w' => e = .returned (.bool true) ∧ Ext w w' := by
  by_cases l0 : sl1.length ≤ 10 ∧ sl2.length ≤ 10 ∧ ins.length ≤ 100
  · exact vmJoins_main u1 u2 sl1 sl2 v1 ins h1 h2 h3 l0.1 l0.2.1 l0.2.2
  · obtain ⟨⟨a1, c1, rfl, -⟩, -, -⟩ := h1
    obtain ⟨⟨a2, c2, rfl, -⟩, -, -⟩ := h2
    obtain ⟨⟨a3, c3, rfl, -, -, -⟩, -, -⟩ := h3
    have hb : (decide (10 < (sl1.length : Int)) || decide (10 < (sl2.length : Int)) || decide (100 < (ins.length : Int))) = true := by
      simp only [Bool.or_eq_true, decide_eq_true_eq]
      omega
    go_enter Try.func6, Try.ntmps6
    go_wp2_with fail
    refine (awake8_any _).mono ?_
    rintro e w1 ⟨rfl, e1⟩
    go_wp2
    all_goals (go_ret; exact ⟨rfl, e1⟩)
end Go.Proofs.Ytellfhnfifgpoaa

