/-
  DERIVED. THE WALK of IsaJoins.
-/
import Derived.Test.YtkdonkebnnjkkaaIsaProg
namespace Go.Proofs.Ytkdonkebnnjkkaa
open Go.RowKit
set_option linter.unusedVariables false
def disB (xs : List In) : Bool := xs.any fun x => decide (x.op = 13)
theorem disB_append (p q : List In) : disB (p ++ q) = (disB p || disB q) := by simp [disB]
theorem fuel_max {xs : List In} (h : fuelL xs ≤ 200) (hok : ∀ x ∈ xs, x.ok) : 0 ≤ fuelL xs := by
  have := extraL_bd hok
  unfold fuelL
  omega
set_option maxRecDepth 100000 in
set_option maxHeartbeats 2000000 in
theorem isaJoins_main {w : World} (u1 : Value) (s1 : List Sm) (u2 : Value) (s2 : List Sm) (h1 : SArr w u1 s1) (h2 : SArr w u2 s2) (l1 : s1.length ≤ 12) (l2 : s2.length ≤ 12) :
    Calls Try.prog 5 #[u1, u2] w fun e w' => e = .returned (.bool true) ∧ Ext w w' := by
  have hS1 := h1
  have hS2 := h2
  obtain ⟨⟨a1, c1, rfl, -⟩, -, -⟩ := h1
  obtain ⟨⟨a2, c2, rfl, -⟩, -, -⟩ := h2
  have i1 : (s1.length : Int) ≤ 12 := by omega
  have i2 : (s2.length : Int) ≤ 12 := by omega
  go_enter Try.func5, Try.ntmps5
  go_wp2_with fail
  refine (awake7_any _).mono ?_
  rintro e w1 ⟨rfl, e1⟩
  go_wp2_with fail
  refine (program_any true _ _ s1 (hS1.ext e1) (by omega)).mono ?_
  rintro e w2 ⟨v2, p, rfl, o2, hokp, hpl, hcp, x2⟩
  have e2 := e1.trans x2
  have z1 := e1.size
  have hp12 : p.length ≤ 12 := by omega
  clear hpl
  go_wp2_with fail
  refine (program_any true _ _ s2 (hS2.ext e2) (by omega)).mono ?_
  rintro e w3 ⟨v3, q, rfl, o3, hokq, hql, hcq, x3⟩
  have e3 := e2.trans x3
  have z2 := e2.size
  have hq12 : q.length ≤ 12 := by omega
  have op3 := (o2.ext x3).mono z1
  have oq3 := o3.mono z2
  obtain ⟨_, hap, hfp⟩ := chk_zero hcp
  obtain ⟨_, haq, hfq⟩ := chk_zero hcq
  have hc := chk_all (xs := p ++ q) (by rw [List.length_append]; omega) (allAt_append hap haq)
  have hokA : ∀ x ∈ p ++ q, x.ok := fun x hx => by
    rcases List.mem_append.1 hx with h | h
    · exact hokp x h
    · exact hokq x h
  have hfA := fuelL_append p q
  have hfp0 := fuel_max hfp hokp
  have hfq0 := fuel_max hfq hokq
  have hdA := disB_append p q
  have HC := Lib.hid hc
  have HOKP := Lib.hid hokp
  have HOKQ := Lib.hid hokq
  have HOKA := Lib.hid hokA
  have HFA := Lib.hid hfA
  have HDA := Lib.hid hdA
  have hlA : (p ++ q).length ≤ 24 := by rw [List.length_append]; omega
  clear hql hcp hcq hap haq hc hokp hokq hokA hfA hdA o2 o3 x2 x3 e1 e2
  have x4 := (Ext.refl w3).alloc #[] 49
  have ol := lit_none w3
  have op4 := op3.ext x4
  have oq4 := oq3.ext x4
  have z3 := e3.size
  obtain ⟨aop, cp, rfl, -, -⟩ := op3.slice
  obtain ⟨aoq, cq, rfl, -, -⟩ := oq3.slice
  have hbq : ∀ k, Value.ownBlock (.slice aoq q.length cq) = some k → k < w3.heap.size := fun k hk => (oq3.lt k hk).2
  have hbp : ∀ k, Value.ownBlock (.slice aop p.length cp) = some k → k < w3.heap.size := fun k hk => (op3.lt k hk).2
  have HLA := Lib.hid hlA
  clear hlA
  go_upto_region 7 with (at_builtin; first
    | (refine wpList_append_own rfl _ _ rfl w3.heap.size _ p rfl o5 w.heap.size _ q rfl oq5 (by omega) (by omega) ?_
       intro v6 w6 o6 K6 hk6
       have x6 := Ext.calm_trans x5 K6 (fun g hg => (o5.lt g (Option.mem_toList.1 hg)).1))
    | (refine wpList_append_own rfl _ _ rfl w3.heap.size _ [] rfl ol w.heap.size _ p rfl op4 (by simp; omega) (by simp) ?_
       intro v5 w5 o5 K5 hk5
       rw [List.nil_append] at o5
       have x5 := Ext.calm_trans x4 K5 (fun g hg => (ol.lt g (Option.mem_toList.1 hg)).1)
       have oq5 := oq3.ext x5
       have z5 := x5.size))
  have e6 := e3.trans x6
  have op6 := op3.ext x6
  have oq6 := oq3.ext x6
  have o6' := o6
  obtain ⟨ao6, c6, rfl, -, -⟩ := o6.slice
  rw [List.length_append] at o6 ⊢
  clear x4 ol op4 oq4 o5 oq5 x5 K5 K6 hk5 hk6 op3 oq3 x6 e3 hbq hbp o6'
  obtain ⟨fp, hfp'⟩ : ∃ fp, fuelL p = fp := ⟨_, rfl⟩
  obtain ⟨fq, hfq'⟩ : ∃ fq, fuelL q = fq := ⟨_, rfl⟩
  obtain ⟨dq, hdq'⟩ : ∃ dq, (q.any fun x => decide (x.op = 13)) = dq := ⟨_, rfl⟩
  rw [hfp', hfq'] at HFA
  rw [hfp'] at hfp hfp0
  rw [hfq'] at hfq hfq0
  rw [HFA.out] at HC
  have HFP := Lib.hid hfp'
  have HFQ := Lib.hid hfq'
  have HDQ := Lib.hid hdq'
  unfold disB at HDA
  rw [hdq'] at HDA
  clear hfp' hfq' hdq'
  by_cases hf : 200 < fp + fq
  · rw [if_pos hf] at HC
    have hfd : decide (fp + fq ≤ 200) = false := by simp; omega
    cases hdp : (p.any fun x => decide (x.op = 13))
    · rw [hdp] at HDA
      have HDP := Lib.hid hdp
      clear hdp
      rw [Bool.false_or] at HDA
      go_wp2_with fail
      refine (check_any true _ _ _ (p ++ q) o6 HOKA.out (Nat.le_trans HLA.out (by decide))).mono ?_
      rintro e w7 ⟨rfl, x7⟩
      rw [HC.out]
      go_wp2_with fail
      refine (fuel_any _ _ _ (p ++ q) (o6.ext x7) HOKA.out (Nat.le_trans HLA.out (by decide))).mono ?_
      rintro e w8 ⟨rfl, x8⟩
      have x8' := x7.trans x8
      rw [HFA.out]
      go_wp2_with fail
      refine (fuel_any _ _ _ p (op6.ext x8') HOKP.out (by omega)).mono ?_
      rintro e w9 ⟨rfl, x9⟩
      have x9' := x8'.trans x9
      rw [HFP.out]
      go_wp2_with fail
      refine (fuel_any _ _ _ q (oq6.ext x9') HOKQ.out (by omega)).mono ?_
      rintro e w10 ⟨rfl, x10⟩
      have x10' := x9'.trans x10
      rw [HFQ.out]
      clear x7 x8 x8' x9 x9' x10
      go_wp2_with fail
      refine (discards_any _ _ _ (p ++ q) (o6.ext x10') HOKA.out (Nat.le_trans HLA.out (by decide))).mono ?_
      rintro e w11 ⟨rfl, x11⟩
      have x11' := x10'.trans x11
      rw [HDA.out]
      go_wp2_with fail
      refine (discards_any _ _ _ p (op6.ext x11') HOKP.out (by omega)).mono ?_
      rintro e w12 ⟨rfl, x12⟩
      have x12' := x11'.trans x12
      rw [HDP.out]
      go_wp2_with fail
      refine (discards_any _ _ _ q (oq6.ext x12') HOKQ.out (by omega)).mono ?_
      rintro e w13 ⟨rfl, x13⟩
      have x13' := x12'.trans x13
      rw [HDQ.out]
      go_wp2_with fail
      refine (fuel_any _ _ _ (p ++ q) (o6.ext x13') HOKA.out (Nat.le_trans HLA.out (by decide))).mono ?_
      rintro e w14 ⟨rfl, x14⟩
      have x14' := x13'.trans x14
      rw [HFA.out]
      go_wp2
      go_ret
      exact ⟨rfl, e6.trans x14'⟩
    · rw [hdp] at HDA
      have HDP := Lib.hid hdp
      clear hdp
      rw [Bool.true_or] at HDA
      go_wp2_with fail
      refine (check_any true _ _ _ (p ++ q) o6 HOKA.out (Nat.le_trans HLA.out (by decide))).mono ?_
      rintro e w7 ⟨rfl, x7⟩
      rw [HC.out]
      go_wp2_with fail
      refine (fuel_any _ _ _ (p ++ q) (o6.ext x7) HOKA.out (Nat.le_trans HLA.out (by decide))).mono ?_
      rintro e w8 ⟨rfl, x8⟩
      have x8' := x7.trans x8
      rw [HFA.out]
      go_wp2_with fail
      refine (fuel_any _ _ _ p (op6.ext x8') HOKP.out (by omega)).mono ?_
      rintro e w9 ⟨rfl, x9⟩
      have x9' := x8'.trans x9
      rw [HFP.out]
      go_wp2_with fail
      refine (fuel_any _ _ _ q (oq6.ext x9') HOKQ.out (by omega)).mono ?_
      rintro e w10 ⟨rfl, x10⟩
      have x10' := x9'.trans x10
      rw [HFQ.out]
      clear x7 x8 x8' x9 x9' x10
      go_wp2_with fail
      refine (discards_any _ _ _ (p ++ q) (o6.ext x10') HOKA.out (Nat.le_trans HLA.out (by decide))).mono ?_
      rintro e w11 ⟨rfl, x11⟩
      have x11' := x10'.trans x11
      rw [HDA.out]
      go_wp2_with fail
      refine (discards_any _ _ _ p (op6.ext x11') HOKP.out (by omega)).mono ?_
      rintro e w12 ⟨rfl, x12⟩
      have x12' := x11'.trans x12
      rw [HDP.out]
      go_wp2_with fail
      refine (fuel_any _ _ _ (p ++ q) (o6.ext x12') HOKA.out (Nat.le_trans HLA.out (by decide))).mono ?_
      rintro e w14 ⟨rfl, x14⟩
      have x14' := x12'.trans x14
      rw [HFA.out]
      go_wp2
      go_ret
      exact ⟨rfl, e6.trans x14'⟩
  · rw [if_neg hf] at HC
    have hfd : decide (fp + fq ≤ 200) = true := by simp; omega
    cases hdp : (p.any fun x => decide (x.op = 13))
    · rw [hdp] at HDA
      have HDP := Lib.hid hdp
      clear hdp
      rw [Bool.false_or] at HDA
      go_wp2_with fail
      refine (check_any true _ _ _ (p ++ q) o6 HOKA.out (Nat.le_trans HLA.out (by decide))).mono ?_
      rintro e w7 ⟨rfl, x7⟩
      rw [HC.out]
      go_wp2_with fail
      refine (fuel_any _ _ _ (p ++ q) (o6.ext x7) HOKA.out (Nat.le_trans HLA.out (by decide))).mono ?_
      rintro e w8 ⟨rfl, x8⟩
      have x8' := x7.trans x8
      rw [HFA.out]
      go_wp2_with fail
      refine (fuel_any _ _ _ p (op6.ext x8') HOKP.out (by omega)).mono ?_
      rintro e w9 ⟨rfl, x9⟩
      have x9' := x8'.trans x9
      rw [HFP.out]
      go_wp2_with fail
      refine (fuel_any _ _ _ q (oq6.ext x9') HOKQ.out (by omega)).mono ?_
      rintro e w10 ⟨rfl, x10⟩
      have x10' := x9'.trans x10
      rw [HFQ.out]
      clear x7 x8 x8' x9 x9' x10
      go_wp2_with fail
      refine (discards_any _ _ _ (p ++ q) (o6.ext x10') HOKA.out (Nat.le_trans HLA.out (by decide))).mono ?_
      rintro e w11 ⟨rfl, x11⟩
      have x11' := x10'.trans x11
      rw [HDA.out]
      go_wp2_with fail
      refine (discards_any _ _ _ p (op6.ext x11') HOKP.out (by omega)).mono ?_
      rintro e w12 ⟨rfl, x12⟩
      have x12' := x11'.trans x12
      rw [HDP.out]
      go_wp2_with fail
      refine (discards_any _ _ _ q (oq6.ext x12') HOKQ.out (by omega)).mono ?_
      rintro e w13 ⟨rfl, x13⟩
      have x13' := x12'.trans x13
      rw [HDQ.out]
      go_wp2_with fail
      refine (fuel_any _ _ _ (p ++ q) (o6.ext x13') HOKA.out (Nat.le_trans HLA.out (by decide))).mono ?_
      rintro e w14 ⟨rfl, x14⟩
      have x14' := x13'.trans x14
      rw [HFA.out]
      go_wp2
      go_ret
      exact ⟨rfl, e6.trans x14'⟩
    · rw [hdp] at HDA
      have HDP := Lib.hid hdp
      clear hdp
      rw [Bool.true_or] at HDA
      go_wp2_with fail
      refine (check_any true _ _ _ (p ++ q) o6 HOKA.out (Nat.le_trans HLA.out (by decide))).mono ?_
      rintro e w7 ⟨rfl, x7⟩
      rw [HC.out]
      go_wp2_with fail
      refine (fuel_any _ _ _ (p ++ q) (o6.ext x7) HOKA.out (Nat.le_trans HLA.out (by decide))).mono ?_
      rintro e w8 ⟨rfl, x8⟩
      have x8' := x7.trans x8
      rw [HFA.out]
      go_wp2_with fail
      refine (fuel_any _ _ _ p (op6.ext x8') HOKP.out (by omega)).mono ?_
      rintro e w9 ⟨rfl, x9⟩
      have x9' := x8'.trans x9
      rw [HFP.out]
      go_wp2_with fail
      refine (fuel_any _ _ _ q (oq6.ext x9') HOKQ.out (by omega)).mono ?_
      rintro e w10 ⟨rfl, x10⟩
      have x10' := x9'.trans x10
      rw [HFQ.out]
      clear x7 x8 x8' x9 x9' x10
      go_wp2_with fail
      refine (discards_any _ _ _ (p ++ q) (o6.ext x10') HOKA.out (Nat.le_trans HLA.out (by decide))).mono ?_
      rintro e w11 ⟨rfl, x11⟩
      have x11' := x10'.trans x11
      rw [HDA.out]
      go_wp2_with fail
      refine (discards_any _ _ _ p (op6.ext x11') HOKP.out (by omega)).mono ?_
      rintro e w12 ⟨rfl, x12⟩
      have x12' := x11'.trans x12
      rw [HDP.out]
      go_wp2_with fail
      refine (fuel_any _ _ _ (p ++ q) (o6.ext x12') HOKA.out (Nat.le_trans HLA.out (by decide))).mono ?_
      rintro e w14 ⟨rfl, x14⟩
      have x14' := x12'.trans x14
      rw [HFA.out]
      go_wp2
      go_ret
      exact ⟨rfl, e6.trans x14'⟩
set_option maxRecDepth 100000 in
theorem isaJoins_row {w : World} (u1 : Value) (s1 : List Sm) (u2 : Value) (s2 : List Sm) (h1 : SArr w u1 s1) (h2 : SArr w u2 s2) :
    Calls Try.prog 5 #[u1, u2] w fun e w' => e = .returned (.bool true) ∧ Ext w w' := by
  have m1 := h1.most
  have m2 := h2.most
  unfold maxLen at m1 m2
  have hmain := fun l1 l2 => isaJoins_main u1 s1 u2 s2 h1 h2 l1 l2
  obtain ⟨⟨a1, c1, rfl, -⟩, -, -⟩ := h1
  obtain ⟨⟨a2, c2, rfl, -⟩, -, -⟩ := h2
  by_cases l1 : s1.length ≤ 12
  · by_cases l2 : s2.length ≤ 12
    · exact hmain l1 l2
    · clear hmain
      have i1 : ¬ (12 : Int) < (s1.length : Int) := by omega
      have i2 : (12 : Int) < (s2.length : Int) := by omega
      clear l1 l2
      go_enter Try.func5, Try.ntmps5
      go_wp2_with fail
      refine (awake7_any _).mono ?_
      rintro e w1 ⟨rfl, e1⟩
      go_wp2
      go_ret
      exact ⟨rfl, e1⟩
  · clear hmain
    have i1 : (12 : Int) < (s1.length : Int) := by omega
    clear l1
    go_enter Try.func5, Try.ntmps5
    go_wp2_with fail
    refine (awake7_any _).mono ?_
    rintro e w1 ⟨rfl, e1⟩
    go_wp2
    go_ret
    exact ⟨rfl, e1⟩
end Go.Proofs.Ytkdonkebnnjkkaa
