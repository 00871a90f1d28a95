/-
  DERIVED. What the laws of layer 11 begin with (made by mkscrsmall.py).
-/
import Derived.Test.YtbbfmlehddfneaaPkTakeS
import Derived.Test.YtbbfmlehddfneaaPkScript
namespace Go.Proofs.Ytbbfmlehddfneaa
open Go.RowKit
set_option linter.unusedVariables false
theorem DConts.ext {w w' : World} {ds : List DSm} {LX : List (List Int)} (h : DConts w ds LX) (x : Ext w w') : DConts w' ds LX := ⟨h.1, fun i d hd => by obtain ⟨xs, e1, e2, e3⟩ := h.2 i d hd; exact ⟨xs, e1, e2, e3.ext x⟩⟩
/-- a vertex at the ends of what may be -/
def vG : V8 := ⟨-4194304, 4194304, -4194304, 4194304, -4194304, 4194304, -4194304, 4194304⟩
def drS (n : Int) : Dr := ⟨(⟨0, 0, 0, 0, 0, 0, 0, 0, 0, 0, false, false, 0, 0, 0, 0⟩ : Sm9).st, false, ⟨0, 0, 0, 0, 0, 0, 0⟩, 0, 0, 0, List.replicate 96 n⟩
def drC : Dr := ⟨(⟨0, 0, 0, 0, 0, 0, 0, 0, 0, 0, false, false, 0, 0, 0, 0⟩ : Sm9).st, true, ⟨0, 0, 0, 0, 0, 0, 0⟩, 0, 0, 0, []⟩
def s0 : Sm9 := ⟨0, 0, 0, 0, 0, 0, 0, 0, 0, 0, false, false, 0, 0, 0, 0⟩
theorem s0_ok : s0.ok := by simp [s0, Sm9.ok]
def mG : List Int := [-2147483647, 2147483647, -2147483647, 2147483647, -2147483647, 2147483647, -2147483647, 2147483647, -2147483647, 2147483647, -2147483647, 2147483647, -2147483647, 2147483647, -2147483647, 2147483647]
/-- the greatest script -/
def great (x : Scr) (n : Int) : Scr := ⟨x.W, x.H, mG, List.replicate 64 vG, x.sh, x.pa, List.replicate 32 (drS n)⟩
def more (x : Scr) : Scr := ⟨x.W, x.H, x.m, x.verts, x.sh, x.pa, x.draws ++ [drC]⟩
theorem mG_bd : ∀ y ∈ mG, -2147483647 ≤ y ∧ y ≤ 2147483647 := by decide
theorem firstE_all {α : Type} {l : List α} {f : α → Int} (h : ∀ a ∈ l, f a = 0) : firstE (l.map f) = 0 := firstE_zero.2 fun e he => by
  obtain ⟨a, ha, rfl⟩ := List.mem_map.1 he
  exact h a ha
theorem chkS_ok {x : Scr} (hW : 1 ≤ x.W ∧ x.W ≤ 64) (hH : 1 ≤ x.H ∧ x.H ≤ 64) (hv : x.verts.length ≤ 64) (hd : x.draws.length ≤ 32) (hs : x.sh.length ≤ 4) (hp : x.pa.length ≤ 4) (hn : chkN x = true) (h1 : ∀ p ∈ x.sh, chk false p = 0) (h2 : ∀ p ∈ x.pa, chk true p = 0) (h3 : ∀ d ∈ x.draws, chkD x.sh.length x.pa.length x.verts.length d = 0) : chkS x = 0 := by
  unfold chkS
  rw [if_neg (by omega), if_neg (by omega), if_neg (by simp [hn])]
  refine firstE_zero.2 fun e he => ?_
  simp only [List.mem_cons, List.not_mem_nil, or_false] at he
  rcases he with rfl | rfl | rfl
  · exact firstE_all h1
  · exact firstE_all h2
  · exact firstE_all h3
theorem chkN_of {x : Scr} (h : chkS x = 0) : chkN x = true := by
  unfold chkS at h
  split at h
  · cases h
  · split at h
    · cases h
    · split at h
      · cases h
      · rename_i h3
        simpa using h3
theorem drS_ok {n : Int} (hn : 0 ≤ n ∧ n < 64) {ns np : Nat} (hs : 1 ≤ ns) (hp : 1 ≤ np) : chkD ns np 64 (drS n) = 0 ∧ (drS n).fit := by
  obtain ⟨hb, hc⟩ := Sm9.good s0_ok
  unfold s0 at hb hc
  refine ⟨?_, ⟨hb, by simp [drS, Clr.byt], by simp [drS, I64], by simp [drS, I64], by simp [drS, I64], by simp [drS], by simp [drS]⟩⟩
  unfold chkD drS
  simp only
  rw [if_neg (by simp [hc]), if_neg (by simp), if_pos (by omega)]
  unfold chkM
  have h0 : chk0 0 (List.replicate 96 n).length = 0 := by rw [List.length_replicate]; decide
  rw [if_neg (fun h => h h0), if_pos]
  rw [List.all_eq_true]
  intro y hy
  have := List.eq_of_mem_replicate hy
  subst this
  simp only [okIdx, Bool.and_eq_true, decide_eq_true_eq]
  omega
theorem drC_ok (ns np nv : Nat) : chkD ns np nv drC = 0 ∧ drC.fit ∧ (encD drC).length = 23 := by
  obtain ⟨hb, hc⟩ := Sm9.good s0_ok
  unfold s0 at hb hc
  refine ⟨?_, ⟨hb, by simp [drC, Clr.byt], by simp [drC, I64], by simp [drC, I64], by simp [drC, I64], by simp [drC], by simp [drC]⟩, ?_⟩
  · unfold chkD drC
    simp only
    rw [if_neg (by simp [hc])]
    simp [chkC]
  · have h0 : (leb 0).length = 1 := by rw [leb_small (by omega)]; rfl
    simp [encD, drC, Stt.enc, encN, h0]
theorem great_fit {x : Scr} (h : SGood x) {n : Int} (hn : 0 ≤ n ∧ n < 64) : (great x n).fit ∧ chkS (great x n) = 0 := by
  have hf := h.rd.r0.fit
  have hg := chkS_good h.chk
  have hmG : ∀ y ∈ mG, -2147483647 ≤ y ∧ y ≤ 2147483647 := by decide
  have hd := drS_ok hn h.s h.p
  refine ⟨⟨hf.W, hf.H, rfl, fun y hy => by have := hmG y hy; unfold I64; omega, fun v hv => by rw [List.eq_of_mem_replicate hv]; simp [vG, V8.fit, I64], by simp [great], hf.s, hf.sl, hf.p, hf.pl, fun d hd' => by rw [List.eq_of_mem_replicate hd']; exact hd.2, by simp [great]⟩, ?_⟩
  refine chkS_ok hg.W hg.H (by simp [great]) (by simp [great]) hg.s hg.p ?_ hg.sp hg.pp (fun d hd' => by
    have : d = drS n := List.eq_of_mem_replicate hd'
    subst this
    have hl : (great x n).verts.length = 64 := by simp [great]
    rw [hl]
    exact hd.1)
  unfold chkN
  rw [Bool.and_eq_true]
  refine ⟨by show mG.all (inB 2147483647) = true; decide, List.all_eq_true.2 fun v hv => ?_⟩
  rw [List.eq_of_mem_replicate hv]
  decide
theorem more_fit {x : Scr} (h : SGood x) : (more x).fit ∧ chkS (more x) = 0 ∧ (encS (more x)).length = (encS x).length + 23 := by
  have hf := h.rd.r0.fit
  have hg := chkS_good h.chk
  have hc := drC_ok x.sh.length x.pa.length x.verts.length
  have h5 := h.d
  have hml : (more x).draws.length = x.draws.length + 1 := by simp [more]
  refine ⟨⟨hf.W, hf.H, hf.m16, hf.m, hf.v, hf.vl, hf.s, hf.sl, hf.p, hf.pl, fun d hd => ?_, by omega⟩, ?_, ?_⟩
  · rcases List.mem_append.1 hd with h1 | h1
    · exact hf.d d h1
    · rw [List.mem_singleton.1 h1]; exact hc.2.1
  · refine chkS_ok hg.W hg.H hg.v (by omega) hg.s hg.p (by show chkN x = true; exact chkN_of h.chk) hg.sp hg.pp (fun d hd => ?_)
    rcases List.mem_append.1 hd with h1 | h1
    · exact hg.dd d h1
    · rw [List.mem_singleton.1 h1]; exact hc.1
  · have l1 : (leb x.draws.length).length = 1 := by rw [leb_small (by omega)]; rfl
    have l2 : (leb (x.draws.length + 1)).length = 1 := by rw [leb_small (by omega)]; rfl
    simp only [encS, more, seqE, List.length_cons, List.length_append, List.length_nil, List.flatMap_append, List.flatMap_cons, List.flatMap_nil, List.append_nil, hc.2.2]
    have l3 : (leb (x.draws.length + (0 + 1))).length = 1 := by rw [Nat.zero_add]; exact l2
    omega
theorem great_few {x : Scr} (h : SGood x) {n : Int} (hn : 0 ≤ n ∧ n < 64) : (encS (great x n)).length ≤ 20000 := by
  have hf := h.rd.r0.fit
  have hg := chkS_good h.chk
  have k1 := encN_len hf.W
  have k2 := encN_len hf.H
  have k3 := flat_len (e := encZ) (b := 10) (l := mG) (fun y hy => encZ_len (by have := mG_bd y hy; unfold I64; omega))
  have k4 : (leb 64).length = 1 := by rw [leb_small (by omega)]; rfl
  have k5 := flat_len (e := encV) (b := 80) (l := List.replicate 64 vG) (fun v hv => by rw [List.eq_of_mem_replicate hv]; exact encV_len (by simp [vG, V8.fit, I64]))
  have k6 : (leb x.sh.length).length ≤ 10 := leb_len10 (by have := hf.sl; omega)
  have k7 := progs_len hg.s (fun p hp => (hf.s p hp).2) hg.sp x.sh.length
  have k8 : (leb x.pa.length).length ≤ 10 := leb_len10 (by have := hf.pl; omega)
  have k9 := progs_len hg.p (fun p hp => (hf.p p hp).2) hg.pp x.pa.length
  have k10 : (leb 32).length = 1 := by rw [leb_small (by omega)]; rfl
  have hone : (encN n).length = 1 := by unfold encN; rw [leb_small (by omega)]; rfl
  have h96 : (leb 96).length = 1 := by rw [leb_small (by omega)]; rfl
  have h0 : (leb 0).length = 1 := by rw [leb_small (by omega)]; rfl
  have kd : (encD (drS n)).length = 115 := by
    have hz : ((List.replicate 96 n).flatMap encN).length = 96 := by rw [List.length_flatMap]; simp [hone]
    simp only [encD, drS, Stt.enc, seqE, encN, List.length_append, List.length_cons, List.length_nil, Bool.false_eq_true, if_false, List.length_replicate, Int.toNat_zero, h0, h96]
    have hz' : ((List.replicate 96 n).flatMap fun n => leb n.toNat).length = 96 := hz
    have hz2 : (List.flatMap encN (List.replicate 96 n)).length = 96 := hz
    omega
  have k11 : ((List.replicate 32 (drS n)).flatMap encD).length = 32 * 115 := by rw [List.length_flatMap]; simp [kd]
  rw [List.take_length] at k7 k9
  have h16 : mG.length = 16 := rfl
  simp only [encS, great, seqE, List.length_cons, List.length_append, List.length_replicate] at *
  omega
end Go.Proofs.Ytbbfmlehddfneaa

