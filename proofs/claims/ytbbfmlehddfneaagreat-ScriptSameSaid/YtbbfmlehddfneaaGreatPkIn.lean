/-
  DERIVED. A script where it lies, all its blocks in a range: what else turns does not matter (made by mkscrsamelaw.py). · What the law ScriptSame leans on, in plain numbers and in memory (made by mkscrsamelaw.py).
-/
import Derived.Test.YtbbfmlehddfneaaGreatPkMake
import Derived.Test.YtbbfmlehddfneaaGreatPkBytes
import Derived.Test.YtbbfmlehddfneaaGreatPkSameD
import Derived.Test.YtbbfmlehddfneaaGreatPkAid
import Derived.Test.YtbbfmlehddfneaaGreatPkWire
namespace Go.Proofs.YtbbfmlehddfneaaGreat
open Go.RowKit
set_option linter.unusedVariables false
/-- draws, in blocks from lo on and below hi -/
def DBh (w : World) (lo hi : Nat) (v : Value) (Ds : List Dr) : Prop := ∃ dms, OwnG LD w lo v dms ∧ DrawsAt w lo dms Ds ∧ (∀ m ∈ dms, ∀ k, m.ix.v.ownBlock = some k → v.ownBlock ≠ some k) ∧ (∀ k, v.ownBlock = some k → k < hi) ∧ ∀ m ∈ dms, ∀ k, m.ix.v.ownBlock = some k → k < hi
theorem DBh.calm {w w' : World} {lo hi : Nat} {v : Value} {Ds : List Dr} {O : List Nat} (h : DBh w lo hi v Ds) (x : Calm O w w') (hO : ∀ b ∈ O, b < lo ∨ hi ≤ b) : DBh w' lo hi v Ds := by
  obtain ⟨dms, h1, h2, h3, h4, h5⟩ := h
  refine ⟨dms, h1.calm x (fun k hk hin => ?_), h2.calm x (fun s hs k hk hin => ?_), h3, h4, h5⟩
  · have a := h4 k hk
    have b := (h1.lt k hk).1
    rcases hO k hin with c | c <;> omega
  · have a := h5 s hs k hk
    have b := (h2.lt s hs k hk).1
    rcases hO k hin with c | c <;> omega
theorem DBh.db {w : World} {lo hi : Nat} {v : Value} {Ds : List Dr} (h : DBh w lo hi v Ds) : DB w lo v Ds := by
  obtain ⟨dms, h1, h2, h3, -⟩ := h
  exact ⟨dms, h1, h2, h3⟩
/-- a script, each part in blocks of its own, all from lo on and below hi -/
structure ScrIn (w : World) (lo hi : Nat) (s : ScrM) (x : Scr) : Prop where
  W : s.W = x.W
  H : s.H = x.H
  m : s.m = x.m
  parts : ∃ h1 l2 h2 l3 h3 l4, VB w lo h1 s.vs.v x.verts ∧ PB w l2 h2 s.sh.v x.sh ∧ PB w l3 h3 s.pa.v x.pa ∧ DBh w l4 hi s.ds.v x.draws ∧ (lo ≤ h1 ∧ h1 ≤ l2 ∧ h1 ≤ l3 ∧ (h2 ≤ l3 ∨ h3 ≤ l2) ∧ h2 ≤ l4 ∧ h3 ≤ l4 ∧ h1 ≤ l4 ∧ l4 ≤ hi)
theorem ScrAt.inn {w : World} {lo : Nat} {s : ScrM} {x : Scr} (h : ScrAt w lo s x) : ScrIn w lo w.heap.size s x := by
  obtain ⟨a, b, c, h1, l2, h2, l3, h3, l4, k1, k2, k3, ⟨dms, d1, d2, d3⟩, n⟩ := h
  exact ⟨a, b, c, h1, l2, h2, l3, h3, l4, k1, k2, k3, ⟨dms, d1, d2, d3, fun k hk => (d1.lt k hk).2, fun m hm k hk => (d2.lt m hm k hk).2⟩, n⟩
theorem ScrIn.calm {w w' : World} {lo hi : Nat} {s : ScrM} {x : Scr} {O : List Nat} (h : ScrIn w lo hi s x) (c : Calm O w w') (hO : ∀ b ∈ O, b < lo ∨ hi ≤ b) : ScrIn w' lo hi s x := by
  obtain ⟨e1, e2, e3, h1, l2, h2, l3, h3, l4, k1, k2, k3, k4, n1, n2, n3, n4, n5, n6, n7, n8⟩ := h
  refine ⟨e1, e2, e3, h1, l2, h2, l3, h3, l4, k1.calm c (fun b hb => ?_), k2.calm c (fun b hb => ?_), k3.calm c (fun b hb => ?_), k4.calm c (fun b hb => ?_), n1, n2, n3, n4, n5, n6, n7, n8⟩
  all_goals (rcases hO b hb with g | g <;> first | (left; omega) | (right; omega))
theorem ScrIn.ext {w w' : World} {lo hi : Nat} {s : ScrM} {x : Scr} (h : ScrIn w lo hi s x) (e : Ext w w') : ScrIn w' lo hi s x := h.calm (e.calm []) (fun b hb => by simp at hb)
theorem ScrIn.rd {w : World} {lo hi : Nat} {s : ScrM} {x : Scr} (h : ScrIn w lo hi s x) (hy : ∀ d ∈ x.draws, ∀ y ∈ d.idx, (Lit.int .i64 y).wf = true) : ScrR w s x := by
  obtain ⟨a, b, c, h1, l2, h2, l3, h3, l4, k1, k2, k3, k4, -⟩ := h
  exact ⟨a, b, c, k1.1.parr, k2.rd, k3.rd, k4.db.rd hy⟩
theorem out1 {h l k : Nat} (d : h ≤ k ∨ k + 1 ≤ l) : k < l ∨ h ≤ k := d.elim .inr .inl
theorem out1' {h l k b : Nat} (hb : b ∈ [k]) (d : h ≤ k ∨ k + 1 ≤ l) : b < l ∨ h ≤ b := by rw [List.mem_singleton.1 hb]; exact out1 d
theorem outne {k j : Nat} (d : k + 1 ≤ j ∨ j + 1 ≤ k) : k ≠ j := by omega
/-- what a maker of a script yields -/
def isScr (x : Scr) (v : Value) (lo hi : Nat) (u : World) : Prop := ∃ m : ScrM, v = .agg m.l.toArray ∧ ScrIn u lo hi m x
/-- what a maker of a variable yields -/
def isBox (v : Value) (lo hi : Nat) (u : World) : Prop := v = .pointer (some ⟨lo, 0, none⟩) ∧ Blk u lo #[.int .i64 0, .int .i64 0, .int .i64 0, .int .i64 0, .int .i64 0, .int .i64 0, .int .i64 0, .int .i64 0, .int .i64 0, .int .i64 0, .int .i64 0, .int .i64 0, .int .i64 0, .int .i64 0, .int .i64 0, .int .i64 0, .int .i64 0, .int .i64 0, .slice none 0 0, .slice none 0 0, .slice none 0 0, .slice none 0 0] 38 ∧ hi = lo + 1
theorem ScrM.ones (m : ScrM) : m.l.toArray.all (·.oneCell') = true := by
  simp only [List.all_toArray, List.all_eq_true]
  intro u hu
  simp [ScrM.l] at hu
  rcases hu with rfl | rfl | ⟨y, _, rfl⟩ | rfl | rfl | rfl | rfl <;> rfl
end Go.Proofs.YtbbfmlehddfneaaGreat

namespace Go.Proofs.YtbbfmlehddfneaaGreat
open Go.RowKit
set_option linter.unusedVariables false
theorem sameS_ok {x y : Scr} (hx : x.ok) (hy : y.ok) : sameS x y = true ↔ x = y := by
  obtain ⟨a0, a1, a2, a3, a4, a5, a6⟩ := x
  obtain ⟨b0, b1, b2, b3, b4, b5, b6⟩ := y
  have h1 : a6.map nrm = a6 := by
    conv => rhs; rw [← List.map_id a6]
    exact List.map_congr_left fun d hd => nrm_ok (hx.d d hd)
  have h2 : b6.map nrm = b6 := by
    conv => rhs; rw [← List.map_id b6]
    exact List.map_congr_left fun d hd => nrm_ok (hy.d d hd)
  unfold sameS
  simp only [h1, h2, Scr.mk.injEq, Bool.and_eq_true, decide_eq_true_eq]
theorem same_bytes {x y : Scr} (hx : x.rd) (hy : y.rd) (cx : chkS x = 0) (cy : chkS y = 0) : ((strOfNums (encS x)).toList == (strOfNums (encS y)).toList) = sameS x y := by
  rw [strs_eq (encS_bytes hx.r0.fit (chkS_good cx)) (encS_bytes hy.r0.fit (chkS_good cy))]
  cases h : sameS x y with
  | true => simp [(sameS_ok hx.ok hy.ok).1 h]
  | false =>
    have : encS x ≠ encS y := fun e => by
      rw [(sameS_ok hx.ok hy.ok).2 (encS_inj hx.ok hy.ok e)] at h
      cases h
    simp [this]
theorem sameS_self (x : Scr) : sameS x x = true := by simp [sameS]
theorem sameS_no {x y : Scr} (h : x.W ≠ y.W ∨ x.m ≠ y.m ∨ x.verts ≠ y.verts ∨ x.sh ≠ y.sh ∨ x.pa ≠ y.pa ∨ x.draws.length ≠ y.draws.length) : sameS x y = false := by
  unfold sameS
  rcases h with h | h | h | h | h | h
  · simp [h]
  · simp [h]
  · simp [h]
  · simp [h]
  · simp [h]
  · have : x.draws.map nrm ≠ y.draws.map nrm := fun e => h (by have := congrArg List.length e; simpa using this)
    simp [this]
/-- three scripts where they lie; what turns of the third one leaves the others -/
structure Three (w0 w : World) (b3 b7 b8 b9 la ha lb hb lc hc : Nat) (z : Array Value) (m1 m2 m3 : ScrM) (x y : Scr) : Prop where
  I1 : ScrIn w la ha m1 x
  I2 : ScrIn w lb hb m2 y
  I3 : ScrIn w lc hc m3 x
  B3 : Blk w b3 z 28
  B7 : Blk w b7 m1.l.toArray 38
  B8 : Blk w b8 m2.l.toArray 38
  B9 : Blk w b9 m3.l.toArray 38
  ext : Ext w0 w
  lo : w0.heap.size ≤ la ∧ w0.heap.size ≤ lb ∧ w0.heap.size ≤ lc ∧ w0.heap.size ≤ b9 ∧ w0.heap.size ≤ b7 ∧ w0.heap.size ≤ b8
  hi : ha ≤ w.heap.size ∧ hb ≤ w.heap.size ∧ hc ≤ w.heap.size
  apart : (hc ≤ la ∨ ha ≤ lc) ∧ (hc ≤ lb ∨ hb ≤ lc)
  b9out : (b9 < la ∨ ha ≤ b9) ∧ (b9 < lb ∨ hb ≤ b9) ∧ (b9 < lc ∨ hc ≤ b9)
  cout : (b7 < lc ∨ hc ≤ b7) ∧ (b8 < lc ∨ hc ≤ b8)
  ne : b3 < w0.heap.size ∧ b7 ≠ b9 ∧ b8 ≠ b9
structure Kept (w0 w : World) (b3 b7 b8 la ha lb hb : Nat) (z : Array Value) (m1 m2 : ScrM) (x y : Scr) : Prop where
  I1 : ScrIn w la ha m1 x
  I2 : ScrIn w lb hb m2 y
  B3 : Blk w b3 z 28
  B7 : Blk w b7 m1.l.toArray 38
  B8 : Blk w b8 m2.l.toArray 38
  ext : Ext w0 w
theorem Three.turn {w0 w w' : World} {b3 b7 b8 b9 la ha lb hb lc hc : Nat} {z : Array Value} {m1 m2 m3 : ScrM} {x y : Scr} {O : List Nat} (h : Three w0 w b3 b7 b8 b9 la ha lb hb lc hc z m1 m2 m3 x y) (c : Calm O w w') (hO : ∀ b ∈ O, b = b9 ∨ (lc ≤ b ∧ b < hc)) : Kept w0 w' b3 b7 b8 la ha lb hb z m1 m2 x y := by
  obtain ⟨I1, I2, I3, B3, B7, B8, B9, ext, ⟨l1, l2, l3, l4, l5, l6⟩, hi, ⟨a1, a2⟩, ⟨o1, o2, o3⟩, ⟨c1, c2⟩, ⟨n1, n2, n3⟩⟩ := h
  have k1 : ∀ b ∈ O, b < la ∨ ha ≤ b := fun b hb => by
    rcases hO b hb with rfl | ⟨g1, g2⟩
    · exact o1
    · rcases a1 with a1 | a1
      · left; omega
      · right; omega
  have k2 : ∀ b ∈ O, b < lb ∨ hb ≤ b := fun b hb => by
    rcases hO b hb with rfl | ⟨g1, g2⟩
    · exact o2
    · rcases a2 with a2 | a2
      · left; omega
      · right; omega
  have k3 : b3 ∉ O := fun hin => by
    rcases hO _ hin with e | ⟨g1, g2⟩
    · rw [e] at n1; omega
    · omega
  have k7 : b7 ∉ O := fun hin => by
    rcases hO _ hin with e | ⟨g1, g2⟩
    · exact n2 e
    · rcases c1 with c1 | c1 <;> omega
  have k8 : b8 ∉ O := fun hin => by
    rcases hO _ hin with e | ⟨g1, g2⟩
    · exact n3 e
    · rcases c2 with c2 | c2 <;> omega
  exact ⟨I1.calm c k1, I2.calm c k2, B3.calm c k3, B7.calm c k7, B8.calm c k8, Ext.calm_trans ext c (fun b hb => by
    rcases hO b hb with rfl | ⟨g1, g2⟩ <;> omega)⟩
/-- a cell of the third one's variable -/
theorem Three.own {w0 w w' : World} {b3 b7 b8 b9 la ha lb hb lc hc : Nat} {z : Array Value} {m1 m2 m3 : ScrM} {x y : Scr} (h : Three w0 w b3 b7 b8 b9 la ha lb hb lc hc z m1 m2 m3 x y) (c : Calm [b9] w w') : ScrIn w' lc hc m3 x :=
  h.I3.calm c (fun b hb => by rw [List.mem_singleton.1 hb]; exact h.b9out.2.2)
theorem Arr.nilI (w : World) : Arr w .i64 (.slice none 0 0) [] := ⟨⟨none, 0, rfl, Nat.le_refl _, fun h => absurd rfl h, fun _ => rfl⟩, by simp [maxLen], fun y hy => by cases hy⟩
theorem PArr.nil (w : World) : PArr w (.slice none 0 0) [] := ⟨none, 0, rfl, fun h => absurd rfl h⟩
/-- a program more, that does nothing -/
theorem PRd.snoc {w w' : World} {lo base : Nat} {v' : Value} {P : List (List In)} {svs : List SlV} {O : List Nat} (h2 : ProgsAt w lo svs P) (h3 : ∀ s ∈ svs, ∀ k, s.v.ownBlock = some k → k ∉ O) (o : OwnG LP w' base v' (svs ++ [SlV.nil])) (c : Calm O w w') : PRd w' v' (P ++ [[]]) := by
  refine ⟨svs ++ [SlV.nil], o.parr, by simp [h2.1], fun i s hs => ?_⟩
  rcases Nat.lt_or_ge i svs.length with hi | hi
  · rw [List.getElem?_append_left hi] at hs
    obtain ⟨xs, e1, e2⟩ := h2.2 i s hs
    have e3 : OwnP w' lo s.v xs := e2.calm c (fun k hk => h3 s (List.mem_of_getElem? hs) k hk)
    exact ⟨xs, by rw [List.getElem?_append_left (by rw [← h2.1]; exact hi)]; exact e1, e3.parr, fun k hk => (e3.lt k hk).2⟩
  · rw [List.getElem?_append_right hi] at hs
    have hi2 : i = svs.length := by
      have := (List.getElem?_eq_some_iff.1 hs).1
      simp at this
      omega
    subst hi2
    simp at hs
    subst hs
    exact ⟨[], by rw [h2.1]; simp, PArr.nil _, fun k hk => by cases hk⟩
/-- the first program is another one -/
theorem PRd.first {w w' : World} {lo : Nat} {v : Value} {P : List (List In)} {svs : List SlV} {sn : SlV} {O : List Nat} (h1 : OwnG LP w' lo v (svs.set 0 sn)) (h2 : ProgsAt w lo svs P) (h3 : ∀ s ∈ svs, ∀ k, s.v.ownBlock = some k → k ∉ O) (c : Calm O w w') {q : List In} (hq : PArr w' sn.v q) (hk : ∀ k, sn.v.ownBlock = some k → k < w'.heap.size) : PRd w' v (P.set 0 q) := by
  refine ⟨svs.set 0 sn, h1.parr, by simp [h2.1], fun i s hs => ?_⟩
  by_cases hi : i = 0
  · subst hi
    have h0 : 0 < svs.length := by
      have := (List.getElem?_eq_some_iff.1 hs).1
      simpa using this
    rw [List.getElem?_set_self h0] at hs
    cases hs
    exact ⟨q, by rw [List.getElem?_set_self (by rw [← h2.1]; exact h0)], hq, hk⟩
  · rw [List.getElem?_set_ne (fun e => hi e.symm)] at hs
    obtain ⟨xs, e1, e2⟩ := h2.2 i s hs
    have e3 : OwnP w' lo s.v xs := e2.calm c (fun k hk => h3 s (List.mem_of_getElem? hs) k hk)
    exact ⟨xs, by rw [List.getElem?_set_ne (fun e => hi e.symm)]; exact e1, e3.parr, fun k hk => (e3.lt k hk).2⟩
def drZ : Dr := ⟨Stt.nul, false, ⟨0, 0, 0, 0, 0, 0, 0⟩, 0, 0, 0, []⟩
def dmZ : DrM := ⟨Stt.nul, false, ⟨0, 0, 0, 0, 0, 0, 0⟩, 0, 0, 0, SlV.nil⟩
theorem DRd.snoc {w w' : World} {lo base : Nat} {v' : Value} {Ds : List Dr} {dms : List DrM} {O : List Nat} (h2 : DrawsAt w lo dms Ds) (h3 : ∀ m ∈ dms, ∀ k, m.ix.v.ownBlock = some k → k ∉ O) (hy : ∀ d ∈ Ds, ∀ y ∈ d.idx, (Lit.int .i64 y).wf = true) (o : OwnG LD w' base v' (dms ++ [dmZ])) (c : Calm O w w') : DRd w' v' (Ds ++ [drZ]) := by
  refine ⟨dms ++ [dmZ], o.parr, by simp [h2.1], fun i m hm => ?_⟩
  rcases Nat.lt_or_ge i dms.length with hi | hi
  · rw [List.getElem?_append_left hi] at hm
    obtain ⟨d, e1, e2, e3⟩ := h2.2 i m hm
    exact ⟨d, by rw [List.getElem?_append_left (by rw [← h2.1]; exact hi)]; exact e1, e2, (e3.calm c (fun k hk => h3 m (List.mem_of_getElem? hm) k hk)).arr (hy d (List.mem_of_getElem? e1))⟩
  · rw [List.getElem?_append_right hi] at hm
    have hi2 : i = dms.length := by
      have := (List.getElem?_eq_some_iff.1 hm).1
      simp at this
      omega
    subst hi2
    simp at hm
    subst hm
    exact ⟨drZ, by rw [h2.1]; simp, ⟨rfl, rfl, rfl, rfl, rfl, rfl⟩, Arr.nilI _⟩
theorem flatV_set (v : V8) (r : List V8) (a : Int) : LV.flat ((v :: r).set 0 ⟨v.p0, v.p1, v.p2, v.p3, v.c0, a, v.c2, v.c3⟩) = (LV.flat (v :: r)).set 5 (.int .i64 a) := by
  simp [Lay.flat, LV]
theorem flatP_set (s t : SlV) (r : List SlV) : LP.flat ((s :: r).set 0 t) = (LP.flat (s :: r)).set 0 t.v := by
  simp [Lay.flat, LP]
theorem drZ_fit : drZ.fit := ⟨by simp [drZ, Stt.nul, Stt.byt], by simp [drZ, Clr.byt], by simp [drZ, I64], by simp [drZ, I64], by simp [drZ, I64], by simp [drZ], by simp [drZ]⟩
end Go.Proofs.YtbbfmlehddfneaaGreat

