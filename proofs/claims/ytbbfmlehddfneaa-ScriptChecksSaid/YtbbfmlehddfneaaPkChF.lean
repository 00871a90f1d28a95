/-
  DERIVED. ScriptChecks in plain numbers: what Check says of scripts that may not be (made by mkscrchecks.py). · A script where it lies, all its blocks in a range: what else turns does not matter. · ScriptChecks: what its switch leaves in memory (made by mkscrchecks.py).
-/
import Derived.Test.YtbbfmlehddfneaaPkAid
import Derived.Test.YtbbfmlehddfneaaPkFix
import Derived.Laws.MakeOwn
namespace Go.Proofs.Ytbbfmlehddfneaa
open Go.RowKit
set_option linter.unusedVariables false
def st1 : Stt := ⟨0, false, 7, 0, 0, 0, 0, 0, 0, 15, 0, 0, 0, 64, 64⟩
def c0 : Clr := ⟨0, 0, 0, 0, 0, 0, 0⟩
/-- the law's draw, some of it replaced -/
def dW (st : Stt) (cl : Bool) (dep vx fr : Int) (ix : List Int) : Dr := ⟨st, cl, ⟨0, 0, 0, 0, dep, 0, 0⟩, vx, fr, 0, ix⟩
theorem st1_chk : st1.chk = 0 := by decide
theorem firstE_snoc {l : List Int} {e : Int} (h : ∀ y ∈ l, y = 0) : firstE (l ++ [e]) = e := by
  induction l with
  | nil => by_cases h0 : e = 0 <;> simp [firstE, h0]
  | cons x r ih =>
    have := h x (by simp)
    subst this
    simp only [List.cons_append, firstE, ne_eq, not_true_eq_false, if_false]
    exact ih fun y hy => h y (by simp [hy])
theorem chkS_snoc {W H : Int} {m : List Int} {vt : List V8} {sh pa : List (List In)} {ds : List Dr} {d : Dr} (hW : 1 ≤ W ∧ W ≤ 64) (hH : 1 ≤ H ∧ H ≤ 64) (hv : vt.length ≤ 64) (hd : ds.length ≤ 31) (hs : sh.length ≤ 4) (hp : pa.length ≤ 4) (hn : chkN ⟨W, H, m, vt, sh, pa, ds ++ [d]⟩ = true) (h1 : ∀ p ∈ sh, chk false p = 0) (h2 : ∀ p ∈ pa, chk true p = 0) (h3 : ∀ d ∈ ds, chkD sh.length pa.length vt.length d = 0) :
    chkS ⟨W, H, m, vt, sh, pa, ds ++ [d]⟩ = chkD sh.length pa.length vt.length d := by
  unfold chkS
  rw [if_neg (by simp only; omega), if_neg (by simp only [List.length_append, List.length_cons, List.length_nil]; omega), if_neg (by simp [hn])]
  have e1 : firstE (sh.map (chk false)) = 0 := firstE_all h1
  have e2 : firstE (pa.map (chk true)) = 0 := firstE_all h2
  simp only [firstE, e1, e2, ne_eq, not_true_eq_false, if_false, List.map_append, List.map_cons, List.map_nil]
  rw [firstE_snoc fun y hy => by
    obtain ⟨a, ha, rfl⟩ := List.mem_map.1 hy
    exact h3 a ha]
  split
  · rfl
  · rename_i h
    exact (Classical.not_not.1 h).symm
def fin (k : Bool) (x : Scr) (d : Dr) : Scr := ⟨x.W, x.H, x.m, x.verts, x.sh, x.pa, if k then [] else x.draws ++ [d]⟩
theorem fin_good {x : Scr} (h : SGood x) (d : Dr) : chkS (fin false x d) = chkD x.sh.length x.pa.length x.verts.length d := by
  have hg := chkS_good h.chk
  exact chkS_snoc hg.W hg.H hg.v (by have := h.d; omega) hg.s hg.p (by have := chkN_of h.chk; simpa [chkN] using this) hg.sp hg.pp hg.dd
theorem chkD_1 {ns np nv : Nat} (hs : 1 ≤ ns) (hp : 1 ≤ np) : chkD ns np nv (dW st1 false 0 0 0 []) = 0 := by
  unfold chkD dW
  simp only
  rw [if_neg (by rw [st1_chk]; simp), if_neg (by simp), if_pos (by omega)]
  rfl
theorem fin_W {x : Scr} (h : SGood x) (n : Int) : chkS (fin false ⟨n, x.H, x.m, x.verts, x.sh, x.pa, x.draws⟩ (dW st1 false 0 0 0 [])) = if n < 1 ∨ 64 < n then 6 else 0 := by
  have hg := chkS_good h.chk
  by_cases hn : n < 1 ∨ 64 < n
  · rw [if_pos hn]
    unfold chkS fin
    rw [if_pos (by simp only; omega)]
  · rw [if_neg hn]
    have := chkS_snoc (W := n) (d := dW st1 false 0 0 0 []) (by omega) hg.H hg.v (by have := h.d; omega) hg.s hg.p (by have := chkN_of h.chk; simpa [chkN] using this) hg.sp hg.pp hg.dd
    rw [chkD_1 h.s h.p] at this
    exact this
theorem fin_many {x : Scr} (h : SGood x) (k : Bool) (d : Dr) (vt : List V8) (pa : List (List In)) (hm : 64 < vt.length ∨ 4 < pa.length) : chkS (fin k ⟨x.W, x.H, x.m, vt, x.sh, pa, x.draws⟩ d) = 7 := by
  have hg := chkS_good h.chk
  have h1 := hg.W
  have h2 := hg.H
  unfold chkS fin
  rw [if_neg (by simp only; omega), if_pos (by simp only; omega)]
theorem fin_m {x : Scr} (h : SGood x) (m : List Int) (n : Int) (hm : m.all (inB 2147483647) = inB 2147483647 n) : chkS (fin false ⟨x.W, x.H, m, x.verts, x.sh, x.pa, x.draws⟩ (dW st1 false 0 0 0 [])) = if n < -2147483647 ∨ 2147483647 < n then 2 else 0 := by
  have hg := chkS_good h.chk
  have h0 := chkN_of h.chk
  unfold chkN at h0
  rw [Bool.and_eq_true] at h0
  have h1 := hg.W
  have h2 := hg.H
  have h3 := hg.v
  have h4 := h.d
  have h5 := hg.s
  have h6 := hg.p
  by_cases hn : n < -2147483647 ∨ 2147483647 < n
  · rw [if_pos hn]
    unfold chkS fin
    rw [if_neg (by simp only; omega), if_neg (by simp; omega), if_pos]
    have : inB 2147483647 n = false := by simp [inB]; omega
    simp [chkN, hm, this]
  · rw [if_neg hn]
    have := chkS_snoc (m := m) (d := dW st1 false 0 0 0 []) hg.W hg.H hg.v (by omega) hg.s hg.p (by
      have : inB 2147483647 n = true := by simp [inB]; omega
      simp only [chkN, hm, this, Bool.true_and]
      exact h0.2) hg.sp hg.pp hg.dd
    rw [chkD_1 h.s h.p] at this
    exact this
theorem fin_v {x : Scr} (h : SGood x) (vt : List V8) (n : Int) (hl : vt.length = x.verts.length) (hm : vt.all V8.inB = inB 4194304 n) : chkS (fin false ⟨x.W, x.H, x.m, vt, x.sh, x.pa, x.draws⟩ (dW st1 false 0 0 0 [])) = if n < -4194304 ∨ 4194304 < n then 2 else 0 := by
  have hg := chkS_good h.chk
  have h0 := chkN_of h.chk
  unfold chkN at h0
  rw [Bool.and_eq_true] at h0
  have h1 := hg.W
  have h2 := hg.H
  have h3 := hg.v
  have h4 := h.d
  have h5 := hg.s
  have h6 := hg.p
  have h7 : vt.length ≤ 64 := by omega
  by_cases hn : n < -4194304 ∨ 4194304 < n
  · rw [if_pos hn]
    unfold chkS fin
    rw [if_neg (by simp only; omega), if_neg (by simp; omega), if_pos]
    have : inB 4194304 n = false := by simp [inB]; omega
    simp [chkN, hm, this]
  · rw [if_neg hn]
    have := chkS_snoc (vt := vt) (ds := x.draws) (m := x.m) (sh := x.sh) (pa := x.pa) (d := dW st1 false 0 0 0 []) hg.W hg.H (by omega) (by omega) hg.s hg.p (by
      have : inB 4194304 n = true := by simp [inB]; omega
      simp only [chkN, hm, this, Bool.and_true]
      exact h0.1) hg.sp hg.pp (by rw [hl]; exact hg.dd)
    rw [chkD_1 h.s h.p] at this
    exact this
theorem fin_sh {x : Scr} (h : SGood x) (d : Dr) : chkS (fin true ⟨x.W, x.H, x.m, x.verts, [[⟨13, 0, 0, 0, 0⟩]], x.pa, x.draws⟩ d) = 5 := by
  have hg := chkS_good h.chk
  have h0 := chkN_of h.chk
  have h1 := hg.W
  have h2 := hg.H
  have h3 := hg.v
  have h6 := hg.p
  unfold chkS fin
  rw [if_neg (by simp only; omega), if_neg (by simp; omega), if_neg (by have : chkN x = true := h0; simp only [chkN] at this ⊢; simp [this])]
  have e : chk false [⟨13, 0, 0, 0, 0⟩] = 5 := by decide
  simp [firstE, e]
theorem chkD_st {ns np nv : Nat} {d : Dr} {e : Int} (h : d.st.chk = e) (he : e ≠ 0) : chkD ns np nv d = e := by
  unfold chkD
  rw [if_pos (by rw [h]; exact he), h]
theorem chkD_c {ns np nv : Nat} (n : Int) : chkD ns np nv (dW st1 true n 0 0 []) = if n < 0 ∨ 65535 < n then 2 else 0 := by
  unfold chkD dW chkC
  simp only
  rw [if_neg (by rw [st1_chk]; simp), if_pos trivial]
  by_cases hn : n < 0 ∨ 65535 < n
  · rw [if_pos hn, if_pos (by omega)]
  · rw [if_neg hn, if_neg (by omega)]
theorem chkD_v {ns np nv : Nat} (hp : 1 ≤ np) (n : Int) : chkD ns np nv (dW st1 false 0 n 0 []) = if n < 0 ∨ (ns : Int) ≤ n then 9 else 0 := by
  unfold chkD dW
  simp only
  rw [if_neg (by rw [st1_chk]; simp), if_neg (by simp)]
  by_cases hn : n < 0 ∨ (ns : Int) ≤ n
  · rw [if_pos hn, if_neg (by omega)]
  · rw [if_neg hn, if_pos (by omega)]; rfl
theorem chkD_f {ns np nv : Nat} (hs : 1 ≤ ns) (n : Int) : chkD ns np nv (dW st1 false 0 0 n []) = if n < 0 ∨ (np : Int) ≤ n then 9 else 0 := by
  unfold chkD dW
  simp only
  rw [if_neg (by rw [st1_chk]; simp), if_neg (by simp)]
  by_cases hn : n < 0 ∨ (np : Int) ≤ n
  · rw [if_pos hn, if_neg (by omega)]
  · rw [if_neg hn, if_pos (by omega)]; rfl
theorem chkD_i {ns np nv : Nat} (hs : 1 ≤ ns) (hp : 1 ≤ np) : chkD ns np nv (dW st1 false 0 0 0 [0, 0, (nv : Int)]) = 14 := by
  unfold chkD dW
  simp only
  rw [if_neg (by rw [st1_chk]; simp), if_neg (by simp), if_pos (by omega)]
  unfold chkM
  rw [if_neg (by show ¬ chk0 0 3 ≠ 0; decide), if_neg (by simp [okIdx])]
end Go.Proofs.Ytbbfmlehddfneaa

namespace Go.Proofs.Ytbbfmlehddfneaa
open Go.RowKit
set_option linter.unusedVariables false
/-- draws, in blocks from lo on and below hi -/
def DBh (w : World) (lo hi : Nat) (v : Value) (Ds : List Dr) : Prop := ∃ dms, OwnG LD w lo v dms ∧ DrawsAt w lo dms Ds ∧ (∀ m ∈ dms, ∀ k, m.ix.v.ownBlock = some k → v.ownBlock ≠ some k) ∧ (∀ k, v.ownBlock = some k → k < hi) ∧ ∀ m ∈ dms, ∀ k, m.ix.v.ownBlock = some k → k < hi
theorem DBh.calm {w w' : World} {lo hi : Nat} {v : Value} {Ds : List Dr} {O : List Nat} (h : DBh w lo hi v Ds) (x : Calm O w w') (hO : ∀ b ∈ O, b < lo ∨ hi ≤ b) : DBh w' lo hi v Ds := by
  obtain ⟨dms, h1, h2, h3, h4, h5⟩ := h
  refine ⟨dms, h1.calm x (fun k hk hin => ?_), h2.calm x (fun s hs k hk hin => ?_), h3, h4, h5⟩
  · have a := h4 k hk
    have b := (h1.lt k hk).1
    rcases hO k hin with c | c <;> omega
  · have a := h5 s hs k hk
    have b := (h2.lt s hs k hk).1
    rcases hO k hin with c | c <;> omega
theorem DBh.db {w : World} {lo hi : Nat} {v : Value} {Ds : List Dr} (h : DBh w lo hi v Ds) : DB w lo v Ds := by
  obtain ⟨dms, h1, h2, h3, -⟩ := h
  exact ⟨dms, h1, h2, h3⟩
/-- a script, each part in blocks of its own, all from lo on and below hi -/
structure ScrIn (w : World) (lo hi : Nat) (s : ScrM) (x : Scr) : Prop where
  W : s.W = x.W
  H : s.H = x.H
  m : s.m = x.m
  parts : ∃ h1 l2 h2 l3 h3 l4, VB w lo h1 s.vs.v x.verts ∧ PB w l2 h2 s.sh.v x.sh ∧ PB w l3 h3 s.pa.v x.pa ∧ DBh w l4 hi s.ds.v x.draws ∧ (lo ≤ h1 ∧ h1 ≤ l2 ∧ h1 ≤ l3 ∧ (h2 ≤ l3 ∨ h3 ≤ l2) ∧ h2 ≤ l4 ∧ h3 ≤ l4 ∧ h1 ≤ l4 ∧ l4 ≤ hi)
theorem ScrAt.inn {w : World} {lo : Nat} {s : ScrM} {x : Scr} (h : ScrAt w lo s x) : ScrIn w lo w.heap.size s x := by
  obtain ⟨a, b, c, h1, l2, h2, l3, h3, l4, k1, k2, k3, ⟨dms, d1, d2, d3⟩, n⟩ := h
  exact ⟨a, b, c, h1, l2, h2, l3, h3, l4, k1, k2, k3, ⟨dms, d1, d2, d3, fun k hk => (d1.lt k hk).2, fun m hm k hk => (d2.lt m hm k hk).2⟩, n⟩
theorem ScrIn.calm {w w' : World} {lo hi : Nat} {s : ScrM} {x : Scr} {O : List Nat} (h : ScrIn w lo hi s x) (c : Calm O w w') (hO : ∀ b ∈ O, b < lo ∨ hi ≤ b) : ScrIn w' lo hi s x := by
  obtain ⟨e1, e2, e3, h1, l2, h2, l3, h3, l4, k1, k2, k3, k4, n1, n2, n3, n4, n5, n6, n7, n8⟩ := h
  refine ⟨e1, e2, e3, h1, l2, h2, l3, h3, l4, k1.calm c (fun b hb => ?_), k2.calm c (fun b hb => ?_), k3.calm c (fun b hb => ?_), k4.calm c (fun b hb => ?_), n1, n2, n3, n4, n5, n6, n7, n8⟩
  all_goals (rcases hO b hb with g | g <;> first | (left; omega) | (right; omega))
theorem ScrIn.ext {w w' : World} {lo hi : Nat} {s : ScrM} {x : Scr} (h : ScrIn w lo hi s x) (e : Ext w w') : ScrIn w' lo hi s x := h.calm (e.calm []) (fun b hb => by simp at hb)
theorem ScrIn.rd {w : World} {lo hi : Nat} {s : ScrM} {x : Scr} (h : ScrIn w lo hi s x) (hy : ∀ d ∈ x.draws, ∀ y ∈ d.idx, (Lit.int .i64 y).wf = true) : ScrR w s x := by
  obtain ⟨a, b, c, h1, l2, h2, l3, h3, l4, k1, k2, k3, k4, -⟩ := h
  exact ⟨a, b, c, k1.1.parr, k2.rd, k3.rd, k4.db.rd hy⟩
theorem ScrM.ones' (m : ScrM) : m.l.toArray.all (·.oneCell') = true := by
  simp only [List.all_toArray, List.all_eq_true]
  intro u hu
  simp [ScrM.l] at hu
  rcases hu with rfl | rfl | ⟨y, _, rfl⟩ | rfl | rfl | rfl | rfl <;> rfl
end Go.Proofs.Ytbbfmlehddfneaa

namespace Go.Proofs.Ytbbfmlehddfneaa
open Go.RowKit
set_option linter.unusedVariables false
theorem make_g {α : Type} (L : Lay α) (n : Nat) (hn : n ≤ 1000) (w : World) :
    (Instr.makeSlice L.st (.int .i64 (n : Int)) (.int .i64 (n : Int))).run Try.prog w = .ok (.slice (some ⟨w.heap.size, 0, none⟩) n n) (w.alloc (.cells (madeCells L.zero.cells (n * L.n)) L.et)) := by
  obtain ⟨i, hi, hz, h1, h2⟩ := info_parts L.info
  have hs := L.small
  have := run_make (P := Try.prog) w L.st L.et i L.zero L.und hi hz .i64 .i64 n n (by omega) (by omega) (by rw [h2]; have h3 : (L.bytes : Int) * (n : Int) ≤ 4000 * 1000 := Int.mul_le_mul (by omega) (by omega) (by omega) (by omega); omega) (by omega)
  rw [this, h1]
  simp
theorem flat_zeros {α : Type} (L : Lay α) (z0 : α) (hz : L.cells z0 = L.zero.cells.toList) (n : Nat) : (madeCells L.zero.cells (n * L.n)).toList = L.flat (List.replicate n z0) := by
  have hp := L.pos
  apply List.ext_getElem?
  intro j
  by_cases hj : j < n * L.n
  · have h1 : (List.replicate n z0)[j / L.n]? = some z0 := by
      rw [List.getElem?_replicate, if_pos ((Nat.div_lt_iff_lt_mul hp).2 hj)]
    have hm := Nat.mod_lt j hp
    have h2 := L.flat_get h1 (j % L.n) hm
    rw [Nat.div_add_mod' j L.n] at h2
    rw [h2, hz]
    have hsz : L.zero.cells.size = L.n := L.zcells
    simp [madeCells, hj, hsz, hm]
  · rw [List.getElem?_eq_none (by rw [Array.length_toList, size_madeCells]; omega), List.getElem?_eq_none (by rw [L.flat_length, List.length_replicate]; omega)]
theorem own_made_g {α : Type} (L : Lay α) (z0 : α) (hz : L.cells z0 = L.zero.cells.toList) (n : Nat) (hn : n ≤ 1000) (w : World) : OwnG L (w.alloc (.cells (madeCells L.zero.cells (n * L.n)) L.et)) w.heap.size (.slice (some ⟨w.heap.size, 0, none⟩) n n) (List.replicate n z0) := by
  unfold OwnG
  have := World.ownsRow_lit (base := w.heap.size) (e := L.et) (size := L.n) w (madeCells L.zero.cells (n * L.n)) n (Nat.le_refl _) (by simp only [maxLen]; omega) (by rw [size_madeCells])
  rw [flat_zeros L z0 hz] at this
  rw [List.length_replicate]
  exact this
theorem PArr.nil (w : World) : PArr w (.slice none 0 0) [] := ⟨none, 0, rfl, fun h => absurd rfl h⟩
theorem Arr.nilI (w : World) : Arr w .i64 (.slice none 0 0) [] := ⟨⟨none, 0, rfl, Nat.le_refl _, fun h => absurd rfl h, fun _ => rfl⟩, by simp [maxLen], fun y hy => by cases hy⟩
/-- what is known behind the switch, whatever else turns in the blocks O -/
structure ChkR (w : World) (O : List Nat) (m : ScrM) (x : Scr) (dm : DrM) (d : Dr) : Prop where
  W : m.W = x.W
  H : m.H = x.H
  mt : m.m = x.m
  keep : ∀ u, Calm O w u → PArrG LV u m.vs.v x.verts ∧ PRd u m.sh.v x.sh ∧ PRd u m.pa.v x.pa ∧ Arr u .i64 dm.ix.v d.idx
  is : dm.is d
  fit : x.fit
  dfit : d.fit
/-- a new block is none of the old ones -/
theorem OwnG.keep {α : Type} {L : Lay α} {w u : World} {base : Nat} {v : Value} {l : List α} {O : List Nat} (h : OwnG L w base v l) (hO : ∀ b ∈ O, b < base) (c : Calm O w u) : OwnG L u base v l := h.calm c (fun k hk hin => by
  have h1 := (h.lt k hk).1
  have h2 := hO k hin
  omega)
end Go.Proofs.Ytbbfmlehddfneaa

