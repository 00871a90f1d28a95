/-
  DERIVED. Layer 11: a script where it lies, each part in blocks of its own; the law's script in plain numbers (made by mkscr2.py). · Layer 11 (script): what Check asks, in plain numbers; a script that can be read.
-/
import Derived.Test.YtbbfmlehddfneaaPkPart
import Derived.Test.YtbbfmlehddfneaaPkScrB
import Derived.Test.YtbbfmlehddfneaaPkMesh
namespace Go.Proofs.Ytbbfmlehddfneaa
open Go.RowKit
set_option linter.unusedVariables false
/-- a script, as it lies: its slices are somewhere -/
structure ScrM where
  W : Int
  H : Int
  m : List Int
  vs : SlV
  sh : SlV
  pa : SlV
  ds : SlV
abbrev ScrM.l (s : ScrM) : List Value := .int .i64 s.W :: .int .i64 s.H :: (s.m.map (Value.int .i64) ++ [s.vs.v, s.sh.v, s.pa.v, s.ds.v])
/-- vertices, in a block from lo on and below hi -/
def VB (w : World) (lo hi : Nat) (v : Value) (l : List V8) : Prop := OwnG LV w lo v l ∧ ∀ k, v.ownBlock = some k → k < hi
theorem VB.calm {w w' : World} {lo hi : Nat} {v : Value} {l : List V8} {O : List Nat} (h : VB w lo hi v l) (x : Calm O w w') (hO : ∀ b ∈ O, b < lo ∨ hi ≤ b) : VB w' lo hi v l :=
  ⟨h.1.calm x (fun k hk hin => by have a := h.2 k hk; have b := (h.1.lt k hk).1; rcases hO k hin with c | c <;> omega), h.2⟩
theorem VB.ext {w w' : World} {lo hi : Nat} {v : Value} {l : List V8} (h : VB w lo hi v l) (x : Ext w w') : VB w' lo hi v l := h.calm (x.calm []) (fun b hb => by simp at hb)
/-- draws, in blocks from lo on -/
def DB (w : World) (lo : Nat) (v : Value) (Ds : List Dr) : Prop := ∃ dms, OwnG LD w lo v dms ∧ DrawsAt w lo dms Ds ∧ ∀ m ∈ dms, ∀ k, m.ix.v.ownBlock = some k → v.ownBlock ≠ some k
theorem DB.calm {w w' : World} {lo : Nat} {v : Value} {Ds : List Dr} {O : List Nat} (h : DB w lo v Ds) (x : Calm O w w') (hO : ∀ b ∈ O, b < lo ∨ w.heap.size ≤ b) : DB w' lo v Ds := by
  obtain ⟨dms, h1, h2, h3⟩ := h
  refine ⟨dms, h1.calm x (fun k hk hin => ?_), h2.calm x (fun s hs k hk hin => ?_), h3⟩
  · have a := h1.lt k hk
    rcases hO k hin with c | c <;> omega
  · have a := h2.lt s hs k hk
    rcases hO k hin with c | c <;> omega
theorem DB.ext {w w' : World} {lo : Nat} {v : Value} {Ds : List Dr} (h : DB w lo v Ds) (x : Ext w w') : DB w' lo v Ds := h.calm (x.calm []) (fun b hb => by simp at hb)
/-- a script, each part in blocks of its own -/
structure ScrAt (w : World) (lo : Nat) (s : ScrM) (x : Scr) : Prop where
  W : s.W = x.W
  H : s.H = x.H
  m : s.m = x.m
  parts : ∃ h1 l2 h2 l3 h3 l4, VB w lo h1 s.vs.v x.verts ∧ PB w l2 h2 s.sh.v x.sh ∧ PB w l3 h3 s.pa.v x.pa ∧ DB w l4 s.ds.v x.draws ∧ (lo ≤ h1 ∧ h1 ≤ l2 ∧ h1 ≤ l3 ∧ (h2 ≤ l3 ∨ h3 ≤ l2) ∧ h2 ≤ l4 ∧ h3 ≤ l4 ∧ h1 ≤ l4 ∧ l4 ≤ w.heap.size)
theorem ScrAt.ext {w w' : World} {lo : Nat} {s : ScrM} {x : Scr} (h : ScrAt w lo s x) (e : Ext w w') : ScrAt w' lo s x := by
  obtain ⟨a, b, c, h1, l2, h2, l3, h3, l4, k1, k2, k3, k4, n1, n2, n3, n4, n5, n6, n6', n7⟩ := h
  have := e.size
  exact ⟨a, b, c, h1, l2, h2, l3, h3, l4, k1.ext e, k2.ext e, k3.ext e, k4.ext e, n1, n2, n3, n4, n5, n6, n6', by omega⟩
def scriptF (s : SScr) (vs : List VSm) (Ls Lp : List (List Sm)) (ds : List DSm) (LX : List (List Int)) : Scr :=
  ⟨1 + s.wd % 24, 1 + s.ht % 24, [65536, s.t0, 0, 0, 0, 65536, s.t1, 0, 0, 0, 65536, s.t2, s.t3, 0, 0, 65536], pad3 ((vs.take 12).map vxF), progsF false Ls, progsF true Lp,
    (drawsF ds LX (pad3 ((vs.take 12).map vxF)).length (progsF false Ls).length (progsF true Lp).length).take 5⟩
theorem PB.len {w : World} {lo hi n c : Nat} {ao : Option Addr} {P : List (List In)} (h : PB w lo hi (.slice ao n c) P) : n = P.length := by
  obtain ⟨svs, k1, k2, _⟩ := h
  obtain ⟨_, _, e, -, -⟩ := k1.slice
  cases e
  exact k2.1
theorem drawsF_stay {ds : List DSm} {LX : List (List Int)} {nv ns np j : Nat} (h5 : ¬ j < 5) : ((drawsF ds LX nv ns np).take 5).take (j + 1) = ((drawsF ds LX nv ns np).take 5).take j := by
  rw [List.take_take, List.take_take, show min (j + 1) 5 = 5 by omega, show min j 5 = 5 by omega]
end Go.Proofs.Ytbbfmlehddfneaa

namespace Go.Proofs.Ytbbfmlehddfneaa
open Go.RowKit
set_option linter.unusedVariables false

def inB (n y : Int) : Bool := decide (-n ≤ y) && decide (y ≤ n)
/-- the first that is not nought -/
def firstE : List Int → Int
  | [] => 0
  | e :: r => if e ≠ 0 then e else firstE r
theorem firstE_zero {l : List Int} : firstE l = 0 ↔ ∀ e ∈ l, e = 0 := by
  induction l with
  | nil => simp [firstE]
  | cons e r ih =>
    unfold firstE
    by_cases h : e = 0
    · simp [h, ih]
    · simp [h]
theorem firstE_at {l : List Int} {j : Nat} {e : Int} (h : firstE (l.take j) = 0) (he : l[j]? = some e) (hn : e ≠ 0) : firstE l = e := by
  induction l generalizing j with
  | nil => simp at he
  | cons x r ih =>
    cases j with
    | zero =>
      simp at he
      subst he
      simp [firstE, hn]
    | succ j =>
      simp only [List.take_succ_cons] at h
      have hx : x = 0 := firstE_zero.1 h x (by simp)
      subst hx
      simp only [firstE, ne_eq, not_true_eq_false, if_false] at h ⊢
      exact ih h (by simpa using he)
theorem firstE_next {l : List Int} {j : Nat} (h : firstE (l.take j) = 0) (he : l[j]? = some 0) : firstE (l.take (j + 1)) = 0 := by
  rw [firstE_zero] at h ⊢
  intro e hm
  rw [List.take_add_one, he] at hm
  simp at hm
  rcases hm with hm | hm
  · exact h e hm
  · exact hm
def V8.inB (v : V8) : Bool := [v.p0, v.p1, v.p2, v.p3].all (Proofs.Ytbbfmlehddfneaa.inB 4194304) && [v.c0, v.c1, v.c2, v.c3].all (Proofs.Ytbbfmlehddfneaa.inB 4194304)
def chkC (c : Clr) : Int := if c.dep < 0 ∨ 65535 < c.dep ∨ 7 < c.want then 2 else 0
def chkD (ns np nv : Nat) (d : Dr) : Int :=
  if d.st.chk ≠ 0 then d.st.chk else if d.clears then chkC d.cl else if (0 ≤ d.vx ∧ d.vx < ns) ∧ (0 ≤ d.fr ∧ d.fr < np) then chkM d.kind d.idx nv else 9
def chkN (x : Scr) : Bool := x.m.all (inB 2147483647) && x.verts.all V8.inB
def chkS (x : Scr) : Int :=
  if ¬ ((1 ≤ x.W ∧ x.W ≤ 64) ∧ (1 ≤ x.H ∧ x.H ≤ 64)) then 6
  else if 64 < x.verts.length ∨ 32 < x.draws.length ∨ 4 < x.sh.length ∨ 4 < x.pa.length then 7
  else if chkN x = false then 2
  else firstE [firstE (x.sh.map (chk false)), firstE (x.pa.map (chk true)), firstE (x.draws.map (chkD x.sh.length x.pa.length x.verts.length))]
def I64 (n : Int) : Prop := -9223372036854775808 ≤ n ∧ n ≤ 9223372036854775807
def V8.fit (v : V8) : Prop := (I64 v.p0 ∧ I64 v.p1 ∧ I64 v.p2 ∧ I64 v.p3) ∧ (I64 v.c0 ∧ I64 v.c1 ∧ I64 v.c2 ∧ I64 v.c3)
def Clr.byt (c : Clr) : Prop := (0 ≤ c.r ∧ c.r ≤ 255) ∧ (0 ≤ c.g ∧ c.g ≤ 255) ∧ (0 ≤ c.b ∧ c.b ≤ 255) ∧ (0 ≤ c.a ∧ c.a ≤ 255) ∧ (0 ≤ c.sten ∧ c.sten ≤ 255) ∧ (0 ≤ c.want ∧ c.want ≤ 255)
structure Dr.fit (d : Dr) : Prop where
  st : d.st.byt
  cl : d.cl.byt
  dep : I64 d.cl.dep
  vx : I64 d.vx
  fr : I64 d.fr
  kind : 0 ≤ d.kind ∧ d.kind ≤ 255
  most : d.idx.length ≤ 1000000
/-- numbers of their types, lengths of this world -/
structure Scr.fit (x : Scr) : Prop where
  W : I64 x.W
  H : I64 x.H
  m16 : x.m.length = 16
  m : ∀ y ∈ x.m, I64 y
  v : ∀ v ∈ x.verts, v.fit
  vl : x.verts.length ≤ 1000000
  s : ∀ p ∈ x.sh, p.length ≤ 1000000 ∧ ∀ i ∈ p, i.ok
  sl : x.sh.length ≤ 1000000
  p : ∀ p ∈ x.pa, p.length ≤ 1000000 ∧ ∀ i ∈ p, i.ok
  pl : x.pa.length ≤ 1000000
  d : ∀ d ∈ x.draws, d.fit
  dl : x.draws.length ≤ 1000000
/-- programs that can be read -/
def PRd (w : World) (v : Value) (P : List (List In)) : Prop := ∃ svs, PArrG LP w v svs ∧ svs.length = P.length ∧ ∀ (i : Nat) (s : SlV), svs[i]? = some s → ∃ xs, P[i]? = some xs ∧ PArr w s.v xs ∧ ∀ k, s.v.ownBlock = some k → k < w.heap.size
theorem PRd.ext {w w' : World} {v : Value} {P : List (List In)} (h : PRd w v P) (x : Ext w w') : PRd w' v P := by
  obtain ⟨svs, h1, h2, h3⟩ := h
  exact ⟨svs, h1.ext x, h2, fun i s hs => by obtain ⟨xs, e1, e2, e3⟩ := h3 i s hs; exact ⟨xs, e1, e2.ext x, fun k hk => Nat.lt_of_lt_of_le (e3 k hk) x.size⟩⟩
theorem PB.rd {w : World} {lo hi : Nat} {v : Value} {P : List (List In)} (h : PB w lo hi v P) : PRd w v P := by
  obtain ⟨svs, h1, h2, -, -, -⟩ := h
  exact ⟨svs, h1.parr, h2.1, fun i s hs => by obtain ⟨xs, e1, e2⟩ := h2.2 i s hs; exact ⟨xs, e1, e2.parr, fun k hk => (e2.lt k hk).2⟩⟩
/-- draws that can be read -/
def DRd (w : World) (v : Value) (Ds : List Dr) : Prop := ∃ dms, PArrG LD w v dms ∧ dms.length = Ds.length ∧ ∀ (i : Nat) (m : DrM), dms[i]? = some m → ∃ d, Ds[i]? = some d ∧ m.is d ∧ Arr w .i64 m.ix.v d.idx
theorem DRd.ext {w w' : World} {v : Value} {Ds : List Dr} (h : DRd w v Ds) (x : Ext w w') : DRd w' v Ds := by
  obtain ⟨dms, h1, h2, h3⟩ := h
  exact ⟨dms, h1.ext x, h2, fun i m hm => by obtain ⟨d, e1, e2, e3⟩ := h3 i m hm; exact ⟨d, e1, e2, e3.ext x⟩⟩
theorem DB.rd {w : World} {lo : Nat} {v : Value} {Ds : List Dr} (h : DB w lo v Ds) (hy : ∀ d ∈ Ds, ∀ y ∈ d.idx, (Lit.int .i64 y).wf = true) : DRd w v Ds := by
  obtain ⟨dms, h1, h2, -⟩ := h
  exact ⟨dms, h1.parr, h2.1, fun i m hm => by obtain ⟨d, e1, e2, e3⟩ := h2.2 i m hm; exact ⟨d, e1, e2, e3.arr (hy d (List.mem_of_getElem? e1))⟩⟩
/-- a script that can be read -/
structure ScrR (w : World) (s : ScrM) (x : Scr) : Prop where
  W : s.W = x.W
  H : s.H = x.H
  m : s.m = x.m
  vr : PArrG LV w s.vs.v x.verts
  sr : PRd w s.sh.v x.sh
  pr : PRd w s.pa.v x.pa
  dr : DRd w s.ds.v x.draws
theorem ScrR.ext {w w' : World} {s : ScrM} {x : Scr} (h : ScrR w s x) (e : Ext w w') : ScrR w' s x := ⟨h.W, h.H, h.m, h.vr.ext e, h.sr.ext e, h.pr.ext e, h.dr.ext e⟩
theorem ScrAt.rd {w : World} {lo : Nat} {s : ScrM} {x : Scr} (h : ScrAt w lo s x) (hy : ∀ d ∈ x.draws, ∀ y ∈ d.idx, (Lit.int .i64 y).wf = true) : ScrR w s x := by
  obtain ⟨a, b, c, h1, l2, h2, l3, h3, l4, k1, k2, k3, k4, -⟩ := h
  exact ⟨a, b, c, k1.1.parr, k2.rd, k3.rd, k4.rd hy⟩
theorem sixteen : ∀ l : List Int, l.length = 16 → ∃ b0 b1 b2 b3 b4 b5 b6 b7 b8 b9 b10 b11 b12 b13 b14 b15, l = [b0, b1, b2, b3, b4, b5, b6, b7, b8, b9, b10, b11, b12, b13, b14, b15]
  | [b0, b1, b2, b3, b4, b5, b6, b7, b8, b9, b10, b11, b12, b13, b14, b15], _ => ⟨b0, b1, b2, b3, b4, b5, b6, b7, b8, b9, b10, b11, b12, b13, b14, b15, rfl⟩
theorem PRd.slice {w : World} {v : Value} {P : List (List In)} (h : PRd w v P) : ∃ ao c, v = .slice ao P.length c := by
  obtain ⟨svs, h1, h2, -⟩ := h
  obtain ⟨ao, c, e, -⟩ := h1.slice
  exact ⟨ao, c, by rw [e, h2]⟩
theorem DRd.slice {w : World} {v : Value} {P : List Dr} (h : DRd w v P) : ∃ ao c, v = .slice ao P.length c := by
  obtain ⟨svs, h1, h2, -⟩ := h
  obtain ⟨ao, c, e, -⟩ := h1.slice
  exact ⟨ao, c, by rw [e, h2]⟩
end Go.Proofs.Ytbbfmlehddfneaa

