/-
  DERIVED. ref12's Inside, cross (made by mkrefclip.py). · ref12's cross (made by mkrefclip.py). · ref12's Clip: a round (made by mkrefclip.py). · ref12's Clip (made by mkrefclip.py). · Layer 12 (clip) in plain numbers, whatever the vertices: what is limited first; that it is the same where nothing is beyond the limits.
-/
import Derived.Test.YtglehnmkdapnpaaPkVx
import Derived.Test.YtglehnmkdapnpaaPkGs
import Derived.Test.YtglehnmkdapnpaaPkFix
import Derived.Deep.DeepCutAuto
import Derived.Lib.Hide
import Derived.Deep.LoopGhost
namespace Go.Proofs.Ytglehnmkdapnpaa
open Go.RowKit
set_option linter.unusedVariables false
theorem calm_put (w : World) (b o : Nat) (u : Value) : Calm [b] w (w.setCell ⟨b, o, none⟩ u) :=
  ⟨rfl, rfl, rfl, by simp, fun k hk hO => Below.heap_setCell _ _ _ _ (fun e => hO (by simp [e]))⟩
theorem Calm.wide {O O' : List Nat} {w w' : World} (h : Calm O w w') (hs : ∀ b ∈ O, b ∈ O') : Calm O' w w' := ⟨h.os, h.tape, h.output, h.size, fun k hk hn => h.block k hk (fun hin => hn (hs k hin))⟩
end Go.Proofs.Ytglehnmkdapnpaa

namespace Go.Proofs.Ytglehnmkdapnpaa
open Go.RowKit
set_option linter.unusedVariables false
end Go.Proofs.Ytglehnmkdapnpaa

namespace Go.Proofs.Ytglehnmkdapnpaa
open Go.RowKit
set_option linter.unusedVariables false
end Go.Proofs.Ytglehnmkdapnpaa

namespace Go.Proofs.Ytglehnmkdapnpaa
open Go.RowKit
set_option linter.unusedVariables false
def capV (v : V8) : V8 := ⟨v.p0, v.p1, v.p2, max v.p3 256, v.c0, v.c1, v.c2, v.c3⟩
def endF (l : List V8) : List V8 := if l.length < 3 ∨ 16 < l.length then [] else l.map capV
def capsF (l : List V8) (j : Nat) : List V8 := (l.take j).map capV ++ l.drop j
theorem capsF_len (l : List V8) (j : Nat) : (capsF l j).length = l.length := by
  simp [capsF]
  omega
theorem capsF_all (l : List V8) : capsF l l.length = l.map capV := by simp [capsF]
theorem capsF_at (l : List V8) (j : Nat) (hj : j < l.length) : (capsF l j)[j]? = l[j]? := by
  unfold capsF
  rw [List.getElem?_append_right (by simp; omega)]
  simp
  congr 1
  omega
theorem capsF_succ (l : List V8) (j : Nat) (hj : j < l.length) : capsF l (j + 1) = (capsF l j).set j (capV (l[j]?.getD z8)) := by
  have e1 : l.take (j + 1) = l.take j ++ [l[j]] := by rw [List.take_add_one]; simp [hj]
  have e2 : l.drop j = l[j] :: l.drop (j + 1) := List.drop_eq_getElem_cons hj
  have e3 : l[j]?.getD z8 = l[j] := by simp [hj]
  unfold capsF
  rw [e1, e2, e3, List.set_append_right _ _ (by simp; omega)]
  have : j - (List.map capV (List.take j l)).length = 0 := by simp; omega
  rw [this, List.set_cons_zero, List.map_append, List.append_assoc]
  rfl
theorem set_same {α : Type} {l : List α} {j : Nat} {x : α} (h : l[j]? = some x) : l.set j x = l := by
  apply List.ext_getElem?
  intro i
  rw [List.getElem?_set]
  split
  · rename_i e; subst e
    split
    · exact h.symm
    · rename_i g; rw [List.getElem?_eq_none (by omega)]
  · rfl
theorem flat_set {α : Type} (L : Lay α) {x x' : α} : ∀ {l : List α} {j : Nat}, l[j]? = some x → ∀ (i : Nat) (u : Value), L.cells x' = (L.cells x).set i u → i < L.n → L.flat (l.set j x') = (L.flat l).set (j * L.n + i) u := by
  intro l
  induction l with
  | nil => intro j h; simp at h
  | cons a r ih =>
    intro j h i u hc hi
    have hla := L.len a
    cases j with
    | zero =>
      simp at h
      subst h
      show L.cells x' ++ L.flat r = (L.cells a ++ L.flat r).set (0 * L.n + i) u
      rw [Nat.zero_mul, Nat.zero_add, hc, List.set_append_left _ _ (by omega)]
    | succ j =>
      simp at h
      have := ih h i u hc hi
      show L.cells a ++ L.flat (r.set j x') = (L.cells a ++ L.flat r).set ((j + 1) * L.n + i) u
      rw [this, List.set_append_right _ _ (by rw [hla, Nat.succ_mul]; omega)]
      congr 2
      rw [hla, Nat.succ_mul]
      omega
def V8.fine (v : V8) : Prop := v.inP ∧ v.inC (-4194304) 4194304
theorem planesF_fine {l : List V8} (h : ∀ x ∈ l, V8.fine x) (n : Nat) : ∀ x ∈ planesF l n, V8.fine x := planesF_all h (fun k a b ha hb h0 h1 => ⟨cutF_in ha.1 hb.1 h0 h1, cutF_inC ha.2 hb.2 h0 h1⟩) n
theorem planesF_len7 {l : List V8} (h : l.length ≤ 3) {n : Nat} (hn : n ≤ 7) : (planesF l n).length ≤ 384 := by
  have h1 := planesF_len l n
  have h2 : 2 ^ n ≤ 2 ^ 7 := Nat.pow_le_pow_right (by decide) hn
  have h3 : l.length * 2 ^ n ≤ 3 * 2 ^ 7 := Nat.mul_le_mul h h2
  omega
end Go.Proofs.Ytglehnmkdapnpaa

namespace Go.Proofs.Ytglehnmkdapnpaa
set_option linter.unusedVariables false
def lim4 (n : Int) : Int := max (-4194304) (min n 4194304)
def limC (n : Int) : Int := max 0 (min n 65536)
def V8.lim (v : V8) : V8 := ⟨lim4 v.p0, lim4 v.p1, lim4 v.p2, lim4 v.p3, lim4 v.c0, lim4 v.c1, lim4 v.c2, lim4 v.c3⟩
def V8.fin (v : V8) : V8 := ⟨lim4 v.p0, lim4 v.p1, lim4 v.p2, max (lim4 v.p3) 256, limC v.c0, limC v.c1, limC v.c2, limC v.c3⟩
abbrev I64 (n : Int) : Prop := -9223372036854775808 ≤ n ∧ n ≤ 9223372036854775807
def V8.in64 (v : V8) : Prop := I64 v.p0 ∧ I64 v.p1 ∧ I64 v.p2 ∧ I64 v.p3 ∧ I64 v.c0 ∧ I64 v.c1 ∧ I64 v.c2 ∧ I64 v.c3
/-- how far a vertex is on the right side of a plane, whatever its number -/
def insZ (v : V8) (k : Int) : Int := if 0 ≤ k then insF v.lim k.toNat else 0
def gcut (v w : V8) (k : Nat) : V8 := cutF v.lim w.lim k
/-- Cross, whatever the vertices -/
def crossZ (v w : V8) (k : Nat) : V8 := if insF v.lim k < 0 ∨ 0 ≤ insF w.lim k then v else gcut v w k
def gemit (k : Nat) (v w : V8) : List V8 :=
  (if 0 ≤ insF v.lim k then [v] else []) ++ (if 0 ≤ insF v.lim k ∧ insF w.lim k < 0 then [gcut v w k] else []) ++ (if 0 ≤ insF w.lim k ∧ insF v.lim k < 0 then [gcut w v k] else [])
def gpart (k : Nat) (l : List V8) (i : Nat) : List V8 := ((List.range i).map fun j => gemit k (l.getD j z8) (l.getD ((j + 1) % l.length) z8)).flatten
def gstep (k : Nat) (l : List V8) : List V8 := gpart k l l.length
def gplanes (l : List V8) : Nat → List V8
  | 0 => l
  | n + 1 => gstep n (gplanes l n)
def gend (l : List V8) : List V8 := if l.length < 3 ∨ 16 < l.length then [] else l.map V8.fin

theorem lim4_bd (n : Int) : -4194304 ≤ lim4 n ∧ lim4 n ≤ 4194304 := by unfold lim4; omega
theorem lim4_id {n : Int} (h : -4194304 ≤ n ∧ n ≤ 4194304) : lim4 n = n := by unfold lim4; omega
theorem V8.lim_fine (v : V8) : v.lim.fine := ⟨⟨lim4_bd _, lim4_bd _, lim4_bd _, lim4_bd _⟩, ⟨lim4_bd _, lim4_bd _, lim4_bd _, lim4_bd _⟩⟩
theorem V8.lim_id {v : V8} (h : v.fine) : v.lim = v := by
  obtain ⟨⟨h0, h1, h2, h3⟩, ⟨h4, h5, h6, h7⟩⟩ := h
  unfold V8.lim
  rw [lim4_id h0, lim4_id h1, lim4_id h2, lim4_id h3, lim4_id h4, lim4_id h5, lim4_id h6, lim4_id h7]
theorem V8.fine.in64 {v : V8} (h : v.fine) : v.in64 := by
  obtain ⟨⟨h0, h1, h2, h3⟩, ⟨h4, h5, h6, h7⟩⟩ := h
  refine ⟨?_, ?_, ?_, ?_, ?_, ?_, ?_, ?_⟩ <;> (unfold I64; omega)
theorem gcut_fine {v w : V8} {k : Nat} (h0 : 0 ≤ insF v.lim k) (h1 : insF w.lim k < 0) : (gcut v w k).fine :=
  ⟨cutF_in v.lim_fine.1 w.lim_fine.1 h0 h1, cutF_inC v.lim_fine.2 w.lim_fine.2 h0 h1⟩
theorem gcut_eq {v w : V8} (hv : v.fine) (hw : w.fine) (k : Nat) : gcut v w k = cutF v w k := by
  unfold gcut
  rw [V8.lim_id hv, V8.lim_id hw]
theorem gemit_eq {k : Nat} {v w : V8} (hv : v.fine) (hw : w.fine) : gemit k v w = emitF k v w := by
  unfold gemit emitF
  rw [V8.lim_id hv, V8.lim_id hw, gcut_eq hv hw, gcut_eq hw hv]
theorem gpart_zero (k : Nat) (l : List V8) : gpart k l 0 = [] := rfl
theorem gpart_succ (k : Nat) (l : List V8) (i : Nat) : gpart k l (i + 1) = gpart k l i ++ gemit k (l.getD i z8) (l.getD ((i + 1) % l.length) z8) := by
  simp [gpart, List.range_succ]
theorem gpart_eq {k : Nat} {l : List V8} (h : ∀ x ∈ l, V8.fine x) : ∀ i, i ≤ l.length → gpart k l i = partF k l i := by
  intro i
  induction i with
  | zero => intro _; rfl
  | succ i ih =>
    intro hi
    rw [gpart_succ, partF_succ, ih (by omega), gemit_eq (getD_all h (by omega)) (getD_all h (Nat.mod_lt _ (by omega)))]
theorem gplanes_eq {l : List V8} (h : ∀ x ∈ l, V8.fine x) (n : Nat) : gplanes l n = planesF l n := by
  induction n with
  | zero => rfl
  | succ n ih =>
    show gstep n (gplanes l n) = stepF n (planesF l n)
    rw [ih]
    exact gpart_eq (planesF_fine h n) _ (Nat.le_refl _)
theorem gemit_len (k : Nat) (v w : V8) : (gemit k v w).length ≤ 2 := by
  unfold gemit
  by_cases h1 : 0 ≤ insF v.lim k <;> by_cases h2 : 0 ≤ insF w.lim k
  · rw [if_pos h1, if_neg (by omega), if_neg (by omega)]; simp
  · rw [if_pos h1, if_pos (by omega), if_neg (by omega)]; simp
  · rw [if_neg h1, if_neg (by omega), if_pos (by omega)]; simp
  · rw [if_neg h1, if_neg (by omega), if_neg (by omega)]; simp
theorem gpart_len (k : Nat) (l : List V8) (i : Nat) : (gpart k l i).length ≤ 2 * i := by
  induction i with
  | zero => simp [gpart_zero]
  | succ i ih =>
    rw [gpart_succ, List.length_append]
    have := gemit_len k (l.getD i z8) (l.getD ((i + 1) % l.length) z8)
    omega
theorem gplanes_len (l : List V8) (n : Nat) : (gplanes l n).length ≤ l.length * 2 ^ n := by
  induction n with
  | zero => simp [gplanes]
  | succ n ih =>
    have h := gpart_len n (gplanes l n) (gplanes l n).length
    show (gpart n (gplanes l n) (gplanes l n).length).length ≤ _
    rw [Nat.pow_succ, ← Nat.mul_assoc]
    omega
theorem gplanes_len7 {l : List V8} (h : l.length ≤ 3) {n : Nat} (hn : n ≤ 7) : (gplanes l n).length ≤ 384 := by
  have h1 := gplanes_len l n
  have h2 : 2 ^ n ≤ 2 ^ 7 := Nat.pow_le_pow_right (by decide) hn
  have h3 : l.length * 2 ^ n ≤ 3 * 2 ^ 7 := Nat.mul_le_mul h h2
  omega
theorem gemit_in64 {k : Nat} {v w : V8} (hv : v.in64) (hw : w.in64) : ∀ x ∈ gemit k v w, V8.in64 x := by
  intro x hx
  unfold gemit at hx
  simp only [List.mem_append] at hx
  rcases hx with (hx | hx) | hx
  · split at hx
    · rw [List.mem_singleton.1 hx]; exact hv
    · cases hx
  · split at hx
    · rename_i h; rw [List.mem_singleton.1 hx]; exact (gcut_fine h.1 h.2).in64
    · cases hx
  · split at hx
    · rename_i h; rw [List.mem_singleton.1 hx]; exact (gcut_fine h.1 h.2).in64
    · cases hx
theorem gpart_in64 {k : Nat} {l : List V8} (h : ∀ x ∈ l, V8.in64 x) : ∀ i, i ≤ l.length → ∀ x ∈ gpart k l i, V8.in64 x := by
  intro i
  induction i with
  | zero => intro _ x hx; simp [gpart_zero] at hx
  | succ i ih =>
    intro hi x hx
    rw [gpart_succ] at hx
    rcases List.mem_append.1 hx with hx | hx
    · exact ih (by omega) x hx
    · exact gemit_in64 (getD_all h (by omega)) (getD_all h (Nat.mod_lt _ (by omega))) x hx
theorem gplanes_in64 {l : List V8} (h : ∀ x ∈ l, V8.in64 x) : ∀ n, ∀ x ∈ gplanes l n, V8.in64 x := by
  intro n
  induction n with
  | zero => exact h
  | succ n ih => exact gpart_in64 ih _ (Nat.le_refl _)
/-- what may be shown -/
def V8.shown (v : V8) : Prop := v.inP ∧ 256 ≤ v.p3 ∧ v.inC 0 65536
theorem V8.fin_shown (v : V8) : v.fin.shown := by
  have h0 := lim4_bd v.p0
  have h1 := lim4_bd v.p1
  have h2 := lim4_bd v.p2
  have h3 := lim4_bd v.p3
  have hc : ∀ n, 0 ≤ limC n ∧ limC n ≤ 65536 := fun n => by unfold limC; omega
  refine ⟨⟨h0, h1, h2, ?_⟩, ?_, ⟨hc _, hc _, hc _, hc _⟩⟩
  · show -4194304 ≤ max (lim4 v.p3) 256 ∧ max (lim4 v.p3) 256 ≤ 4194304
    omega
  · show 256 ≤ max (lim4 v.p3) 256
    omega
theorem gend_shown (l : List V8) : ∀ x ∈ gend l, V8.shown x := by
  intro x hx
  unfold gend at hx
  split at hx
  · cases hx
  · obtain ⟨y, -, rfl⟩ := List.mem_map.1 hx
    exact y.fin_shown
theorem gend_len (l : List V8) : (gend l).length = 0 ∨ (3 ≤ (gend l).length ∧ (gend l).length ≤ 16) := by
  unfold gend
  split
  · exact .inl rfl
  · rw [List.length_map]; omega
theorem V8.fin_cap {v : V8} (h : v.inP) (hc : v.inC 0 65536) : v.fin = capV v := by
  obtain ⟨h0, h1, h2, h3⟩ := h
  obtain ⟨h4, h5, h6, h7⟩ := hc
  have hl : ∀ {n : Int}, 0 ≤ n ∧ n ≤ 65536 → limC n = n := fun h => by unfold limC; omega
  unfold V8.fin capV
  rw [lim4_id h0, lim4_id h1, lim4_id h2, lim4_id h3, hl h4, hl h5, hl h6, hl h7]
/-- the document's own way ends the same -/
theorem gend_eq {l : List V8} (h : ∀ x ∈ l, x.inP ∧ x.inC 0 65536) (n : Nat) : gend (gplanes l n) = endF (planesF l n) := by
  have hf : ∀ x ∈ l, V8.fine x := fun x hx => by
    obtain ⟨a, b⟩ := h x hx
    obtain ⟨b0, b1, b2, b3⟩ := b
    exact ⟨a, by refine ⟨?_, ?_, ?_, ?_⟩ <;> omega⟩
  have ha : ∀ x ∈ planesF l n, x.inP ∧ x.inC 0 65536 := planesF_all h (fun k a b ha hb h0 h1 => ⟨cutF_in ha.1 hb.1 h0 h1, cutF_inC ha.2 hb.2 h0 h1⟩) n
  rw [gplanes_eq hf]
  unfold gend endF
  split
  · rfl
  · exact List.map_congr_left fun x hx => V8.fin_cap (ha x hx).1 (ha x hx).2
end Go.Proofs.Ytglehnmkdapnpaa

