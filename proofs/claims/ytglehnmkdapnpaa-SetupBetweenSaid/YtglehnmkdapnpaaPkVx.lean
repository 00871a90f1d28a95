/-
  DERIVED. Vertices in plain numbers: places and colours; the law's own small ones. · Layer 11's law: a vertex by small numbers. · Layer 12 (clip) in plain numbers: planes, what is between two vertices, what can be seen of a polygon. · Stage 12's rows: a small vertex, three, vectors (made by mkrowvx.py).
-/
import Derived.Test.YtglehnmkdapnpaaPkGs
import Derived.Test.YtglehnmkdapnpaaPkFix
import Derived.Deep.DeepCutAuto
namespace Go.Proofs.Ytglehnmkdapnpaa
set_option linter.unusedVariables false
/-- a vertex: its place, its colour -/
structure V8 where
  (p0 p1 p2 p3 c0 c1 c2 c3 : Int)
  deriving DecidableEq
instance : Inhabited V8 := ⟨⟨0, 0, 0, 0, 0, 0, 0, 0⟩⟩
abbrev V8.l (v : V8) : List Value := [.int .i64 v.p0, .int .i64 v.p1, .int .i64 v.p2, .int .i64 v.p3, .int .i64 v.c0, .int .i64 v.c1, .int .i64 v.c2, .int .i64 v.c3]
/-- the law's vertex, by small numbers -/
structure VSm where
  (x y z w r g b a : Int)
  far : Bool
instance : Inhabited VSm := ⟨⟨0, 0, 0, 0, 0, 0, 0, 0, false⟩⟩
abbrev VSm.l (v : VSm) : List Value := [.int .i16 v.x, .int .i16 v.y, .int .i16 v.z, .int .i16 v.w, .int .u8 v.r, .int .u8 v.g, .int .u8 v.b, .int .u8 v.a, .bool v.far]
def VSm.ok (v : VSm) : Prop := (-32768 ≤ v.x ∧ v.x ≤ 32767) ∧ (-32768 ≤ v.y ∧ v.y ≤ 32767) ∧ (-32768 ≤ v.z ∧ v.z ≤ 32767) ∧ (-32768 ≤ v.w ∧ v.w ≤ 32767) ∧ (0 ≤ v.r ∧ v.r ≤ 255) ∧ (0 ≤ v.g ∧ v.g ≤ 255) ∧ (0 ≤ v.b ∧ v.b ≤ 255) ∧ (0 ≤ v.a ∧ v.a ≤ 255)
def vxF (v : VSm) : V8 := ⟨v.x * 3, v.y * 3, max (v.z * 2) (-9000), if v.far then v.w * 4 else 65536 + v.w, v.r * 257, v.g * 257, v.b * 257, v.a * 257⟩
end Go.Proofs.Ytglehnmkdapnpaa

namespace Go.Proofs.Ytglehnmkdapnpaa
open Go.RowKit
set_option linter.unusedVariables false
theorem idx4u (x0 x1 x2 x3 : Value) (w : World) :
    (Instr.index 23 (.agg #[x0, x1, x2, x3]) (.int .i64 0)).run Try.prog w = .ok x0 w ∧ (Instr.index 23 (.agg #[x0, x1, x2, x3]) (.int .i64 1)).run Try.prog w = .ok x1 w ∧
    (Instr.index 23 (.agg #[x0, x1, x2, x3]) (.int .i64 2)).run Try.prog w = .ok x2 w ∧ (Instr.index 23 (.agg #[x0, x1, x2, x3]) (.int .i64 3)).run Try.prog w = .ok x3 w := by
  refine ⟨?_, ?_, ?_, ?_⟩ <;> simp [Instr.index, asIntOf, run_underlying Try.underlying23, go_sem, part]

set_option maxRecDepth 100000 in
set_option maxHeartbeats 1000000 in
theorem vertex11_any (v : VSm) (hv : v.ok) (w : World) : Calls Try.prog 22 #[.agg v.l.toArray] w fun e w' => e = .returned (.agg (vxF v).l.toArray) ∧ Ext w w' := by
  obtain ⟨x, y, z, ww, r, g, b, a, far⟩ := v
  obtain ⟨h0, h1, h2, h3, h4, h5, h6, h7⟩ := hv
  simp only at h0 h1 h2 h3 h4 h5 h6 h7
  have hmx := maxI_fold
  have hix := idx4u (.int .u8 r) (.int .u8 g) (.int .u8 b) (.int .u8 a)
  cases far
  · have hF : (vxF ⟨x, y, z, ww, r, g, b, a, false⟩).l.toArray = #[.int .i64 (x * 3), .int .i64 (y * 3), .int .i64 (maxI (z * 2) (-9000)), .int .i64 (65536 + ww), .int .i64 (r * 257), .int .i64 (g * 257), .int .i64 (b * 257), .int .i64 (a * 257)] := by simp [vxF, maxI_eq]
    rw [hF]
    clear hF
    go_enter Try.func22, Try.ntmps22
    go_wp2_with fail
    refine wp_loop_rounds 5 ?_
    rw [rounds_succ]
    go_wp2
    rw [rounds_succ]
    go_wp2
    rw [rounds_succ]
    go_wp2
    rw [rounds_succ]
    go_wp2
    rw [rounds_succ]
    go_wp2
    exact bodyPost_ret (v := .agg #[.int .i64 (x * 3), .int .i64 (y * 3), .int .i64 (maxI (z * 2) (-9000)), .int .i64 (65536 + ww), .int .i64 (r * 257), .int .i64 (g * 257), .int .i64 (b * 257), .int .i64 (a * 257)]) (results_blk (b := w.heap.size + 1) (t := 2) (ty := 84) rfl rfl ((Blk.new' (by simp) _ _).alloc _) Try.underlying84 rfl (by kernel_rfl)) rfl ⟨rfl, (((Ext.refl w).alloc _ _).alloc _ _).alloc _ _⟩
  · have hF : (vxF ⟨x, y, z, ww, r, g, b, a, true⟩).l.toArray = #[.int .i64 (x * 3), .int .i64 (y * 3), .int .i64 (maxI (z * 2) (-9000)), .int .i64 (ww * 4), .int .i64 (r * 257), .int .i64 (g * 257), .int .i64 (b * 257), .int .i64 (a * 257)] := by simp [vxF, maxI_eq]
    rw [hF]
    clear hF
    go_enter Try.func22, Try.ntmps22
    go_wp2_with fail
    refine wp_loop_rounds 5 ?_
    rw [rounds_succ]
    go_wp2
    rw [rounds_succ]
    go_wp2
    rw [rounds_succ]
    go_wp2
    rw [rounds_succ]
    go_wp2
    rw [rounds_succ]
    go_wp2
    exact bodyPost_ret (v := .agg #[.int .i64 (x * 3), .int .i64 (y * 3), .int .i64 (maxI (z * 2) (-9000)), .int .i64 (ww * 4), .int .i64 (r * 257), .int .i64 (g * 257), .int .i64 (b * 257), .int .i64 (a * 257)]) (results_blk (b := w.heap.size + 1) (t := 2) (ty := 84) rfl rfl ((Blk.new' (by simp) _ _).alloc _) Try.underlying84 rfl (by kernel_rfl)) rfl ⟨rfl, (((Ext.refl w).alloc _ _).alloc _ _).alloc _ _⟩

end Go.Proofs.Ytglehnmkdapnpaa

namespace Go.Proofs.Ytglehnmkdapnpaa
set_option linter.unusedVariables false

/-- how far a vertex is on the right side of a plane -/
def insF (v : V8) (k : Nat) : Int :=
  match k with
  | 0 => v.p3 - 256
  | 1 => v.p2
  | 2 => v.p3 - v.p2
  | 3 => 8 * v.p3 + v.p0
  | 4 => 8 * v.p3 - v.p0
  | 5 => 8 * v.p3 + v.p1
  | 6 => 8 * v.p3 - v.p1
  | _ => 0
/-- from x to y, a of d parts: rounded down -/
def mixF (x y a d : Int) : Int := x + (y - x) * a / d
def crossF (v w : V8) (a d : Int) : V8 := ⟨mixF v.p0 w.p0 a d, mixF v.p1 w.p1 a d, mixF v.p2 w.p2 a d, mixF v.p3 w.p3 a d, mixF v.c0 w.c0 a d, mixF v.c1 w.c1 a d, mixF v.c2 w.c2 a d, mixF v.c3 w.c3 a d⟩
/-- between one inside and one outside -/
def cutF (v w : V8) (k : Nat) : V8 := crossF v w (insF v k) (insF v k - insF w k)
/-- what a vertex leaves, before the next one -/
def emitF (k : Nat) (v w : V8) : List V8 :=
  (if 0 ≤ insF v k then [v] else []) ++ (if 0 ≤ insF v k ∧ insF w k < 0 then [cutF v w k] else []) ++ (if 0 ≤ insF w k ∧ insF v k < 0 then [cutF w v k] else [])
def z8 : V8 := ⟨0, 0, 0, 0, 0, 0, 0, 0⟩
/-- what the first i vertices leave -/
def partF (k : Nat) (l : List V8) (i : Nat) : List V8 := ((List.range i).map fun j => emitF k (l.getD j z8) (l.getD ((j + 1) % l.length) z8)).flatten
def stepF (k : Nat) (l : List V8) : List V8 := partF k l l.length
/-- n planes -/
def planesF (l : List V8) : Nat → List V8
  | 0 => l
  | n + 1 => stepF n (planesF l n)
def V8.inP (v : V8) : Prop := (-4194304 ≤ v.p0 ∧ v.p0 ≤ 4194304) ∧ (-4194304 ≤ v.p1 ∧ v.p1 ≤ 4194304) ∧ (-4194304 ≤ v.p2 ∧ v.p2 ≤ 4194304) ∧ (-4194304 ≤ v.p3 ∧ v.p3 ≤ 4194304)
def V8.inC (v : V8) (lo hi : Int) : Prop := (lo ≤ v.c0 ∧ v.c0 ≤ hi) ∧ (lo ≤ v.c1 ∧ v.c1 ≤ hi) ∧ (lo ≤ v.c2 ∧ v.c2 ≤ hi) ∧ (lo ≤ v.c3 ∧ v.c3 ≤ hi)

theorem partF_zero (k : Nat) (l : List V8) : partF k l 0 = [] := rfl
theorem partF_succ (k : Nat) (l : List V8) (i : Nat) : partF k l (i + 1) = partF k l i ++ emitF k (l.getD i z8) (l.getD ((i + 1) % l.length) z8) := by
  simp [partF, List.range_succ]
theorem emitF_len (k : Nat) (v w : V8) : (emitF k v w).length ≤ 2 := by
  unfold emitF
  by_cases h1 : 0 ≤ insF v k <;> by_cases h2 : 0 ≤ insF w k
  · rw [if_pos h1, if_neg (by omega), if_neg (by omega)]; simp
  · rw [if_pos h1, if_pos (by omega), if_neg (by omega)]; simp
  · rw [if_neg h1, if_neg (by omega), if_pos (by omega)]; simp
  · rw [if_neg h1, if_neg (by omega), if_neg (by omega)]; simp
theorem partF_len (k : Nat) (l : List V8) (i : Nat) : (partF k l i).length ≤ 2 * i := by
  induction i with
  | zero => simp [partF_zero]
  | succ i ih =>
    rw [partF_succ, List.length_append]
    have := emitF_len k (l.getD i z8) (l.getD ((i + 1) % l.length) z8)
    omega
theorem planesF_len (l : List V8) (n : Nat) : (planesF l n).length ≤ l.length * 2 ^ n := by
  induction n with
  | zero => simp [planesF]
  | succ n ih =>
    have h := partF_len n (planesF l n) (planesF l n).length
    show (partF n (planesF l n) (planesF l n).length).length ≤ _
    rw [Nat.pow_succ, ← Nat.mul_assoc]
    omega

/-- a part of the way is between the ends -/
theorem mixF_between {x y a d : Int} (h0 : 0 ≤ a) (h1 : a ≤ d) (hd : 0 < d) : (x ≤ y → x ≤ mixF x y a d ∧ mixF x y a d ≤ y) ∧ (y ≤ x → y ≤ mixF x y a d ∧ mixF x y a d ≤ x) := by
  unfold mixF
  have e := Int.mul_ediv_add_emod ((y - x) * a) d
  have r0 := Int.emod_nonneg ((y - x) * a) (show d ≠ 0 by omega)
  have r1 := Int.emod_lt_of_pos ((y - x) * a) hd
  generalize (y - x) * a / d = q at *
  generalize hr : (y - x) * a % d = r at *
  refine ⟨fun h => ?_, fun h => ?_⟩
  · have m0 : 0 ≤ (y - x) * a := Int.mul_nonneg (by omega) h0
    have m1 : (y - x) * a ≤ (y - x) * d := Int.mul_le_mul_of_nonneg_left h1 (by omega)
    have q0 : 0 ≤ q := by
      rcases Int.lt_or_le q 0 with g | g
      · have : d * q ≤ d * (-1) := Int.mul_le_mul_of_nonneg_left (by omega) (by omega)
        omega
      · exact g
    have q1 : q ≤ y - x := by
      rcases Int.lt_or_le (y - x) q with g | g
      · have : d * (y - x + 1) ≤ d * q := Int.mul_le_mul_of_nonneg_left (by omega) (by omega)
        have e2 : d * (y - x + 1) = (y - x) * d + d := by rw [Int.mul_add, Int.mul_one, Int.mul_comm d (y - x)]
        omega
      · exact g
    omega
  · have m0 : (x - y) * a ≤ (x - y) * d := Int.mul_le_mul_of_nonneg_left h1 (by omega)
    have m1 : 0 ≤ (x - y) * a := Int.mul_nonneg (by omega) h0
    have n1 : (y - x) * a = -((x - y) * a) := by rw [← Int.neg_mul]; congr 1; omega
    have q0 : q ≤ 0 := by
      rcases Int.lt_or_le 0 q with g | g
      · have : d * 1 ≤ d * q := Int.mul_le_mul_of_nonneg_left (by omega) (by omega)
        omega
      · exact g
    have q1 : y - x ≤ q := by
      rcases Int.lt_or_le q (y - x) with g | g
      · have : d * q ≤ d * (y - x - 1) := Int.mul_le_mul_of_nonneg_left (by omega) (by omega)
        have e2 : d * (y - x - 1) = -((x - y) * d) - d := by
          rw [Int.mul_sub, Int.mul_one, Int.mul_comm d (y - x), ← Int.neg_mul]
          congr 2
          omega
        omega
      · exact g
    omega
theorem mixF_in {x y a d lo hi : Int} (h0 : 0 ≤ a) (h1 : a ≤ d) (hd : 0 < d) (hx : lo ≤ x ∧ x ≤ hi) (hy : lo ≤ y ∧ y ≤ hi) : lo ≤ mixF x y a d ∧ mixF x y a d ≤ hi := by
  obtain ⟨a1, a2⟩ := mixF_between (x := x) (y := y) h0 h1 hd
  rcases Int.le_total x y with h | h
  · have := a1 h; omega
  · have := a2 h; omega
theorem cutF_in {v w : V8} {k : Nat} (hv : v.inP) (hw : w.inP) (h0 : 0 ≤ insF v k) (h1 : insF w k < 0) : (cutF v w k).inP := by
  obtain ⟨a0, a1, a2, a3⟩ := hv
  obtain ⟨b0, b1, b2, b3⟩ := hw
  have e1 : insF v k ≤ insF v k - insF w k := by omega
  have e2 : 0 < insF v k - insF w k := by omega
  exact ⟨mixF_in h0 e1 e2 a0 b0, mixF_in h0 e1 e2 a1 b1, mixF_in h0 e1 e2 a2 b2, mixF_in h0 e1 e2 a3 b3⟩
theorem cutF_inC {v w : V8} {k : Nat} {lo hi : Int} (hv : v.inC lo hi) (hw : w.inC lo hi) (h0 : 0 ≤ insF v k) (h1 : insF w k < 0) : (cutF v w k).inC lo hi := by
  obtain ⟨a0, a1, a2, a3⟩ := hv
  obtain ⟨b0, b1, b2, b3⟩ := hw
  have e1 : insF v k ≤ insF v k - insF w k := by omega
  have e2 : 0 < insF v k - insF w k := by omega
  exact ⟨mixF_in h0 e1 e2 a0 b0, mixF_in h0 e1 e2 a1 b1, mixF_in h0 e1 e2 a2 b2, mixF_in h0 e1 e2 a3 b3⟩
/-- what holds of two vertices and of what is between them holds of all that is left -/
theorem emitF_all {P : V8 → Prop} {k : Nat} {v w : V8} (hv : P v) (hw : P w) (hc : ∀ a b : V8, P a → P b → 0 ≤ insF a k → insF b k < 0 → P (cutF a b k)) : ∀ x ∈ emitF k v w, P x := by
  intro x hx
  unfold emitF at hx
  simp only [List.mem_append] at hx
  rcases hx with (hx | hx) | hx
  · split at hx
    · rw [List.mem_singleton.1 hx]; exact hv
    · cases hx
  · split at hx
    · rename_i h; rw [List.mem_singleton.1 hx]; exact hc v w hv hw h.1 h.2
    · cases hx
  · split at hx
    · rename_i h; rw [List.mem_singleton.1 hx]; exact hc w v hw hv h.1 h.2
    · cases hx
theorem getD_all {P : V8 → Prop} {l : List V8} (h : ∀ x ∈ l, P x) {i : Nat} (hi : i < l.length) : P (l.getD i z8) := by
  rw [List.getD_eq_getElem?_getD, List.getElem?_eq_getElem hi]
  exact h _ (List.getElem_mem hi)
theorem partF_all {P : V8 → Prop} {k : Nat} {l : List V8} (h : ∀ x ∈ l, P x) (hc : ∀ a b : V8, P a → P b → 0 ≤ insF a k → insF b k < 0 → P (cutF a b k)) : ∀ i, i ≤ l.length → ∀ x ∈ partF k l i, P x := by
  intro i
  induction i with
  | zero => intro _ x hx; simp [partF_zero] at hx
  | succ i ih =>
    intro hi x hx
    rw [partF_succ] at hx
    rcases List.mem_append.1 hx with hx | hx
    · exact ih (by omega) x hx
    · exact emitF_all (getD_all h (by omega)) (getD_all h (Nat.mod_lt _ (by omega))) hc x hx
theorem planesF_all {P : V8 → Prop} {l : List V8} (h : ∀ x ∈ l, P x) (hc : ∀ k (a b : V8), P a → P b → 0 ≤ insF a k → insF b k < 0 → P (cutF a b k)) : ∀ n, ∀ x ∈ planesF l n, P x := by
  intro n
  induction n with
  | zero => exact h
  | succ n ih => exact partF_all ih (hc n) _ (Nat.le_refl _)

/-- all inside: all is left as it is -/
theorem partF_id {k : Nat} {l : List V8} (h : ∀ x ∈ l, 0 ≤ insF x k) : ∀ i, i ≤ l.length → partF k l i = l.take i := by
  intro i
  induction i with
  | zero => intro _; simp [partF_zero]
  | succ i ih =>
    intro hi
    have h1 : 0 ≤ insF (l.getD i z8) k := getD_all (P := fun x => 0 ≤ insF x k) h (by omega)
    have h2 : 0 ≤ insF (l.getD ((i + 1) % l.length) z8) k := getD_all (P := fun x => 0 ≤ insF x k) h (Nat.mod_lt _ (by omega))
    rw [partF_succ, ih (by omega), List.take_add_one]
    congr 1
    unfold emitF
    rw [if_pos h1, if_neg (by omega), if_neg (by omega), List.getD_eq_getElem?_getD, List.getElem?_eq_getElem (by omega)]
    simp
theorem planesF_id {l : List V8} (n : Nat) (h : ∀ k, k < n → ∀ x ∈ l, 0 ≤ insF x k) : planesF l n = l := by
  induction n with
  | zero => rfl
  | succ n ih =>
    show stepF n (planesF l n) = l
    rw [ih fun k hk => h k (by omega)]
    unfold stepF
    rw [partF_id (h n (by omega)) _ (Nat.le_refl _), List.take_length]
/-- all outside of the first plane: nothing is left -/
theorem partF_none {k : Nat} {l : List V8} (h : ∀ x ∈ l, insF x k < 0) : ∀ i, i ≤ l.length → partF k l i = [] := by
  intro i
  induction i with
  | zero => intro _; exact partF_zero _ _
  | succ i ih =>
    intro hi
    have h1 : insF (l.getD i z8) k < 0 := getD_all (P := fun x => insF x k < 0) h (by omega)
    have h2 : insF (l.getD ((i + 1) % l.length) z8) k < 0 := getD_all (P := fun x => insF x k < 0) h (Nat.mod_lt _ (by omega))
    rw [partF_succ, ih (by omega)]
    unfold emitF
    rw [if_neg (by omega), if_neg (by omega), if_neg (by omega)]
    rfl
theorem planesF_nil (n : Nat) : planesF [] n = [] := by
  induction n with
  | zero => rfl
  | succ n ih => show stepF n (planesF [] n) = []; rw [ih]; rfl
theorem planesF_first {l : List V8} (h : ∀ x ∈ l, insF x 0 < 0) : ∀ n, 1 ≤ n → planesF l n = [] := by
  intro n
  induction n with
  | zero => intro h; omega
  | succ n ih =>
    intro _
    show stepF n (planesF l n) = []
    rcases Nat.eq_zero_or_pos n with h0 | h0
    · subst h0
      exact partF_none h _ (Nat.le_refl _)
    · rw [ih h0]; rfl
/-- the law's vertices are small -/
theorem vxF_bd {v : VSm} (h : v.ok) : (vxF v).inP ∧ (vxF v).inC 0 65535 := by
  obtain ⟨h0, h1, h2, h3, h4, h5, h6, h7⟩ := h
  refine ⟨⟨?_, ?_, ?_, ?_⟩, ⟨?_, ?_, ?_, ?_⟩⟩ <;> simp only [vxF]
  · omega
  · omega
  · omega
  · split <;> omega
  all_goals omega
/-- the numbers stay small -/
theorem insF_bd {v : V8} (h : v.inP) (k : Nat) : -37748736 ≤ insF v k ∧ insF v k ≤ 37748736 := by
  obtain ⟨a0, a1, a2, a3⟩ := h
  unfold insF
  split <;> omega
theorem prod_bd {x y a : Int} {M A : Int} (hx : -M ≤ x ∧ x ≤ M) (hy : -M ≤ y ∧ y ≤ M) (ha : 0 ≤ a ∧ a ≤ A) (hM : 0 ≤ M) : -(2 * M * A) ≤ (y - x) * a ∧ (y - x) * a ≤ 2 * M * A := by
  have h1 : (y - x) * a ≤ 2 * M * A := Int.le_trans (Int.mul_le_mul_of_nonneg_right (show y - x ≤ 2 * M by omega) ha.1) (Int.mul_le_mul_of_nonneg_left ha.2 (by omega))
  have h2 : (x - y) * a ≤ 2 * M * A := Int.le_trans (Int.mul_le_mul_of_nonneg_right (show x - y ≤ 2 * M by omega) ha.1) (Int.mul_le_mul_of_nonneg_left ha.2 (by omega))
  have h3 : (x - y) * a = -((y - x) * a) := by rw [← Int.neg_mul]; congr 1; omega
  omega
/-- the remainders of a cut -/
theorem mixF_rem {x y a d : Int} (hd : 0 < d) : ∃ r, 0 ≤ r ∧ r < d ∧ d * mixF x y a d = d * x + (y - x) * a - r := by
  have e := Int.mul_ediv_add_emod ((y - x) * a) d
  refine ⟨(y - x) * a % d, Int.emod_nonneg _ (by omega), Int.emod_lt_of_pos _ hd, ?_⟩
  unfold mixF
  rw [Int.mul_add]
  omega
theorem near_of {d t r : Int} (hd : 0 < d) (h : d * t = -r) (h0 : -d < r) (h1 : r < 9 * d) : -9 < t ∧ t < 1 := by
  constructor
  · rcases Int.lt_or_le (-9) t with g | g
    · exact g
    · have := Int.mul_le_mul_of_nonneg_left g (show (0 : Int) ≤ d by omega)
      omega
  · rcases Int.lt_or_le t 1 with g | g
    · exact g
    · have := Int.mul_le_mul_of_nonneg_left g (show (0 : Int) ≤ d by omega)
      omega
/-- what lies between two vertices lies near the plane -/
theorem cutF_near {v w : V8} {k : Nat} (hk : k < 7) (h0 : 0 ≤ insF v k) (h1 : insF w k < 0) : -9 ≤ insF (cutF v w k) k ∧ insF (cutF v w k) k ≤ 9 := by
  obtain ⟨a, ha⟩ : ∃ a, insF v k = a := ⟨_, rfl⟩
  obtain ⟨b, hb⟩ : ∃ b, insF w k = b := ⟨_, rfl⟩
  rw [ha] at h0
  rw [hb] at h1
  have hd : 0 < a - b := by omega
  obtain ⟨r0, a0, b0, e0⟩ := mixF_rem (x := v.p0) (y := w.p0) (a := a) hd
  obtain ⟨r1, a1, b1, e1⟩ := mixF_rem (x := v.p1) (y := w.p1) (a := a) hd
  obtain ⟨r2, a2, b2, e2⟩ := mixF_rem (x := v.p2) (y := w.p2) (a := a) hd
  obtain ⟨r3, a3, b3, e3⟩ := mixF_rem (x := v.p3) (y := w.p3) (a := a) hd
  have hc : cutF v w k = crossF v w a (a - b) := by unfold cutF; rw [ha, hb]
  rw [hc]
  unfold crossF insF
  unfold insF at ha hb
  generalize mixF v.p0 w.p0 a (a - b) = m0 at *
  generalize mixF v.p1 w.p1 a (a - b) = m1 at *
  generalize mixF v.p2 w.p2 a (a - b) = m2 at *
  generalize mixF v.p3 w.p3 a (a - b) = m3 at *
  obtain ⟨d, hde⟩ : ∃ d, a - b = d := ⟨_, rfl⟩
  rw [hde] at e0 e1 e2 e3 b0 b1 b2 b3 hd
  have key : ∀ s : Int, s + a * d - (a - b) * a = s := fun s => by rw [hde, Int.mul_comm a d]; omega
  match k, hk with
  | 0, _ =>
    simp only at ha hb ⊢
    have := near_of (t := m3 - 256) (r := r3) hd (by
      have x1 : d * (m3 - 256) = d * m3 - d * 256 := Int.mul_sub _ _ _
      have x2 : d * v.p3 = d * a + d * 256 := by rw [← Int.mul_add]; congr 1; omega
      have x3 : (w.p3 - v.p3) * a = -(d * a) := by rw [← Int.neg_mul]; congr 1; omega
      omega) (by omega) (by omega)
    omega
  | 1, _ =>
    simp only at ha hb ⊢
    have := near_of (t := m2) (r := r2) hd (by
      have x2 : d * v.p2 = d * a := by rw [ha]
      have x3 : (w.p2 - v.p2) * a = -(d * a) := by rw [← Int.neg_mul]; congr 1; omega
      omega) (by omega) (by omega)
    omega
  | 2, _ =>
    simp only at ha hb ⊢
    have := near_of (t := m3 - m2) (r := r3 - r2) hd (by
      have x1 : d * (m3 - m2) = d * m3 - d * m2 := Int.mul_sub _ _ _
      have x2 : d * v.p3 - d * v.p2 = d * a := by rw [← Int.mul_sub]; congr 1
      have x3 : (w.p3 - v.p3) * a - (w.p2 - v.p2) * a = -(d * a) := by rw [← Int.sub_mul, ← Int.neg_mul]; congr 1; omega
      omega) (by omega) (by omega)
    omega
  | 3, _ =>
    simp only at ha hb ⊢
    have := near_of (t := 8 * m3 + m0) (r := 8 * r3 + r0) hd (by
      have x1 : d * (8 * m3 + m0) = 8 * (d * m3) + d * m0 := by rw [Int.mul_add, Int.mul_left_comm]
      have x2 : 8 * (d * v.p3) + d * v.p0 = d * a := by rw [← ha, Int.mul_add, Int.mul_left_comm]
      have x3 : 8 * ((w.p3 - v.p3) * a) + (w.p0 - v.p0) * a = -(d * a) := by rw [← Int.mul_assoc, ← Int.add_mul, ← Int.neg_mul]; congr 1; omega
      omega) (by omega) (by omega)
    omega
  | 4, _ =>
    simp only at ha hb ⊢
    have := near_of (t := 8 * m3 - m0) (r := 8 * r3 - r0) hd (by
      have x1 : d * (8 * m3 - m0) = 8 * (d * m3) - d * m0 := by rw [Int.mul_sub, Int.mul_left_comm]
      have x2 : 8 * (d * v.p3) - d * v.p0 = d * a := by rw [← ha, Int.mul_sub, Int.mul_left_comm]
      have x3 : 8 * ((w.p3 - v.p3) * a) - (w.p0 - v.p0) * a = -(d * a) := by rw [← Int.mul_assoc, ← Int.sub_mul, ← Int.neg_mul]; congr 1; omega
      omega) (by omega) (by omega)
    omega
  | 5, _ =>
    simp only at ha hb ⊢
    have := near_of (t := 8 * m3 + m1) (r := 8 * r3 + r1) hd (by
      have x1 : d * (8 * m3 + m1) = 8 * (d * m3) + d * m1 := by rw [Int.mul_add, Int.mul_left_comm]
      have x2 : 8 * (d * v.p3) + d * v.p1 = d * a := by rw [← ha, Int.mul_add, Int.mul_left_comm]
      have x3 : 8 * ((w.p3 - v.p3) * a) + (w.p1 - v.p1) * a = -(d * a) := by rw [← Int.mul_assoc, ← Int.add_mul, ← Int.neg_mul]; congr 1; omega
      omega) (by omega) (by omega)
    omega
  | 6, _ =>
    simp only at ha hb ⊢
    have := near_of (t := 8 * m3 - m1) (r := 8 * r3 - r1) hd (by
      have x1 : d * (8 * m3 - m1) = 8 * (d * m3) - d * m1 := by rw [Int.mul_sub, Int.mul_left_comm]
      have x2 : 8 * (d * v.p3) - d * v.p1 = d * a := by rw [← ha, Int.mul_sub, Int.mul_left_comm]
      have x3 : 8 * ((w.p3 - v.p3) * a) - (w.p1 - v.p1) * a = -(d * a) := by rw [← Int.mul_assoc, ← Int.sub_mul, ← Int.neg_mul]; congr 1; omega
      omega) (by omega) (by omega)
    omega
end Go.Proofs.Ytglehnmkdapnpaa

namespace Go.Proofs.Ytglehnmkdapnpaa
open Go.ChangeShapes Go.WideShapes Go.RowKit Go.Deep
set_option linter.unusedVariables false
set_option maxRecDepth 100000 in
theorem vxx_cells {H : Type} {enc : TypeId × Value → H} {w : World} {base : Nat} {spare : Nat → Bool} {held : Bool} {fuel : Nat} {cs : List Value} {x0 : DataW H × List MemPlace} (h : DataW.trod enc Try.prog w base spare held fuel 25 cs = some x0) : ∃ v : VSm, cs = v.l ∧ v.ok := by
  obtain ⟨xs, n, _, _, hl, hlen, hf⟩ := DataW.trod_struct Try.underlying25 h
  have hl2 : cs.length = 9 := hl.trans (by kernel_rfl)
  have hlen2 : xs.length = 6 := hlen
  match cs, hl2, xs, hlen2 with
  | [cx, cy, cz, cw, cr, cg, cb, ca, cf], _, [y0, y1, y2, y3, y4, y5], _ =>
    have h0 : DataW.trod enc Try.prog w base spare held n 22 [cx] = some y0 := hf 0 _ rfl
    have h1 : DataW.trod enc Try.prog w base spare held n 22 [cy] = some y1 := hf 1 _ rfl
    have h2 : DataW.trod enc Try.prog w base spare held n 22 [cz] = some y2 := hf 2 _ rfl
    have h3 : DataW.trod enc Try.prog w base spare held n 22 [cw] = some y3 := hf 3 _ rfl
    have h4 : DataW.trod enc Try.prog w base spare held n 23 [cr, cg, cb, ca] = some y4 := hf 4 _ rfl
    have h5 : DataW.trod enc Try.prog w base spare held n 4 [cf] = some y5 := hf 5 _ rfl
    obtain ⟨x, rfl, wx⟩ := g_int Try.underlying22 h0
    obtain ⟨y, rfl, wy⟩ := g_int Try.underlying22 h1
    obtain ⟨z, rfl, wz⟩ := g_int Try.underlying22 h2
    obtain ⟨ww, rfl, www⟩ := g_int Try.underlying22 h3
    obtain ⟨r, rfl, wr⟩ := intsAt_cells (k := .u8) 3 23 n _ _ (by kernel_rfl) h4 cr (by simp)
    obtain ⟨g, rfl, wg⟩ := intsAt_cells (k := .u8) 3 23 n _ _ (by kernel_rfl) h4 cg (by simp)
    obtain ⟨b, rfl, wb⟩ := intsAt_cells (k := .u8) 3 23 n _ _ (by kernel_rfl) h4 cb (by simp)
    obtain ⟨a, rfl, wa⟩ := intsAt_cells (k := .u8) 3 23 n _ _ (by kernel_rfl) h4 ca (by simp)
    obtain ⟨far, rfl⟩ := g_bool Try.underlying4 h5
    exact ⟨⟨x, y, z, ww, r, g, b, a, far⟩, rfl, bounds_i16 wx, bounds_i16 wy, bounds_i16 wz, bounds_i16 www, bounds_u8 wr, bounds_u8 wg, bounds_u8 wb, bounds_u8 wa⟩
set_option maxRecDepth 100000 in
theorem openVx {H : Type} {enc : TypeId × Value → H} {w : World} {base : Nat} {spare : Nat → Bool} {held : Bool} {r : Reach} {b0 : Nat} {v : Value} {dt : DataW H} {p : List MemPlace} (hv : Value.okWide Try.prog w r b0 25 v) (h : DataW.Trod enc Try.prog w base spare held 25 v dt p) : ∃ x : VSm, v = .agg x.l.toArray ∧ x.ok := by
  obtain ⟨cs, rfl, hs⟩ := okWide_struct Try.underlying25 hv
  obtain ⟨fuel, hf⟩ := h
  obtain ⟨x, e, hb⟩ := vxx_cells hf
  refine ⟨x, ?_, hb⟩
  have : cs.toList = x.l := e
  rw [← this]
set_option maxRecDepth 100000 in
theorem openThree {H : Type} {enc : TypeId × Value → H} {w : World} {base : Nat} {spare : Nat → Bool} {held : Bool} {r : Reach} {b0 : Nat} {v : Value} {dt : DataW H} {p : List MemPlace} (hv : Value.okWide Try.prog w r b0 27 v) (h : DataW.Trod enc Try.prog w base spare held 27 v dt p) : ∃ x y z : VSm, v = .agg (x.l ++ (y.l ++ z.l)).toArray ∧ x.ok ∧ y.ok ∧ z.ok := by
  obtain ⟨cs, rfl, hs⟩ := okWide_array Try.underlying27 hv
  obtain ⟨fuel, hf⟩ := h
  obtain ⟨xs, m, _, _, hl, hlen, hfx⟩ := DataW.trod_array Try.underlying27 hf
  have hc : Try.prog.cellsOf 25 = 9 := by kernel_rfl
  have hl2 : cs.toList.length = 27 := hl.trans (by kernel_rfl)
  have hlen2 : xs.length = 3 := hlen
  rw [hc] at hfx
  match xs, hlen2 with
  | [y0, y1, y2], _ =>
    obtain ⟨x, e0, b0⟩ := vxx_cells (x0 := y0) (hfx 0 (by decide))
    obtain ⟨y, e1, b1⟩ := vxx_cells (x0 := y1) (hfx 1 (by decide))
    obtain ⟨z, e2, b2⟩ := vxx_cells (x0 := y2) (hfx 2 (by decide))
    have e0 : cs.toList.take 9 = x.l := e0
    have e1 : (cs.toList.drop 9).take 9 = y.l := e1
    have e2 : (cs.toList.drop 18).take 9 = z.l := e2
    refine ⟨x, y, z, ?_, b0, b1, b2⟩
    have : cs.toList = x.l ++ (y.l ++ z.l) := by
      rw [← e0, ← e1, ← e2]
      have a1 := List.take_append_drop 9 cs.toList
      have a2 := List.take_append_drop 9 (cs.toList.drop 9)
      have a3 : (cs.toList.drop 18).take 9 = cs.toList.drop 18 := List.take_of_length_le (by rw [List.length_drop, hl2]; decide)
      rw [List.drop_drop] at a2
      rw [a3, a2, a1]
    rw [← this]
set_option maxRecDepth 100000 in
theorem openV3 {H : Type} {enc : TypeId × Value → H} {w : World} {base : Nat} {spare : Nat → Bool} {held : Bool} {r : Reach} {b0 : Nat} {v : Value} {dt : DataW H} {p : List MemPlace} (hv : Value.okWide Try.prog w r b0 53 v) (h : DataW.Trod enc Try.prog w base spare held 53 v dt p) :
    ∃ x0 x1 x2 x3 x4 x5 x6 x7 x8 x9 x10 x11 : Int, v = .agg #[.int .i64 x0, .int .i64 x1, .int .i64 x2, .int .i64 x3, .int .i64 x4, .int .i64 x5, .int .i64 x6, .int .i64 x7, .int .i64 x8, .int .i64 x9, .int .i64 x10, .int .i64 x11] ∧ (-9223372036854775808 ≤ x0 ∧ x0 ≤ 9223372036854775807) ∧ (-9223372036854775808 ≤ x1 ∧ x1 ≤ 9223372036854775807) ∧ (-9223372036854775808 ≤ x2 ∧ x2 ≤ 9223372036854775807) ∧ (-9223372036854775808 ≤ x3 ∧ x3 ≤ 9223372036854775807) ∧ (-9223372036854775808 ≤ x4 ∧ x4 ≤ 9223372036854775807) ∧ (-9223372036854775808 ≤ x5 ∧ x5 ≤ 9223372036854775807) ∧ (-9223372036854775808 ≤ x6 ∧ x6 ≤ 9223372036854775807) ∧ (-9223372036854775808 ≤ x7 ∧ x7 ≤ 9223372036854775807) ∧ (-9223372036854775808 ≤ x8 ∧ x8 ≤ 9223372036854775807) ∧ (-9223372036854775808 ≤ x9 ∧ x9 ≤ 9223372036854775807) ∧ (-9223372036854775808 ≤ x10 ∧ x10 ≤ 9223372036854775807) ∧ (-9223372036854775808 ≤ x11 ∧ x11 ≤ 9223372036854775807) := by
  obtain ⟨cs, rfl, hl, hc⟩ := open_ints_agg (k := .i64) (d := 4) (okWide_array Try.underlying53 hv) (by kernel_rfl) h
  have hl' : cs.length = 12 := hl.trans (by kernel_rfl)
  match cs, hl' with
  | [c0, c1, c2, c3, c4, c5, c6, c7, c8, c9, c10, c11], _ =>
    obtain ⟨x0, rfl, wx0⟩ := hc c0 (by simp)
    obtain ⟨x1, rfl, wx1⟩ := hc c1 (by simp)
    obtain ⟨x2, rfl, wx2⟩ := hc c2 (by simp)
    obtain ⟨x3, rfl, wx3⟩ := hc c3 (by simp)
    obtain ⟨x4, rfl, wx4⟩ := hc c4 (by simp)
    obtain ⟨x5, rfl, wx5⟩ := hc c5 (by simp)
    obtain ⟨x6, rfl, wx6⟩ := hc c6 (by simp)
    obtain ⟨x7, rfl, wx7⟩ := hc c7 (by simp)
    obtain ⟨x8, rfl, wx8⟩ := hc c8 (by simp)
    obtain ⟨x9, rfl, wx9⟩ := hc c9 (by simp)
    obtain ⟨x10, rfl, wx10⟩ := hc c10 (by simp)
    obtain ⟨x11, rfl, wx11⟩ := hc c11 (by simp)
    exact ⟨x0, x1, x2, x3, x4, x5, x6, x7, x8, x9, x10, x11, rfl, bounds_i64 wx0, bounds_i64 wx1, bounds_i64 wx2, bounds_i64 wx3, bounds_i64 wx4, bounds_i64 wx5, bounds_i64 wx6, bounds_i64 wx7, bounds_i64 wx8, bounds_i64 wx9, bounds_i64 wx10, bounds_i64 wx11⟩
end Go.Proofs.Ytglehnmkdapnpaa

