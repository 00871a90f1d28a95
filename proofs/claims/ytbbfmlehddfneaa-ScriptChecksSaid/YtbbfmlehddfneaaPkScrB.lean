/-
  DERIVED. Layer 11's law: a few programs that may be. · Layer 11: a draw with its indices; the law's draw, in plain numbers. · Layer 11 (script), in plain numbers: a script, its bytes; no script's bytes begin another's. · Reading in general: what comes of whatever bytes lie ahead: the thing whose bytes they are, or an error, and then no good thing's bytes lie there.
-/
import Derived.Test.YtbbfmlehddfneaaPkScrA
import Derived.Test.YtbbfmlehddfneaaPkIsaP
import Derived.Test.YtbbfmlehddfneaaPkTake
import Derived.Test.YtbbfmlehddfneaaPkIsaT
namespace Go.Proofs.Ytbbfmlehddfneaa
open Go.RowKit
set_option linter.unusedVariables false

/-- what lies behind slices of small instructions -/
def Conts (w : World) (sh : List SlV) (L : List (List Sm)) : Prop := sh.length = L.length ∧ ∀ (i : Nat) (s : SlV), sh[i]? = some s → ∃ xs, L[i]? = some xs ∧ SArr w s.v xs
theorem conts_of {w : World} {sh : List SlV} (h : ∀ a ∈ sh, smQ w a) : ∃ L, Conts w sh L := by
  induction sh with
  | nil => exact ⟨[], rfl, fun i s hs => by simp at hs⟩
  | cons a r ih =>
    obtain ⟨L, h1, h2⟩ := ih (fun x hx => h x (List.mem_cons_of_mem _ hx))
    obtain ⟨xs, hx⟩ := h a (List.mem_cons_self ..)
    refine ⟨xs :: L, by simp [h1], fun i s hs => ?_⟩
    cases i with
    | zero => simp at hs; subst hs; exact ⟨xs, rfl, hx⟩
    | succ i => simp at hs; obtain ⟨ys, e1, e2⟩ := h2 i s hs; exact ⟨ys, by simpa using e1, e2⟩
theorem Conts.ext {w w' : World} {sh : List SlV} {L : List (List Sm)} (h : Conts w sh L) (x : Ext w w') : Conts w' sh L :=
  ⟨h.1, fun i s hs => by obtain ⟨xs, e1, e2⟩ := h.2 i s hs; exact ⟨xs, e1, e2.ext x⟩⟩
/-- programs, one behind the other, each in a block of its own -/
def ProgsAt (w : World) (base : Nat) (svs : List SlV) (P : List (List In)) : Prop := svs.length = P.length ∧ ∀ (i : Nat) (s : SlV), svs[i]? = some s → ∃ xs, P[i]? = some xs ∧ OwnP w base s.v xs
theorem ProgsAt.kept {w w' : World} {base : Nat} {svs : List SlV} {P : List (List In)} (h : ProgsAt w base svs P) (hk : ∀ s ∈ svs, ∀ k, s.v.ownBlock = some k → w'.heap[k]? = w.heap[k]?) : ProgsAt w' base svs P :=
  ⟨h.1, fun i s hs => by obtain ⟨xs, e1, e2⟩ := h.2 i s hs; exact ⟨xs, e1, e2.kept (hk s (List.mem_of_getElem? hs))⟩⟩
theorem ProgsAt.ext {w w' : World} {base : Nat} {svs : List SlV} {P : List (List In)} (h : ProgsAt w base svs P) (x : Ext w w') : ProgsAt w' base svs P :=
  ⟨h.1, fun i s hs => by obtain ⟨xs, e1, e2⟩ := h.2 i s hs; exact ⟨xs, e1, e2.ext x⟩⟩
theorem ProgsAt.calm {O : List Nat} {w w' : World} {base : Nat} {svs : List SlV} {P : List (List In)} (h : ProgsAt w base svs P) (x : Calm O w w') (hO : ∀ s ∈ svs, ∀ k, s.v.ownBlock = some k → k ∉ O) : ProgsAt w' base svs P :=
  ⟨h.1, fun i s hs => by obtain ⟨xs, e1, e2⟩ := h.2 i s hs; exact ⟨xs, e1, e2.calm x (hO s (List.mem_of_getElem? hs))⟩⟩
theorem ProgsAt.lt {w : World} {base : Nat} {svs : List SlV} {P : List (List In)} (h : ProgsAt w base svs P) : ∀ s ∈ svs, ∀ k, s.v.ownBlock = some k → base ≤ k ∧ k < w.heap.size := fun s hs k hk => by
  obtain ⟨i, hi, e⟩ := List.mem_iff_getElem.1 hs
  obtain ⟨xs, _, e2⟩ := h.2 i s (by rw [List.getElem?_eq_getElem hi, e])
  exact e2.lt k hk
theorem ProgsAt.snoc {w : World} {base : Nat} {svs : List SlV} {P : List (List In)} (h : ProgsAt w base svs P) {s : SlV} {xs : List In} (hx : OwnP w base s.v xs) : ProgsAt w base (svs ++ [s]) (P ++ [xs]) := by
  refine ⟨by simp [h.1], fun i t ht => ?_⟩
  rcases Nat.lt_or_ge i svs.length with hi | hi
  · rw [List.getElem?_append_left hi] at ht
    obtain ⟨ys, e1, e2⟩ := h.2 i t ht
    exact ⟨ys, by rw [List.getElem?_append_left (by rw [← h.1]; exact hi)]; exact e1, e2⟩
  · rw [List.getElem?_append_right hi] at ht
    have hi2 : i = svs.length := by
      have := (List.getElem?_eq_some_iff.1 ht).1
      simp at this
      omega
    subst hi2
    simp at ht
    subst ht
    exact ⟨xs, by rw [h.1]; simp, hx⟩
theorem ProgsAt.mono {w : World} {base base' : Nat} {svs : List SlV} {P : List (List In)} (h : ProgsAt w base svs P) (hb : base' ≤ base) : ProgsAt w base' svs P :=
  ⟨h.1, fun i s hs => by obtain ⟨xs, e1, e2⟩ := h.2 i s hs; exact ⟨xs, e1, e2.mono hb⟩⟩
def progsF (d : Bool) (L : List (List Sm)) : List (List In) := [] :: (L.take 3).map (progF d)
theorem progsF_snoc {d : Bool} {L : List (List Sm)} {j : Nat} {xs : List Sm} (h3 : j < 3) (h : L[j]? = some xs) : progsF d (L.take (j + 1)) = progsF d (L.take j) ++ [progF d xs] := by
  unfold progsF
  rw [List.take_take, List.take_take, show min 3 (j + 1) = j + 1 by omega, show min 3 j = j by omega, List.take_add_one, h]
  simp
theorem progsF_stay {d : Bool} {L : List (List Sm)} {j : Nat} (h3 : ¬ j < 3) : progsF d (L.take (j + 1)) = progsF d (L.take j) := by
  unfold progsF
  rw [List.take_take, List.take_take, show min 3 (j + 1) = 3 by omega, show min 3 j = 3 by omega]
theorem slv_ext {s : SlV} {ao : Option Addr} {n c : Nat} (h : s.v = .slice ao n c) : s = ⟨ao, n, c⟩ := by
  obtain ⟨a, b, d⟩ := s
  cases h
  rfl

set_option maxRecDepth 100000 in
set_option maxHeartbeats 1000000 in
theorem programs_any (w : World) (d : Bool) (sv : SlV) (sh : List SlV) (L : List (List Sm)) (h : PArrG LLS w sv.v sh) (hC : Conts w sh L) (hl : sh.all le30 = true) (hn : sh.length ≤ 1000) :
    Calls Try.prog 15 #[sv.v, .bool d] w fun e w' => ∃ v' svs, e = .returned v' ∧ OwnG LP w' w.heap.size v' svs ∧ ProgsAt w' w.heap.size svs (progsF d L) ∧ (∀ s ∈ svs, ∀ k, s.v.ownBlock = some k → v'.ownBlock ≠ some k) ∧ Ext w w' := by
  obtain ⟨sa, sn, sc⟩ := sv
  have Q := h
  obtain ⟨_, _, e, -, -⟩ := h.slice
  cases e
  dsimp only [SlV.v] at Q ⊢
  have hlI : (sh.length : Int) ≤ 1000 := by omega
  go_enter Try.func15, Try.ntmps15
  go_wp2_with fail
  have o0 : OwnG LP (w.alloc (.cells #[.slice none 0 0] 74)) w.heap.size (.slice (some ⟨w.heap.size, 0, none⟩) 1 1) [SlV.nil] := OwnG.lit LP w [SlV.nil] (by simp)
  have x0 := (Ext.refl w).alloc #[.slice none 0 0] 74
  have P0 : ProgsAt (w.alloc (.cells #[.slice none 0 0] 74)) w.heap.size [SlV.nil] (progsF d (L.take 0)) := ⟨by simp [progsF], fun i s hs => by
    cases i with
    | zero => simp at hs; subst hs; exact ⟨[], by simp [progsF], OwnP.nil _ _⟩
    | succ i => simp at hs⟩
  generalize w.alloc (.cells #[.slice none 0 0] 74) = w0 at *
  go_loopg [11, 5] sh.length (fun n0 iv pv wx => ∃ (j : Nat) (svs : List SlV), j + n0 = sh.length ∧ iv = .int .i64 j ∧ OwnG LP wx w.heap.size pv svs ∧ ProgsAt wx w.heap.size svs (progsF d (L.take j)) ∧ (∀ s ∈ svs, ∀ k, s.v.ownBlock = some k → pv.ownBlock ≠ some k) ∧ Ext w wx)
  case atStart => exact ⟨0, [SlV.nil], by omega, by simp, o0, P0, (fun s hs k hk => by simp at hs; subst hs; cases hk), x0⟩
  case round =>
    obtain ⟨j, svs, hjk, rfl, o1, P1, hap, e1⟩ := hrel
    have hsl : svs.length ≤ 5 := by
      rw [P1.1]
      simp [progsF]
      omega
    by_cases hj : j < sh.length
    · have hjI : (j : Int) < (sh.length : Int) := by omega
      obtain ⟨g, off, x, e0, -, hx, hc⟩ := (Q.ext e1).nth j hj
      cases e0
      have c0 := hc 0 _ rfl
      obtain ⟨xs, hLx, hS⟩ := (hC.ext e1).2 j x hx
      have hx30 := List.all_eq_true.1 hl x (List.mem_of_getElem? hx)
      obtain ⟨xa, xn, xc⟩ := x
      have hS' := hS
      obtain ⟨⟨_, _, e, -⟩, -, -⟩ := hS'
      cases e
      simp only [LLS, SlV.v, Nat.mul_one, Nat.add_zero] at c0
      have hl30 : xs.length ≤ 30 := by simpa [le30] using hx30
      clear hc hx hx30
      by_cases h3 : j < 3
      · have h3I : (j : Int) < 3 := by omega
        have HN := Lib.hid (progsF_snoc (d := d) h3 hLx)
        clear hLx
        go_wp2_with fail
        refine (program_fn d _ _ xs hS (by omega)).mono ?_
        rintro e w3 ⟨v3, ys, rfl, o3, -, -, -, x3, hpf⟩
        have HPF := Lib.hid hpf
        clear hpf
        obtain ⟨ao3, c3, rfl, -, -⟩ := o3.slice
        have o4 := (o1.ext x3).ext ((Ext.refl w3).alloc #[.slice ao3 ys.length c3] 74)
        have e4 := (e1.trans x3).alloc #[.slice ao3 ys.length c3] 74
        have P4 := (P1.ext x3).ext ((Ext.refl w3).alloc #[.slice ao3 ys.length c3] 74)
        have p4 := (o3.mono e1.size).ext ((Ext.refl w3).alloc #[.slice ao3 ys.length c3] 74)
        have hcn : ∀ i u, (LP.cells ⟨ao3, ys.length, c3⟩)[i]? = some u → (w3.alloc (.cells #[.slice ao3 ys.length c3] 74)).cell? ⟨w3.heap.size, i, none⟩ = some u := fun i u hu => by
          rw [(Blk.new w3 _ _).cell]
          simpa [LP] using hu
        have z4 : (w3.alloc (.cells #[.slice ao3 ys.length c3] 74)).heap.size = w3.heap.size + 1 := by simp
        have zx := x3.size
        have zw := e1.size
        have hu5 := o1.lt
        have hP1 := P1.lt
        have ho3 := o3.lt
        clear o1 o3 P1
        go_wp2_with (at_builtin; refine wpList_append_g1 LP rfl _ _ rfl w.heap.size _ svs rfl o4 w3.heap.size 1 ⟨ao3, ys.length, c3⟩ rfl hcn (by omega) (by simp; omega) ?_)
        intro v5 w5 o5 K5 hk5
        have e5 := Ext.calm_trans e4 K5 (fun g hg => (o4.lt g (Option.mem_toList.1 hg)).1)
        have P5 := (P4.calm K5 (fun s hs k hk hin => hap s hs k hk (Option.mem_toList.1 hin))).snoc (s := ⟨ao3, ys.length, c3⟩) (p4.calm K5 (fun k hk hin => by
          have h1 := (hu5 k (Option.mem_toList.1 hin)).2
          have h2 := (ho3 k hk).1
          omega))
        have hap5 : ∀ s ∈ svs ++ [(⟨ao3, ys.length, c3⟩ : SlV)], ∀ k, s.v.ownBlock = some k → v5.ownBlock ≠ some k := fun s hs k hk hv => by
          rcases hk5 k hv with h1 | h1
          · rcases List.mem_append.1 hs with h2 | h2
            · exact hap s h2 k hk h1
            · simp at h2
              subst h2
              have h3 := (hu5 k h1).2
              have h4 := (ho3 k hk).1
              omega
          · rcases List.mem_append.1 hs with h2 | h2
            · have := (hP1 s h2 k hk).2
              omega
            · simp at h2
              subst h2
              have := (ho3 k hk).2
              omega
        obtain ⟨ao5, c5, rfl, -, -⟩ := o5.slice
        have HN2 : progsF d (L.take (j + 1)) = progsF d (L.take j) ++ [ys] := by rw [HN.out, ← HPF.out]
        rw [← HN2] at P5
        clear HN2
        clear o4 e4 P4 p4 hcn K5 hk5
        go_wp2
        go_roundg (gk - 1)
        case measure => omega
        case rel => exact ⟨j + 1, svs ++ [⟨ao3, ys.length, c3⟩], by omega, by simp, o5, P5, hap5, e5⟩
      · have h3I : ¬ (j : Int) < 3 := by omega
        have HN := Lib.hid (progsF_stay (d := d) (L := L) h3)
        clear hLx
        go_wp2
        go_roundg (gk - 1)
        case measure => omega
        case rel => exact ⟨j + 1, svs, by omega, by simp, o1, by rw [HN.out]; exact P1, hap, e1⟩
    · obtain rfl : j = sh.length := by omega
      rw [hC.1, List.take_length] at P1
      go_wp2
      go_ret
      exact ⟨_, svs, rfl, o1, P1, hap, e1⟩
end Go.Proofs.Ytbbfmlehddfneaa

namespace Go.Proofs.Ytbbfmlehddfneaa
open Go.RowKit
set_option linter.unusedVariables false

/-- a draw, with its indices -/
structure Dr where
  st : Stt
  clears : Bool
  cl : Clr
  vx : Int
  fr : Int
  kind : Int
  idx : List Int
  deriving DecidableEq
/-- the draw where it lies -/
def DrM.is (m : DrM) (d : Dr) : Prop := m.st = d.st ∧ m.clears = d.clears ∧ m.cl = d.cl ∧ m.vx = d.vx ∧ m.fr = d.fr ∧ m.kind = d.kind
def nidx (kind : Int) (n : Nat) : Nat := if kind = 0 then min n 6 / 3 * 3 else if min n 6 < 3 then 0 else min n 6
def drawF (d : DSm) (xs : List Int) (nv ns np : Nat) : Dr :=
  if d.kind % 5 = 4 then ⟨d.s.st, true, ⟨d.r, d.g, d.b, d.a, d.dep, d.vx, d.fr % 8⟩, 0, 0, 0, []⟩
  else ⟨d.s.st, false, ⟨0, 0, 0, 0, 0, 0, 0⟩, if d.plain then 0 else d.vx % ns, if d.plain then 0 else d.fr % np, d.kind % 5 % 3, (xs.take (nidx (d.kind % 5 % 3) xs.length)).map (fun y => y % nv)⟩
end Go.Proofs.Ytbbfmlehddfneaa

namespace Go.Proofs.Ytbbfmlehddfneaa
open Go.RowKit
set_option linter.unusedVariables false

/-- no x's bytes begin another's -/
def PF {α : Type} (e : α → List Int) (P : α → Prop) : Prop := ∀ x y r s, P x → P y → e x ++ r = e y ++ s → x = y ∧ r = s
theorem PF.many {α : Type} {e : α → List Int} {P : α → Prop} (h : PF e P) : ∀ (l m : List α) (r s : List Int), l.length = m.length → (∀ x ∈ l, P x) → (∀ x ∈ m, P x) → l.flatMap e ++ r = m.flatMap e ++ s → l = m ∧ r = s := by
  intro l
  induction l with
  | nil =>
    intro m r s hl _ _ hh
    have : m = [] := List.eq_nil_of_length_eq_zero hl.symm
    subst this
    simpa using hh
  | cons x l ih =>
    intro m r s hl h1 h2 hh
    cases m with
    | nil => simp at hl
    | cons y m =>
      simp only [List.flatMap_cons, List.append_assoc] at hh
      obtain ⟨rfl, k⟩ := h x y _ _ (h1 x (List.mem_cons_self ..)) (h2 y (List.mem_cons_self ..)) hh
      obtain ⟨rfl, rfl⟩ := ih m r s (by simpa using hl) (fun z hz => h1 z (List.mem_cons_of_mem _ hz)) (fun z hz => h2 z (List.mem_cons_of_mem _ hz)) k
      exact ⟨rfl, rfl⟩
/-- how many, and each -/
def seqE {α : Type} (e : α → List Int) (l : List α) : List Int := leb l.length ++ l.flatMap e
theorem PF.seqP {α : Type} {e : α → List Int} {P : α → Prop} (h : PF e P) : PF (seqE e) (fun l => ∀ x ∈ l, P x) := fun l m r s h1 h2 hh => by
  unfold seqE at hh
  simp only [List.append_assoc] at hh
  obtain ⟨k1, k2⟩ := leb_inj _ _ _ _ hh
  exact h.many l m r s k1 h1 h2 k2
def encZ (n : Int) : List Int := leb (zig n)
theorem pf_z : PF encZ (fun _ => True) := fun x y r s _ _ h => by
  obtain ⟨k1, k2⟩ := leb_inj _ _ _ _ h
  exact ⟨zig_inj k1, k2⟩
def encN (n : Int) : List Int := leb n.toNat
theorem pf_n : PF encN (fun n => 0 ≤ n) := fun x y r s h1 h2 h => by
  obtain ⟨k1, k2⟩ := leb_inj _ _ _ _ h
  exact ⟨by simp only at h1 h2; omega, k2⟩
theorem pf_i : PF encI (fun _ => True) := fun x y r s _ _ h => by
  obtain ⟨a0, a1, a2, a3, a4⟩ := x
  obtain ⟨b0, b1, b2, b3, b4⟩ := y
  simp only [encI, List.cons_append, List.nil_append, List.cons.injEq] at h
  obtain ⟨rfl, rfl, rfl, rfl, h⟩ := h
  obtain ⟨rfl, k⟩ := pf_z _ _ _ _ trivial trivial h
  exact ⟨rfl, k⟩
theorem enc_seqE (xs : List In) : enc xs = seqE encI xs := by
  unfold enc seqE
  congr 1
  induction xs with
  | nil => rfl
  | cons x r ih => rw [encs, ih, List.flatMap_cons]
def encV (v : V8) : List Int := [v.p0, v.p1, v.p2, v.p3, v.c0, v.c1, v.c2, v.c3].flatMap encZ
theorem pf_v : PF encV (fun _ => True) := fun x y r s _ _ h => by
  obtain ⟨k1, k2⟩ := pf_z.many _ _ _ _ (by rfl) (fun _ _ => trivial) (fun _ _ => trivial) h
  obtain ⟨a0, a1, a2, a3, a4, a5, a6, a7⟩ := x
  obtain ⟨b0, b1, b2, b3, b4, b5, b6, b7⟩ := y
  simp only [List.cons.injEq, and_true] at k1
  obtain ⟨rfl, rfl, rfl, rfl, rfl, rfl, rfl, rfl⟩ := k1
  exact ⟨rfl, k2⟩
/-- a draw whose fields that do not belong to it are nought -/
structure Dr.ok (d : Dr) : Prop where
  clear : d.clears = true → d.vx = 0 ∧ d.fr = 0 ∧ d.kind = 0 ∧ d.idx = [] ∧ 0 ≤ d.cl.dep
  tri : d.clears = false → d.cl = ⟨0, 0, 0, 0, 0, 0, 0⟩ ∧ 0 ≤ d.vx ∧ 0 ≤ d.fr ∧ d.kind ≠ 3 ∧ ∀ n ∈ d.idx, 0 ≤ n
def encD (d : Dr) : List Int := d.st.enc ++ (if d.clears then [3, d.cl.r, d.cl.g, d.cl.b, d.cl.a, d.cl.sten, d.cl.want] ++ encN d.cl.dep else d.kind :: (encN d.vx ++ (encN d.fr ++ seqE encN d.idx)))
theorem pf_d : PF encD Dr.ok := fun x y r s hx hy h => by
  unfold encD at h
  simp only [List.append_assoc] at h
  obtain ⟨k1, k2⟩ := Stt.enc_inj h
  obtain ⟨xs, xc, xl, xv, xf, xk, xi⟩ := x
  obtain ⟨ys, yc, yl, yv, yf, yk, yi⟩ := y
  simp only at k1 k2
  subst k1
  cases xc
  · obtain ⟨rfl, hx1, hx2, hx3, hx4⟩ := hx.tri rfl
    cases yc
    · obtain ⟨rfl, hy1, hy2, hy3, hy4⟩ := hy.tri rfl
      simp only [Bool.false_eq_true, if_false, List.cons_append, List.cons.injEq, List.append_assoc] at k2
      obtain ⟨rfl, k2⟩ := k2
      obtain ⟨e_1, k2_1⟩ := pf_n xv yv _ _ hx1 hy1 k2
      subst e_1
      obtain ⟨e_2, k2_2⟩ := pf_n xf yf _ _ hx2 hy2 k2_1
      subst e_2
      obtain ⟨e_3, k2_3⟩ := pf_n.seqP xi yi _ _ hx4 hy4 k2_2
      subst e_3
      exact ⟨rfl, k2_3⟩
    · simp at k2
      have := k2.1
      simp only at hx3
      omega
  · obtain ⟨hx1, hx2, hx3, hx4, hx5⟩ := hx.clear rfl
    simp only at hx1 hx2 hx3 hx4 hx5
    subst hx1 hx2 hx3 hx4
    cases yc
    · obtain ⟨-, hy1, hy2, hy3, hy4⟩ := hy.tri rfl
      simp at k2
      have := k2.1
      simp only at hy3
      omega
    · obtain ⟨hy1, hy2, hy3, hy4, hy5⟩ := hy.clear rfl
      simp only at hy1 hy2 hy3 hy4 hy5
      subst hy1 hy2 hy3 hy4
      obtain ⟨a0, a1, a2, a3, a4, a5, a6⟩ := xl
      obtain ⟨b0, b1, b2, b3, b4, b5, b6⟩ := yl
      simp only [if_true, List.cons_append, List.nil_append, List.cons.injEq, true_and] at k2
      obtain ⟨rfl, rfl, rfl, rfl, rfl, rfl, k2⟩ := k2
      obtain ⟨e4, k3⟩ := pf_n a4 b4 r s hx5 hy5 k2
      subst e4
      exact ⟨rfl, k3⟩
/-- a script -/
structure Scr where
  W : Int
  H : Int
  m : List Int
  verts : List V8
  sh : List (List In)
  pa : List (List In)
  draws : List Dr
structure Scr.ok (s : Scr) : Prop where
  w : 0 ≤ s.W
  h : 0 ≤ s.H
  m : s.m.length = 16
  d : ∀ x ∈ s.draws, x.ok
/-- a script's bytes -/
def encS (s : Scr) : List Int := 65 :: 90 :: (encN s.W ++ (encN s.H ++ (s.m.flatMap encZ ++ (seqE encV s.verts ++ (seqE enc s.sh ++ (seqE enc s.pa ++ seqE encD s.draws))))))
theorem pf_p : PF enc (fun _ => True) := fun x y r s _ _ h => by
  rw [enc_seqE, enc_seqE] at h
  exact pf_i.seqP _ _ _ _ (fun _ _ => trivial) (fun _ _ => trivial) h
theorem pf_s : PF encS Scr.ok := fun x y r s hx hy h => by
  obtain ⟨a0, a1, a2, a3, a4, a5, a6⟩ := x
  obtain ⟨b0, b1, b2, b3, b4, b5, b6⟩ := y
  simp only [encS, List.cons_append, List.append_assoc, List.cons.injEq, true_and] at h
  obtain ⟨e_4, h_4⟩ := pf_n a0 b0 _ _ hx.w hy.w h
  subst e_4
  obtain ⟨e_5, h_5⟩ := pf_n a1 b1 _ _ hx.h hy.h h_4
  subst e_5
  obtain ⟨e_6, h_6⟩ := pf_z.many a2 b2 _ _ (hx.m.trans hy.m.symm) (fun _ _ => trivial) (fun _ _ => trivial) h_5
  subst e_6
  obtain ⟨e_7, h_7⟩ := pf_v.seqP a3 b3 _ _ (fun _ _ => trivial) (fun _ _ => trivial) h_6
  subst e_7
  obtain ⟨e_8, h_8⟩ := pf_p.seqP a4 b4 _ _ (fun _ _ => trivial) (fun _ _ => trivial) h_7
  subst e_8
  obtain ⟨e_9, h_9⟩ := pf_p.seqP a5 b5 _ _ (fun _ _ => trivial) (fun _ _ => trivial) h_8
  subst e_9
  obtain ⟨e_10, h_10⟩ := pf_d.seqP a6 b6 _ _ hx.d hy.d h_9
  subst e_10
  exact ⟨rfl, h_10⟩
theorem encS_inj {x y : Scr} (hx : x.ok) (hy : y.ok) (h : encS x = encS y) : x = y := (pf_s x y [] [] hx hy (by simpa using h)).1
end Go.Proofs.Ytbbfmlehddfneaa

namespace Go.Proofs.Ytbbfmlehddfneaa
open Go.RowKit
set_option linter.unusedVariables false

/-- behind k bytes of l (with err so far) x was read, up to k', with err' -/
def Rd {α : Type} (e : α → List Int) (P : α → Prop) (l : List Int) (k : Nat) (err : Int) (x : α) (k' : Nat) (err' : Int) : Prop :=
  (err = 0 ∧ err' = 0 ∧ P x ∧ l.drop k = e x ++ l.drop k') ∨ (err' ≠ 0 ∧ (err ≠ 0 ∨ ∀ y r, P y → l.drop k ≠ e y ++ r))
section
variable {α β : Type} {e : α → List Int} {P : α → Prop} {e2 : β → List Int} {P2 : β → Prop} {l : List Int} {k k1 k2 : Nat} {err err1 err2 : Int}
theorem Rd.ok {x : α} (h : Rd e P l k err x k1 0) : err = 0 ∧ P x ∧ l.drop k = e x ++ l.drop k1 := by
  rcases h with ⟨h1, _, h2, h3⟩ | ⟨h, _⟩
  · exact ⟨h1, h2, h3⟩
  · exact absurd rfl h
theorem Rd.pair {x : α} {y : β} (h : Rd e P l k err x k1 err1) (hp : PF e P) (h2 : Rd e2 P2 l k1 err1 y k2 err2) : Rd (fun q : α × β => e q.1 ++ e2 q.2) (fun q => P q.1 ∧ P2 q.2) l k err (x, y) k2 err2 := by
  rcases h with ⟨a1, a2, a3, a4⟩ | ⟨a1, a2⟩
  · rcases h2 with ⟨b1, b2, b3, b4⟩ | ⟨b1, b2⟩
    · exact .inl ⟨a1, b2, ⟨a3, b3⟩, by rw [a4, b4]; simp⟩
    · refine .inr ⟨b1, ?_⟩
      rcases b2 with b2 | b2
      · exact absurd a2 b2
      · refine .inr fun q r hq hh => ?_
        rw [a4] at hh
        simp only [List.append_assoc] at hh
        obtain ⟨hx, hr⟩ := hp x q.1 _ _ a3 hq.1 hh
        exact b2 q.2 r hq.2 hr
  · have hne : err2 ≠ 0 := by
      rcases h2 with ⟨b1, _⟩ | ⟨b1, _⟩
      · exact absurd b1 a1
      · exact b1
    refine .inr ⟨hne, ?_⟩
    rcases a2 with a2 | a2
    · exact .inl a2
    · refine .inr fun q r hq hh => ?_
      rw [List.append_assoc] at hh
      exact a2 q.1 _ hq.1 hh
/-- another name for the same -/
theorem Rd.iso {x : α} (h : Rd e P l k err x k1 err1) (f : α → β) (g : β → α) (hf : P x → P2 (f x) ∧ e2 (f x) = e x) (hg : ∀ y, P2 y → P (g y) ∧ e (g y) = e2 y) : Rd e2 P2 l k err (f x) k1 err1 := by
  rcases h with ⟨a1, a2, a3, a4⟩ | ⟨a1, a2⟩
  · obtain ⟨b1, b2⟩ := hf a3
    exact .inl ⟨a1, a2, b1, by rw [b2]; exact a4⟩
  · refine .inr ⟨a1, ?_⟩
    rcases a2 with a2 | a2
    · exact .inl a2
    · refine .inr fun y r hy hh => ?_
      obtain ⟨b1, b2⟩ := hg y hy
      exact a2 (g y) r b1 (by rw [b2]; exact hh)
theorem Rd.to {x : α} {y : β} (h : Rd e P l k err x k1 err1) (g : β → α) (hf : P x → P2 y ∧ e2 y = e x) (hg : ∀ y, P2 y → P (g y) ∧ e (g y) = e2 y) : Rd e2 P2 l k err y k1 err1 := h.iso (fun _ => y) g hf hg
/-- n of them, one behind the other -/
def PN (P : α → Prop) (n : Nat) (xs : List α) : Prop := xs.length = n ∧ ∀ x ∈ xs, P x
theorem Rd.none : Rd (fun xs : List α => xs.flatMap e) (PN P 0) l k err [] k err := by
  by_cases h : err = 0
  · exact .inl ⟨h, h, ⟨rfl, fun x hx => by simp at hx⟩, by simp⟩
  · exact .inr ⟨h, .inl h⟩
theorem Rd.snoc {n : Nat} {xs : List α} {x : α} (h : Rd (fun xs : List α => xs.flatMap e) (PN P n) l k err xs k1 err1) (hp : PF e P) (h2 : Rd e P l k1 err1 x k2 err2) : Rd (fun xs : List α => xs.flatMap e) (PN P (n + 1)) l k err (xs ++ [x]) k2 err2 := by
  have hpf : PF (fun xs : List α => xs.flatMap e) (PN P n) := fun a b r s ha hb hh => hp.many a b r s (ha.1.trans hb.1.symm) ha.2 hb.2 hh
  refine (h.pair hpf h2).to (fun ys => (ys.take n, ys.getD n x)) (fun hq => ⟨⟨by simp [hq.1.1], fun y hy => ?_⟩, by simp⟩) (fun ys hys => ?_)
  · rcases List.mem_append.1 hy with h1 | h1
    · exact hq.1.2 y h1
    · rw [List.mem_singleton.1 h1]; exact hq.2
  · have hn : n < ys.length := by rw [hys.1]; omega
    have hsp : ys = ys.take n ++ [ys.getD n x] := by
      have h1 := List.take_append_drop n ys
      rw [List.drop_eq_getElem_cons hn, List.drop_eq_nil_of_le (by rw [hys.1]; omega)] at h1
      rw [List.getD_eq_getElem?_getD, List.getElem?_eq_getElem hn]
      exact h1.symm
    refine ⟨⟨⟨by simp; omega, fun y hy => hys.2 y (List.mem_of_mem_take hy)⟩, ?_⟩, ?_⟩
    · show P (ys.getD n x)
      rw [List.getD_eq_getElem?_getD, List.getElem?_eq_getElem hn]
      exact hys.2 _ (List.getElem_mem hn)
    · conv => rhs; rw [hsp]
      simp
theorem Rd.bad (h : err ≠ 0) {x : α} (h1 : err1 ≠ 0) : Rd e P l k err x k1 err1 := .inr ⟨h1, .inl h⟩
/-- how many, and so many -/
theorem Rd.seq {most n : Nat} {xs : List α} (h : Rd (fun n : Nat => leb n) (fun n => n ≤ most) l k err n k1 err1) (h2 : Rd (fun xs : List α => xs.flatMap e) (PN P n) l k1 err1 xs k2 err2) : Rd (seqE e) (fun xs => xs.length ≤ most ∧ ∀ x ∈ xs, P x) l k err xs k2 err2 := by
  rcases h with ⟨a1, a2, a3, a4⟩ | ⟨a1, a2⟩
  · rcases h2 with ⟨b1, b2, b3, b4⟩ | ⟨b1, b2⟩
    · refine .inl ⟨a1, b2, ⟨by rw [b3.1]; exact a3, b3.2⟩, ?_⟩
      rw [a4, b4, seqE, b3.1, List.append_assoc]
    · refine .inr ⟨b1, ?_⟩
      rcases b2 with b2 | b2
      · exact absurd a2 b2
      · refine .inr fun ys r hy hh => ?_
        rw [a4] at hh
        simp only [seqE, List.append_assoc] at hh
        obtain ⟨hx, hr⟩ := leb_inj _ _ _ _ hh
        exact b2 ys r ⟨hx.symm, hy.2⟩ hr
  · have hne : err2 ≠ 0 := by
      rcases h2 with ⟨b1, _⟩ | ⟨b1, _⟩
      · exact absurd b1 a1
      · exact b1
    refine .inr ⟨hne, ?_⟩
    rcases a2 with a2 | a2
    · exact .inl a2
    · refine .inr fun ys r hy hh => ?_
      rw [seqE, List.append_assoc] at hh
      exact a2 ys.length _ hy.1 hh
/-- what follows hangs on what was read -/
theorem Rd.dep {x : α} (h : Rd e P l k err x k1 err1) (hp : PF e P) {E : β → List Int} {PE : β → Prop} {y : β} (hd : β → α) (tl : β → List Int) (hE : ∀ y, PE y → P (hd y) ∧ E y = e (hd y) ++ tl y) (h2 : err1 ≠ 0 → err2 ≠ 0)
    (h3 : err1 = 0 → P x → (err2 = 0 ∧ PE y ∧ hd y = x ∧ l.drop k1 = tl y ++ l.drop k2) ∨ (err2 ≠ 0 ∧ ∀ z r, PE z → hd z = x → l.drop k1 ≠ tl z ++ r)) : Rd E PE l k err y k2 err2 := by
  rcases h with ⟨a1, a2, a3, a4⟩ | ⟨a1, a2⟩
  · rcases h3 a2 a3 with ⟨b1, b2, b3, b4⟩ | ⟨b1, b2⟩
    · exact .inl ⟨a1, b1, b2, by rw [a4, b4, (hE y b2).2, b3, List.append_assoc]⟩
    · refine .inr ⟨b1, .inr fun z r hz hh => ?_⟩
      obtain ⟨c1, c2⟩ := hE z hz
      rw [a4, c2, List.append_assoc] at hh
      obtain ⟨d1, d2⟩ := hp x (hd z) _ _ a3 c1 hh
      exact b2 z r hz d1.symm d2
  · refine .inr ⟨h2 a1, ?_⟩
    rcases a2 with a2 | a2
    · exact .inl a2
    · refine .inr fun z r hz hh => ?_
      obtain ⟨c1, c2⟩ := hE z hz
      rw [c2, List.append_assoc] at hh
      exact a2 (hd z) _ c1 hh
theorem PF.pair (hp : PF e P) (hp2 : PF e2 P2) : PF (fun q : α × β => e q.1 ++ e2 q.2) (fun q => P q.1 ∧ P2 q.2) := fun x y r s hx hy hh => by
  simp only [List.append_assoc] at hh
  obtain ⟨h1, h2⟩ := hp x.1 y.1 _ _ hx.1 hy.1 hh
  obtain ⟨h3, h4⟩ := hp2 x.2 y.2 _ _ hx.2 hy.2 h2
  exact ⟨Prod.ext h1 h3, h4⟩
theorem Rd.stays {x : α} (h : Rd e P l k err x k1 err1) (he : err ≠ 0) : err1 ≠ 0 := by
  rcases h with ⟨a, _⟩ | ⟨a, _⟩
  · exact absurd a he
  · exact a
end
end Go.Proofs.Ytbbfmlehddfneaa

