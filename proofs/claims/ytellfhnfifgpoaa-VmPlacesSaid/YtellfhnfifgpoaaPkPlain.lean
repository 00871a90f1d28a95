/-
  DERIVED. Layer 8's programs, run, as a plain function: what comes of a program, of two joined, of a loop; how many steps it takes; its numbers' bounds. · Layer 8's programs, run: no End, no Discard; loops; how many steps; the numbers' bounds. · Slices of the document's instructions (azulejoref07.Instr) of the call's own (made by mkrefs.py from Prs). · The document's state of a program that runs (azulejoref07.State), where it lies. · Four numbers, where they lie: one read, one put. · Rounds of a body, one more; instructions that a machine can carry out. · A machine of layer 8 (vm.machine), where it lies; a program that it reads. · Layer 8's small functions: negative, component, all, Colour. · copy of vectors (elements of four cells), as one step of a region that draws its order. · THE WALK of layer 8's matrix: the matrix whose rows are a register and the three after it (made by mkvmmat.py). · Registers that lie as a value: one of them (Op.index), whatever its number. · THE WALK of the document's Within (azulejoref07.Within). · THE WALK of the document's Start (azulejoref07.Start). · THE WALK of the law text 'Regs' of layer 8.
-/
import Derived.Test.YtellfhnfifgpoaaPkIsa
import Derived.Test.YtellfhnfifgpoaaPkVec
import Derived.Laws.CopyRow
import Derived.Deep.RegionLaw
import Derived.Deep.MidRow
import Derived.Test.YtellfhnfifgpoaaPkFix
import Derived.Deep.RegionWith
import Derived.Deep.RegionHeld3
import Derived.Deep.RegionHeldLaw
import Derived.Deep.LoopGhost
import Derived.Deep.DeepCutAuto
namespace Go.Proofs.Ytellfhnfifgpoaa
set_option linter.unusedVariables false

structure V4 where
  c0 : Int
  c1 : Int
  c2 : Int
  c3 : Int
def V4.get (v : V4) (k : Nat) : Int := if k = 0 then v.c0 else if k = 1 then v.c1 else if k = 2 then v.c2 else v.c3
def V4.put (v : V4) (k : Nat) (n : Int) : V4 := if k = 0 then ⟨n, v.c1, v.c2, v.c3⟩ else if k = 1 then ⟨v.c0, n, v.c2, v.c3⟩ else if k = 2 then ⟨v.c0, v.c1, n, v.c3⟩ else ⟨v.c0, v.c1, v.c2, n⟩
def V4.all (n : Int) : V4 := ⟨n, n, n, n⟩
def V4.map2 (f : Int → Int → Int) (a b : V4) : V4 := ⟨f a.c0 b.c0, f a.c1 b.c1, f a.c2 b.c2, f a.c3 b.c3⟩
def V4.dot (a b : V4) : Int := dotZ a.c0 a.c1 a.c2 a.c3 b.c0 b.c1 b.c2 b.c3
def Q31 (n : Int) : Prop := -2147483647 ≤ n ∧ n ≤ 2147483647
def V4.ok (v : V4) : Prop := Q31 v.c0 ∧ Q31 v.c1 ∧ Q31 v.c2 ∧ Q31 v.c3

/-- registers are 48 numbers -/
def regAt (rs : List Int) (r : Nat) : V4 := ⟨rs.getD (r * 4) 0, rs.getD (r * 4 + 1) 0, rs.getD (r * 4 + 2) 0, rs.getD (r * 4 + 3) 0⟩
def regPut (rs : List Int) (r : Nat) (v : V4) : List Int := (((rs.set (r * 4) v.c0).set (r * 4 + 1) v.c1).set (r * 4 + 2) v.c2).set (r * 4 + 3) v.c3
def RB (rs : List Int) : Prop := rs.length = 48 ∧ ∀ n ∈ rs, Q31 n
theorem RB.getD {rs : List Int} (h : RB rs) (j : Nat) : Q31 (rs.getD j 0) := by
  by_cases hj : j < rs.length
  · have : rs.getD j 0 = rs[j] := by simp [List.getD, hj]
    rw [this]
    exact h.2 _ (List.getElem_mem hj)
  · have : rs.getD j 0 = 0 := by simp [List.getD, List.getElem?_eq_none (Nat.le_of_not_lt hj)]
    rw [this]
    unfold Q31
    omega
theorem RB.at {rs : List Int} (h : RB rs) (r : Nat) : (regAt rs r).ok := ⟨h.getD _, h.getD _, h.getD _, h.getD _⟩
theorem RB.set {rs : List Int} (h : RB rs) (j : Nat) {n : Int} (hn : Q31 n) : RB (rs.set j n) := ⟨by simpa using h.1, fun m hm => by
  rcases List.mem_or_eq_of_mem_set hm with h1 | h1
  · exact h.2 m h1
  · rw [h1]; exact hn⟩
theorem RB.put {rs : List Int} (h : RB rs) (r : Nat) {v : V4} (hv : v.ok) : RB (regPut rs r v) := (((h.set _ hv.1).set _ hv.2.1).set _ hv.2.2.1).set _ hv.2.2.2

/-- what an instruction lays into its register -/
def outV (x : In) (rs : List Int) : Option V4 :=
  if x.op = 1 then some (regAt rs x.a.toNat)
  else if x.op = 2 then some (V4.all (x.imm * 256))
  else if x.op = 3 then some (V4.map2 addZ (regAt rs x.a.toNat) (regAt rs x.b.toNat))
  else if x.op = 4 then some (V4.map2 subZ (regAt rs x.a.toNat) (regAt rs x.b.toNat))
  else if x.op = 5 then some (V4.map2 mulZ (regAt rs x.a.toNat) (regAt rs x.b.toNat))
  else if x.op = 6 then some (V4.map2 minZ (regAt rs x.a.toNat) (regAt rs x.b.toNat))
  else if x.op = 7 then some (V4.map2 maxZ (regAt rs x.a.toNat) (regAt rs x.b.toNat))
  else if x.op = 8 then some (V4.all ((regAt rs x.a.toNat).dot (regAt rs x.b.toNat)))
  else if x.op = 9 then some (V4.all ((regAt rs x.a.toNat).get (x.b % 4).toNat))
  else if x.op = 10 then some ((regAt rs x.dst.toNat).put (x.b % 4).toNat ((regAt rs x.a.toNat).get (x.imm % 4).toNat))
  else if x.op = 14 then some ⟨(regAt rs x.a.toNat).dot (regAt rs x.b.toNat), (regAt rs (x.a.toNat + 1)).dot (regAt rs x.b.toNat), (regAt rs (x.a.toNat + 2)).dot (regAt rs x.b.toNat), (regAt rs (x.a.toNat + 3)).dot (regAt rs x.b.toNat)⟩
  else none
theorem V4.ok.get {v : V4} (h : v.ok) (k : Nat) : Q31 (v.get k) := by
  unfold V4.get
  split
  · exact h.1
  · split
    · exact h.2.1
    · split
      · exact h.2.2.1
      · exact h.2.2.2
theorem V4.ok.put {v : V4} (h : v.ok) (k : Nat) {n : Int} (hn : Q31 n) : (v.put k n).ok := by
  unfold V4.put
  split
  · exact ⟨hn, h.2.1, h.2.2.1, h.2.2.2⟩
  · split
    · exact ⟨h.1, hn, h.2.2.1, h.2.2.2⟩
    · split
      · exact ⟨h.1, h.2.1, hn, h.2.2.2⟩
      · exact ⟨h.1, h.2.1, h.2.2.1, hn⟩
theorem V4.ok.all {n : Int} (h : Q31 n) : (V4.all n).ok := ⟨h, h, h, h⟩
theorem V4.dot_ok (a b : V4) : Q31 (a.dot b) := dotZ_bd ..
theorem map2_ok {f : Int → Int → Int} (h : ∀ a b, Q31 (f a b)) (a b : V4) : (V4.map2 f a b).ok := ⟨h _ _, h _ _, h _ _, h _ _⟩
theorem outV_ok {x : In} (hx : x.ok) {rs : List Int} (h : RB rs) {v : V4} (hv : outV x rs = some v) : v.ok := by
  unfold outV at hv
  have hi : Q31 (x.imm * 256) := by have := hx.2.2.2.2; unfold Q31; omega
  by_cases h1' : x.op = 1
  · rw [if_pos h1'] at hv
    rw [← Option.some.inj hv]
    exact h.at _
  rw [if_neg h1'] at hv
  by_cases h2' : x.op = 2
  · rw [if_pos h2'] at hv
    rw [← Option.some.inj hv]
    exact V4.ok.all hi
  rw [if_neg h2'] at hv
  by_cases h3' : x.op = 3
  · rw [if_pos h3'] at hv
    rw [← Option.some.inj hv]
    exact map2_ok (fun _ _ => clampZ_bd _) _ _
  rw [if_neg h3'] at hv
  by_cases h4' : x.op = 4
  · rw [if_pos h4'] at hv
    rw [← Option.some.inj hv]
    exact map2_ok (fun _ _ => clampZ_bd _) _ _
  rw [if_neg h4'] at hv
  by_cases h5' : x.op = 5
  · rw [if_pos h5'] at hv
    rw [← Option.some.inj hv]
    exact map2_ok (fun _ _ => clampZ_bd _) _ _
  rw [if_neg h5'] at hv
  by_cases h6' : x.op = 6
  · rw [if_pos h6'] at hv
    rw [← Option.some.inj hv]
    exact map2_ok (fun a b => by have h1 := clampZ_bd a; have h2 := clampZ_bd b; unfold minZ Q31; omega) _ _
  rw [if_neg h6'] at hv
  by_cases h7' : x.op = 7
  · rw [if_pos h7'] at hv
    rw [← Option.some.inj hv]
    exact map2_ok (fun a b => by have h1 := clampZ_bd a; have h2 := clampZ_bd b; unfold maxZ Q31; omega) _ _
  rw [if_neg h7'] at hv
  by_cases h8' : x.op = 8
  · rw [if_pos h8'] at hv
    rw [← Option.some.inj hv]
    exact V4.ok.all (V4.dot_ok _ _)
  rw [if_neg h8'] at hv
  by_cases h9' : x.op = 9
  · rw [if_pos h9'] at hv
    rw [← Option.some.inj hv]
    exact V4.ok.all ((h.at _).get _)
  rw [if_neg h9'] at hv
  by_cases h10' : x.op = 10
  · rw [if_pos h10'] at hv
    rw [← Option.some.inj hv]
    exact (h.at _).put _ ((h.at _).get _)
  rw [if_neg h10'] at hv
  by_cases h14' : x.op = 14
  · rw [if_pos h14'] at hv
    rw [← Option.some.inj hv]
    exact ⟨V4.dot_ok _ _, V4.dot_ok _ _, V4.dot_ok _ _, V4.dot_ok _ _⟩
  rw [if_neg h14'] at hv
  cases hv

/-- a program that runs -/
structure St where
  rs : List Int
  gone : Bool
  over : Bool
  steps : Int
def St.tick (s : St) : St := { s with steps := s.steps + 1 }
def St.plus (s : St) (c : Int) : St := { s with steps := s.steps + c }
/-- an instruction that is no Loop and no Skip that takes effect -/
def exec (x : In) (s : St) : St :=
  if x.op = 0 then { s.tick with over := true }
  else if x.op = 13 ∧ (regAt s.rs x.a.toNat).c0 < 0 then { s.tick with gone := true, over := true }
  else match outV x s.rs with
    | some v => { s.tick with rs := regPut s.rs x.dst.toNat v }
    | none => s.tick
def iter (f : St → St) : Nat → St → St
  | 0, s => s
  | n + 1, s => iter f n (f s)
def runP (p : List In) : Nat → Nat → Nat → St → St
  | 0, _, _, s => s
  | F + 1, i, tp, s =>
    if i < tp ∧ s.over = false then
      match p[i]? with
      | none => s
      | some x =>
        if x.op = 12 then runP p F (i + 1 + x.b.toNat) tp (iter (runP p F (i + 1) (i + 1 + x.b.toNat)) x.imm.toNat s.tick)
        else if x.op = 11 ∧ (regAt s.rs x.a.toNat).c0 < 0 then runP p F (i + 1 + x.imm.toNat) tp s.tick
        else runP p F (i + 1) tp (exec x s)
    else s
theorem run_stop (p : List In) (F : Nat) {i tp : Nat} {s : St} (h : tp ≤ i ∨ s.over = true) : runP p F i tp s = s := by
  cases F with
  | zero => rfl
  | succ F =>
    unfold runP
    rw [if_neg]
    rintro ⟨h1, h2⟩
    rcases h with h | h
    · omega
    · rw [h] at h2; cases h2
theorem run_loop {p : List In} {F i tp : Nat} {s : St} (hi : i < tp) (ho : s.over = false) {x : In} (hx : p[i]? = some x) (h : x.op = 12) : runP p (F + 1) i tp s = runP p F (i + 1 + x.b.toNat) tp (iter (runP p F (i + 1) (i + 1 + x.b.toNat)) x.imm.toNat s.tick) := by
  rw [runP, if_pos ⟨hi, ho⟩, hx]
  simp only [if_pos h]
theorem run_skip {p : List In} {F i tp : Nat} {s : St} (hi : i < tp) (ho : s.over = false) {x : In} (hx : p[i]? = some x) (h : x.op = 11) (hn : (regAt s.rs x.a.toNat).c0 < 0) : runP p (F + 1) i tp s = runP p F (i + 1 + x.imm.toNat) tp s.tick := by
  rw [runP, if_pos ⟨hi, ho⟩, hx]
  simp only [if_neg (show ¬ x.op = 12 by omega), if_pos (And.intro h hn)]
theorem run_step {p : List In} {F i tp : Nat} {s : St} (hi : i < tp) (ho : s.over = false) {x : In} (hx : p[i]? = some x) (h : x.op ≠ 12) (hn : ¬ (x.op = 11 ∧ (regAt s.rs x.a.toNat).c0 < 0)) : runP p (F + 1) i tp s = runP p F (i + 1) tp (exec x s) := by
  rw [runP, if_pos ⟨hi, ho⟩, hx]
  simp only [if_neg h, if_neg hn]
theorem run_none {p : List In} {F i tp : Nat} {s : St} (hx : p[i]? = none) : runP p F i tp s = s := by
  cases F with
  | zero => rfl
  | succ F =>
    rw [runP]
    split
    · rw [hx]
    · rfl
/-- the three ways on -/
theorem run_ways (p : List In) (i tp : Nat) (s : St) : (tp ≤ i ∨ s.over = true) ∨ (i < tp ∧ s.over = false) := by
  by_cases h : i < tp
  · cases ho : s.over
    · exact .inr ⟨h, rfl⟩
    · exact .inl (.inr rfl)
  · exact .inl (.inl (by omega))
theorem iter_congr {f g : St → St} (n : Nat) (s : St) (h : ∀ s, f s = g s) : iter f n s = iter g n s := by
  rw [show f = g from funext h]

def Flat (p : List In) (i tp : Nat) : Prop := ∀ (j : Nat) x, i ≤ j → j < tp → p[j]? = some x → x.op ≠ 12
def Good (p : List In) (i tp : Nat) : Prop := ∀ (j : Nat) x, i ≤ j → j < tp → p[j]? = some x → x.op = 12 → j + 1 + x.b.toNat ≤ tp ∧ Flat p (j + 1) (j + 1 + x.b.toNat)
theorem Flat.good {p : List In} {i tp : Nat} (h : Flat p i tp) : Good p i tp := fun j x h1 h2 hx ho => absurd ho (h j x h1 h2 hx)
theorem Good.mono {p : List In} {i i' tp : Nat} (h : Good p i tp) (hi : i ≤ i') : Good p i' tp := fun j x h1 h2 hx ho => h j x (by omega) h2 hx ho
theorem good_of {d : Bool} {p : List In} (hok : ∀ x ∈ p, x.ok) (h : allAt d p) : Good p 0 p.length := by
  intro j x _ hj hx ho
  have hxo := hok x (List.mem_of_getElem? hx)
  have h1 := loopH_iff.1 ((at1_zero.1 (h j x hx)).2.2.2.1 ho)
  have hb := hxo.2.2.2.1
  refine ⟨by omega, fun k y h2 h3 hy ho2 => ?_⟩
  have h4 := loopH_iff.1 ((at1_zero.1 (h k y hy)).2.2.2.1 ho2)
  rcases around_cases p k with ⟨_, h5⟩ | ⟨m, z, e, _⟩
  · have := h5 j x hx
    rw [show hasB x j k = true from hasB_iff.2 ⟨ho, by omega, by omega⟩] at this
    cases this
  · omega
/-- a Skip leads on, and not beyond the end -/
def Ahead (p : List In) : Prop := ∀ (j : Nat) x, p[j]? = some x → x.op = 11 → j + 1 + x.imm.toNat ≤ p.length
theorem ahead_of {d : Bool} {p : List In} (h : allAt d p) : Ahead p := fun j x hx ho => by
  have h1 := skipH_iff.1 ((at1_zero.1 (h j x hx)).2.2.2.2 ho)
  omega

theorem run_fuel {p : List In} : ∀ (F F' i tp : Nat) (s : St), Good p i tp → tp - i ≤ F → tp - i ≤ F' → runP p F i tp s = runP p F' i tp s := by
  intro F
  induction F with
  | zero =>
    intro F' i tp s hg h1 h2
    rw [run_stop p 0 (.inl (by omega)), run_stop p F' (.inl (by omega))]
  | succ F ih =>
    intro F' i tp s hg h1 h2
    rcases run_ways p i tp s with h | ⟨hi, ho⟩
    · rw [run_stop p _ h, run_stop p _ h]
    · obtain ⟨F2, rfl⟩ : ∃ k, F' = k + 1 := ⟨F' - 1, by omega⟩
      cases hx : p[i]? with
      | none => rw [run_none hx, run_none hx]
      | some x =>
        by_cases h12 : x.op = 12
        · obtain ⟨g1, g2⟩ := hg i x (Nat.le_refl _) hi hx h12
          rw [run_loop hi ho hx h12, run_loop hi ho hx h12]
          rw [iter_congr _ _ fun s => ih F2 (i + 1) (i + 1 + x.b.toNat) s g2.good (by omega) (by omega)]
          exact ih F2 _ tp _ (hg.mono (by omega)) (by omega) (by omega)
        · by_cases h11 : x.op = 11 ∧ (regAt s.rs x.a.toNat).c0 < 0
          · rw [run_skip hi ho hx h11.1 h11.2, run_skip hi ho hx h11.1 h11.2]
            exact ih F2 _ tp _ (hg.mono (by omega)) (by omega) (by omega)
          · rw [run_step hi ho hx h12 h11, run_step hi ho hx h12 h11]
            exact ih F2 _ tp _ (hg.mono (by omega)) (by omega) (by omega)

/- steps -/
theorem exec_plus (x : In) (s : St) (c : Int) : exec x (s.plus c) = (exec x s).plus c := by
  have e1 : (s.plus c).rs = s.rs := rfl
  have e2 : (s.plus c).tick = s.tick.plus c := by simp [St.plus, St.tick]; omega
  unfold exec
  rw [e1, e2]
  split
  · rfl
  · split
    · rfl
    · split <;> rfl
theorem iter_plus {f : St → St} {c : Int} (h : ∀ s, f (s.plus c) = (f s).plus c) : ∀ (n : Nat) (s : St), iter f n (s.plus c) = (iter f n s).plus c
  | 0, s => rfl
  | n + 1, s => by rw [iter, iter, h, iter_plus h n]
theorem run_plus (p : List In) (c : Int) : ∀ (F i tp : Nat) (s : St), runP p F i tp (s.plus c) = (runP p F i tp s).plus c := by
  intro F
  induction F with
  | zero => intro i tp s; rfl
  | succ F ih =>
    intro i tp s
    have e1 : (s.plus c).rs = s.rs := rfl
    have e3 : (s.plus c).over = s.over := rfl
    have e2 : (s.plus c).tick = s.tick.plus c := by simp [St.plus, St.tick]; omega
    rcases run_ways p i tp s with h | ⟨hi, ho⟩
    · rw [run_stop p _ h, run_stop p _ (by rw [e3]; exact h)]
    · cases hx : p[i]? with
      | none => rw [run_none hx, run_none hx]
      | some x =>
        by_cases h12 : x.op = 12
        · rw [run_loop hi ho hx h12, run_loop hi (by rw [e3]; exact ho) hx h12, e2, iter_plus (fun s => ih _ _ s), ih]
        · by_cases h11 : x.op = 11 ∧ (regAt s.rs x.a.toNat).c0 < 0
          · rw [run_skip hi ho hx h11.1 h11.2, run_skip hi (by rw [e3]; exact ho) hx h11.1 (by rw [e1]; exact h11.2), e2, ih]
          · rw [run_step hi ho hx h12 h11, run_step hi (by rw [e3]; exact ho) hx h12 (by rw [e1]; exact h11), exec_plus, ih]

/- joined -/
theorem run_left {p q : List In} : ∀ (F i tp : Nat) (s : St), Good p i tp → tp ≤ p.length → runP (p ++ q) F i tp s = runP p F i tp s := by
  intro F
  induction F with
  | zero => intro i tp s _ _; rfl
  | succ F ih =>
    intro i tp s hg hl
    rcases run_ways p i tp s with h | ⟨hi, ho⟩
    · rw [run_stop _ _ h, run_stop _ _ h]
    · have hx : p[i]? = some p[i] := by simp [show i < p.length by omega]
      have hx' : (p ++ q)[i]? = some p[i] := get_left hx
      generalize p[i] = x at hx hx'
      by_cases h12 : x.op = 12
      · obtain ⟨g1, g2⟩ := hg i x (Nat.le_refl _) hi hx h12
        rw [run_loop hi ho hx h12, run_loop hi ho hx' h12]
        rw [iter_congr _ _ fun s => ih (i + 1) (i + 1 + x.b.toNat) s g2.good (by omega)]
        exact ih _ tp _ (hg.mono (by omega)) hl
      · by_cases h11 : x.op = 11 ∧ (regAt s.rs x.a.toNat).c0 < 0
        · rw [run_skip hi ho hx h11.1 h11.2, run_skip hi ho hx' h11.1 h11.2]
          exact ih _ tp _ (hg.mono (by omega)) hl
        · rw [run_step hi ho hx h12 h11, run_step hi ho hx' h12 h11]
          exact ih _ tp _ (hg.mono (by omega)) hl
theorem run_right {p q : List In} : ∀ (F i tp : Nat) (s : St), runP (p ++ q) F (p.length + i) (p.length + tp) s = runP q F i tp s := by
  intro F
  induction F with
  | zero => intro i tp s; rfl
  | succ F ih =>
    intro i tp s
    rcases run_ways q i tp s with h | ⟨hi, ho⟩
    · rw [run_stop _ _ h, run_stop _ _ (h.imp (fun h => by omega) id)]
    · have e : (p ++ q)[p.length + i]? = q[i]? := by
        rw [List.getElem?_append_right (by omega)]
        simp
      have hi' : p.length + i < p.length + tp := by omega
      cases hx : q[i]? with
      | none => rw [run_none hx, run_none (by rw [e]; exact hx)]
      | some x =>
        have hx' : (p ++ q)[p.length + i]? = some x := by rw [e]; exact hx
        by_cases h12 : x.op = 12
        · rw [run_loop hi ho hx h12, run_loop hi' ho hx' h12]
          rw [show p.length + i + 1 + x.b.toNat = p.length + (i + 1 + x.b.toNat) by omega, show p.length + i + 1 = p.length + (i + 1) by omega]
          rw [iter_congr _ _ fun s => ih (i + 1) (i + 1 + x.b.toNat) s]
          exact ih _ tp _
        · by_cases h11 : x.op = 11 ∧ (regAt s.rs x.a.toNat).c0 < 0
          · rw [run_skip hi ho hx h11.1 h11.2, run_skip hi' ho hx' h11.1 h11.2, show p.length + i + 1 + x.imm.toNat = p.length + (i + 1 + x.imm.toNat) by omega]
            exact ih _ tp _
          · rw [run_step hi ho hx h12 h11, run_step hi' ho hx' h12 h11, show p.length + i + 1 = p.length + (i + 1) by omega]
            exact ih _ tp _
theorem run_join {p q : List In} (hs : Ahead p) (gq : Good q 0 q.length) : ∀ (F i : Nat) (s : St), Good p i p.length → i ≤ p.length → p.length + q.length - i ≤ F → runP (p ++ q) F i (p.length + q.length) s = runP q q.length 0 q.length (runP p F i p.length s) := by
  intro F
  induction F with
  | zero =>
    intro i s hg hi hF
    have h1 : q.length = 0 := by omega
    rw [h1]
    rfl
  | succ F ih =>
    intro i s hg hil hF
    by_cases hp : i = p.length
    · subst hp
      rw [run_stop p _ (.inl (Nat.le_refl _))]
      have hr := run_right (p := p) (q := q) (F + 1) 0 q.length s
      simp only [Nat.add_zero] at hr
      rw [hr]
      exact run_fuel _ _ _ _ _ gq (by omega) (by omega)
    · rcases run_ways p i p.length s with h | ⟨hi, ho⟩
      · have hov : s.over = true := by
          rcases h with h | h
          · omega
          · exact h
        rw [run_stop _ _ (.inr hov), run_stop _ _ (.inr hov), run_stop _ _ (.inr hov)]
      · have hx : p[i]? = some p[i] := by simp [hi]
        have hx' : (p ++ q)[i]? = some p[i] := get_left hx
        generalize p[i] = x at hx hx'
        have hi' : i < p.length + q.length := by omega
        by_cases h12 : x.op = 12
        · obtain ⟨g1, g2⟩ := hg i x (Nat.le_refl _) hi hx h12
          rw [run_loop hi ho hx h12, run_loop hi' ho hx' h12]
          rw [iter_congr _ _ fun s => run_left (p := p) (q := q) F (i + 1) (i + 1 + x.b.toNat) s g2.good g1]
          exact ih _ _ (hg.mono (by omega)) g1 (by omega)
        · by_cases h11 : x.op = 11 ∧ (regAt s.rs x.a.toNat).c0 < 0
          · rw [run_skip hi ho hx h11.1 h11.2, run_skip hi' ho hx' h11.1 h11.2]
            exact ih _ _ (hg.mono (by omega)) (hs i x hx h11.1) (by omega)
          · rw [run_step hi ho hx h12 h11, run_step hi' ho hx' h12 h11]
            exact ih _ _ (hg.mono (by omega)) (by omega) (by omega)
end Go.Proofs.Ytellfhnfifgpoaa

namespace Go.Proofs.Ytellfhnfifgpoaa
set_option linter.unusedVariables false

/- what holds of every step holds of the run -/
theorem iter_keep {P : St → Prop} {f : St → St} (h : ∀ s, P s → P (f s)) : ∀ (n : Nat) (s : St), P s → P (iter f n s)
  | 0, s, hs => hs
  | n + 1, s, hs => iter_keep h n _ (h s hs)
theorem run_keep {P : St → Prop} {p : List In} (ht : ∀ s, P s → P s.tick) (he : ∀ x ∈ p, ∀ s, P s → P (exec x s)) : ∀ (F i tp : Nat) (s : St), P s → P (runP p F i tp s) := by
  intro F
  induction F with
  | zero => intro i tp s hs; exact hs
  | succ F ih =>
    intro i tp s hs
    rcases run_ways p i tp s with h | ⟨hi, ho⟩
    · rw [run_stop _ _ h]; exact hs
    · cases hx : p[i]? with
      | none => rw [run_none hx]; exact hs
      | some x =>
        by_cases h12 : x.op = 12
        · rw [run_loop hi ho hx h12]
          exact ih _ _ _ (iter_keep (fun s hs => ih _ _ s hs) _ _ (ht s hs))
        · by_cases h11 : x.op = 11 ∧ (regAt s.rs x.a.toNat).c0 < 0
          · rw [run_skip hi ho hx h11.1 h11.2]
            exact ih _ _ _ (ht s hs)
          · rw [run_step hi ho hx h12 h11]
            exact ih _ _ _ (he x (List.mem_of_getElem? hx) s hs)
theorem exec_rb {x : In} (hx : x.ok) {s : St} (h : RB s.rs) : RB (exec x s).rs := by
  unfold exec
  split
  · exact h
  · split
    · exact h
    · split
      · rename_i v hv
        exact h.put _ (outV_ok hx h hv)
      · exact h
theorem run_rb {p : List In} (hok : ∀ x ∈ p, x.ok) (F i tp : Nat) {s : St} (h : RB s.rs) : RB (runP p F i tp s).rs :=
  run_keep (P := fun s => RB s.rs) (fun s hs => hs) (fun x hx s hs => exec_rb (hok x hx) hs) F i tp s h
/-- no End, no Discard -/
def Quiet (p : List In) : Prop := ∀ x ∈ p, x.op ≠ 0 ∧ x.op ≠ 13
theorem exec_quiet {x : In} (h : x.op ≠ 0 ∧ x.op ≠ 13) (s : St) : (exec x s).over = s.over ∧ (exec x s).gone = s.gone := by
  unfold exec
  rw [if_neg h.1, if_neg (fun e => h.2 e.1)]
  split <;> exact ⟨rfl, rfl⟩
theorem run_quiet {p : List In} (hq : Quiet p) (F i tp : Nat) (s : St) : (runP p F i tp s).over = s.over ∧ (runP p F i tp s).gone = s.gone :=
  run_keep (P := fun t => t.over = s.over ∧ t.gone = s.gone) (fun t ht => ht) (fun x hx t ht => by
    obtain ⟨h1, h2⟩ := exec_quiet (hq x hx) t
    rw [h1, h2]
    exact ht) F i tp s ⟨rfl, rfl⟩

/- loops -/
def flatN (body : List In) : Nat → List In
  | 0 => []
  | n + 1 => body ++ flatN body n
theorem flatN_snoc (body : List In) : ∀ n, flatN body n ++ body = flatN body (n + 1)
  | 0 => by simp [flatN]
  | n + 1 => by
    rw [flatN, List.append_assoc, flatN_snoc body n]
    rfl
theorem flatN_length (body : List In) : ∀ n, (flatN body n).length = n * body.length
  | 0 => by simp [flatN]
  | n + 1 => by rw [flatN, List.length_append, flatN_length body n, Nat.add_mul, Nat.one_mul]; omega
/-- no Loop, no Skip -/
def Straight (p : List In) : Prop := ∀ x ∈ p, x.op ≠ 12 ∧ x.op ≠ 11
theorem Straight.flat {p : List In} (h : Straight p) (i tp : Nat) : Flat p i tp := fun j x _ _ hx => (h x (List.mem_of_getElem? hx)).1
theorem Straight.ahead {p : List In} (h : Straight p) : Ahead p := fun j x hx ho => absurd ho (h x (List.mem_of_getElem? hx)).2
theorem flatN_straight {body : List In} (h : Straight body) : ∀ n, Straight (flatN body n)
  | 0 => fun x hx => by cases hx
  | n + 1 => fun x hx => by
    rcases List.mem_append.1 hx with h1 | h1
    · exact h x h1
    · exact flatN_straight h n x h1
theorem run_flatN {body : List In} (h : Straight body) : ∀ (n F : Nat) (s : St), n * body.length ≤ F → runP (flatN body n) F 0 (flatN body n).length s = iter (runP body body.length 0 body.length) n s
  | 0, F, s, hF => by rw [run_stop _ _ (.inl (by simp [flatN]))]; rfl
  | n + 1, F, s, hF => by
    have hl := flatN_length body n
    rw [Nat.add_mul, Nat.one_mul] at hF
    rw [flatN, List.length_append, run_join h.ahead ((flatN_straight h n).flat _ _).good F 0 s (h.flat _ _).good (Nat.zero_le _) (by omega)]
    rw [run_flatN h n _ _ (by omega), run_fuel F body.length 0 body.length s (h.flat _ _).good (by omega) (by omega)]
    rfl
theorem run_looped {body : List In} (h : Straight body) (b n : Int) (hb : b.toNat = body.length) (F : Nat) (s : St) (ho : s.over = false) (hF : 1 + body.length ≤ F) :
    runP (⟨12, 0, 0, b, n⟩ :: body) F 0 (1 + body.length) s = iter (runP body body.length 0 body.length) n.toNat s.tick := by
  obtain ⟨F, rfl⟩ : ∃ k, F = k + 1 := ⟨F - 1, by omega⟩
  rw [run_loop (x := ⟨12, 0, 0, b, n⟩) (by omega) ho (by simp) rfl]
  rw [run_stop _ _ (.inl (by simp only [hb]; omega))]
  refine iter_congr _ _ fun s => ?_
  have := run_right (p := [⟨12, 0, 0, b, n⟩]) (q := body) F 0 body.length s
  simp only [List.length_cons, List.length_nil, List.cons_append, List.nil_append] at this
  rw [show 0 + 1 + b.toNat = 0 + 1 + body.length by rw [hb]]
  simp only [Nat.add_zero, Nat.zero_add] at this ⊢
  rw [this]
  exact run_fuel _ _ _ _ _ (h.flat _ _).good (by omega) (by omega)

/- steps -/
def costN (p : List In) : Nat → Nat → Int
  | 0, _ => 0
  | n + 1, i => 1 + (match p[i]? with | some x => extra x | none => 0) + costN p n (i + 1)
theorem costN_pos {p : List In} (hok : ∀ x ∈ p, x.ok) : ∀ n i, 0 ≤ costN p n i
  | 0, i => by simp [costN]
  | n + 1, i => by
    have := costN_pos hok n (i + 1)
    rw [costN]
    split
    · rename_i x hx
      have := extra_bd (hok x (List.mem_of_getElem? hx))
      omega
    · omega
theorem costN_add (p : List In) : ∀ a b i, costN p (a + b) i = costN p a i + costN p b (i + a)
  | 0, b, i => by simp [costN]
  | a + 1, b, i => by
    rw [show a + 1 + b = (a + b) + 1 by omega, costN, costN, costN_add p a b (i + 1), show i + 1 + a = i + (a + 1) by omega]
    omega
theorem costN_flat {p : List In} : ∀ n i, Flat p i (i + n) → costN p n i = n
  | 0, i, h => by simp [costN]
  | n + 1, i, h => by
    rw [costN, costN_flat n (i + 1) (fun j x h1 h2 hx => h j x (by omega) (by omega) hx)]
    split
    · rename_i x hx
      have := h i x (Nat.le_refl _) (by omega) hx
      unfold extra
      rw [if_neg this]
      omega
    · omega
theorem exec_steps (x : In) (s : St) : (exec x s).steps = s.steps + 1 := by
  unfold exec
  split
  · rfl
  · split
    · rfl
    · split <;> rfl
theorem iter_steps {f : St → St} {c : Int} (h : ∀ s, (f s).steps ≤ s.steps + c) : ∀ (n : Nat) (s : St), (iter f n s).steps ≤ s.steps + n * c
  | 0, s => by simp [iter]
  | n + 1, s => by
    have h1 := iter_steps h n (f s)
    have h2 := h s
    rw [iter]
    have : ((n + 1 : Nat) : Int) * c = n * c + c := by rw [show ((n + 1 : Nat) : Int) = (n : Int) + 1 by omega, Int.add_mul, Int.one_mul]
    omega
theorem run_steps {p : List In} (hok : ∀ x ∈ p, x.ok) (himm : ∀ x ∈ p, x.op = 12 → 1 ≤ x.imm) : ∀ (F i tp : Nat) (s : St), Good p i tp → (runP p F i tp s).steps ≤ s.steps + costN p (tp - i) i := by
  intro F
  induction F with
  | zero =>
    intro i tp s hg
    have := costN_pos hok (tp - i) i
    show s.steps ≤ _
    omega
  | succ F ih =>
    intro i tp s hg
    have hpos := costN_pos hok (tp - i) i
    rcases run_ways p i tp s with h | ⟨hi, ho⟩
    · rw [run_stop _ _ h]; omega
    · cases hx : p[i]? with
      | none => rw [run_none hx]; omega
      | some x =>
        have hm := List.mem_of_getElem? hx
        have hex := extra_bd (hok x hm)
        have e1 : costN p (tp - i) i = 1 + extra x + costN p (tp - (i + 1)) (i + 1) := by
          rw [show tp - i = (tp - (i + 1)) + 1 by omega, costN, hx]
        by_cases h12 : x.op = 12
        · obtain ⟨g1, g2⟩ := hg i x (Nat.le_refl _) hi hx h12
          have hb := (hok x hm).2.2.2.1
          have hi1 := himm x hm h12
          have hc1 := costN_flat x.b.toNat (i + 1) g2
          have hstep : ∀ s, (runP p F (i + 1) (i + 1 + x.b.toNat) s).steps ≤ s.steps + x.b := fun s => by
            have := ih (i + 1) (i + 1 + x.b.toNat) s g2.good
            rw [show i + 1 + x.b.toNat - (i + 1) = x.b.toNat by omega, hc1] at this
            omega
          have h2 := iter_steps hstep x.imm.toNat s.tick
          have h3 := ih (i + 1 + x.b.toNat) tp (iter (runP p F (i + 1) (i + 1 + x.b.toNat)) x.imm.toNat s.tick) (hg.mono (by omega))
          have e2 : costN p (tp - (i + 1)) (i + 1) = x.b + costN p (tp - (i + 1 + x.b.toNat)) (i + 1 + x.b.toNat) := by
            rw [show tp - (i + 1) = x.b.toNat + (tp - (i + 1 + x.b.toNat)) by omega, costN_add, hc1]
            omega
          have e3 : extra x = x.b * (x.imm - 1) := by
            unfold extra maxI
            rw [if_pos h12]
            split
            · have : x.imm = 1 := by omega
              omega
            · rfl
          have e4 : (x.imm.toNat : Int) * x.b = x.b * (x.imm - 1) + x.b := by
            rw [show (x.imm.toNat : Int) = x.imm by omega, Int.mul_sub, Int.mul_one, Int.mul_comm]
            omega
          rw [run_loop hi ho hx h12]
          have h5 : s.tick.steps = s.steps + 1 := rfl
          omega
        · by_cases h11 : x.op = 11 ∧ (regAt s.rs x.a.toNat).c0 < 0
          · rw [run_skip hi ho hx h11.1 h11.2]
            have h3 := ih (i + 1 + x.imm.toNat) tp s.tick (hg.mono (by omega))
            have h5 : s.tick.steps = s.steps + 1 := rfl
            by_cases hle : i + 1 + x.imm.toNat ≤ tp
            · have e2 : costN p (tp - (i + 1)) (i + 1) = costN p x.imm.toNat (i + 1) + costN p (tp - (i + 1 + x.imm.toNat)) (i + 1 + x.imm.toNat) := by
                rw [show tp - (i + 1) = x.imm.toNat + (tp - (i + 1 + x.imm.toNat)) by omega, costN_add]
              have := costN_pos hok x.imm.toNat (i + 1)
              omega
            · rw [show tp - (i + 1 + x.imm.toNat) = 0 by omega] at h3
              have := costN_pos hok (tp - (i + 1)) (i + 1)
              simp only [costN] at h3
              omega
          · rw [run_step hi ho hx h12 h11]
            have h3 := ih (i + 1) tp (exec x s) (hg.mono (by omega))
            rw [exec_steps] at h3
            omega
theorem costN_fuel (p : List In) : costN p p.length 0 = fuelL p := by
  have : ∀ (q r : List In), costN (q ++ r) r.length q.length = r.length + extraL r := by
    intro q r
    induction r generalizing q with
    | nil => simp [costN, extraL]
    | cons x r ih =>
      have := ih (q ++ [x])
      rw [List.append_assoc, List.length_append] at this
      simp only [List.cons_append, List.nil_append, List.length_cons, List.length_nil, Nat.zero_add] at this
      rw [List.length_cons, costN, this]
      have hx : (q ++ x :: r)[q.length]? = some x := by simp
      rw [hx, extraL]
      simp only
      omega
  have := this [] p
  simp only [List.nil_append, List.length_nil] at this
  rw [this]
  rfl
/-- a program that may be takes no more steps than its fuel -/
theorem run_fuel_bound {d : Bool} {p : List In} (hok : ∀ x ∈ p, x.ok) (h : allAt d p) (F : Nat) (s : St) : (runP p F 0 p.length s).steps ≤ s.steps + fuelL p := by
  have := run_steps hok (fun x hx ho => by
    obtain ⟨i, hi⟩ := List.mem_iff_getElem?.1 hx
    exact (loopH_iff.1 ((at1_zero.1 (h i x hi)).2.2.2.1 ho)).2.2.1) F 0 p.length s (good_of hok h)
  rw [Nat.sub_zero, costN_fuel] at this
  exact this
end Go.Proofs.Ytellfhnfifgpoaa

namespace Go.Proofs.Ytellfhnfifgpoaa
open Go.RowKit
set_option linter.unusedVariables false

def In.cellsR (x : In) : List Value := [.int .i64 x.op, .int .i64 x.dst, .int .i64 x.a, .int .i64 x.b, .int .i64 x.imm]
def insR : List In → List Value
  | [] => []
  | x :: r => x.cellsR ++ insR r
theorem insR_append (l m : List In) : insR (l ++ m) = insR l ++ insR m := by
  induction l with
  | nil => rfl
  | cons x r ih => simp [insR, ih]
theorem insR_length (l : List In) : (insR l).length = l.length * 5 := by
  induction l with
  | nil => rfl
  | cons x r ih => simp [insR, ih, In.cellsR]; omega
theorem insR_get {l : List In} {j : Nat} {x : In} (h : l[j]? = some x) (i : Nat) (hi : i < 5) : (insR l)[j * 5 + i]? = x.cellsR[i]? := by
  induction l generalizing j with
  | nil => simp at h
  | cons y r ih =>
    cases j with
    | zero =>
      simp at h
      subst h
      rw [Nat.zero_mul, Nat.zero_add, insR, List.getElem?_append_left (by simpa [In.cellsR] using hi)]
    | succ j =>
      simp at h
      rw [insR, List.getElem?_append_right (by simp [In.cellsR]; omega)]
      rw [show (j + 1) * 5 + i - y.cellsR.length = j * 5 + i by simp [In.cellsR]; omega]
      exact ih h
theorem insR_set {l : List In} {j : Nat} (hj : j < l.length) (x : In) : insR (l.set j x) = (((((insR l).set (j * 5) (.int .i64 x.op)).set (j * 5 + 1) (.int .i64 x.dst)).set (j * 5 + 2) (.int .i64 x.a)).set (j * 5 + 3) (.int .i64 x.b)).set (j * 5 + 4) (.int .i64 x.imm) := by
  induction l generalizing j with
  | nil => simp at hj
  | cons y r ih =>
    cases j with
    | zero => simp [insR, In.cellsR]
    | succ j =>
      have := ih (j := j) (by simpa using hj)
      rw [List.set_cons_succ, insR, this]
      rw [show (j + 1) * 5 = j * 5 + 5 by omega]
      simp [insR, In.cellsR]
theorem insR_one (l : List In) : ∀ u ∈ insR l, u.oneCell' = true := by
  induction l with
  | nil => intro u hu; cases hu
  | cons x r ih =>
    intro u hu
    rcases List.mem_append.1 hu with h | h
    · simp [In.cellsR] at h
      rcases h with rfl | rfl | rfl | rfl | rfl <;> rfl
    · exact ih u h

/-- v is a slice of the call's own (of a block from base on) and holds these instructions -/
def OwnR (w : World) (base : Nat) (v : Value) (l : List In) : Prop := w.ownsRow base 79 5 v l.length (insR l)

theorem OwnR.lt {w : World} {base : Nat} {v : Value} {l : List In} (h : OwnR w base v l) : ∀ k, v.ownBlock = some k → base ≤ k ∧ k < w.heap.size := World.ownsRow.lt h
theorem OwnR.nil (w : World) (base : Nat) : OwnR w base (.slice none 0 0) [] := World.ownsRow_nil w base _ 5
theorem OwnR.kept {w w' : World} {base : Nat} {v : Value} {l : List In} (h : OwnR w base v l) (hb : ∀ k, v.ownBlock = some k → w'.heap[k]? = w.heap[k]?) : OwnR w' base v l := by
  obtain ⟨h1, h2⟩ := h
  refine ⟨h1, ?_⟩
  rcases h2 with h2 | ⟨g, cap, cur, rfl, a1, a2, a3, a4, a5, a6⟩
  · exact .inl h2
  · exact .inr ⟨g, cap, cur, rfl, a1, (hb g rfl).trans a2, a3, a4, a5, a6⟩
theorem OwnR.ext {w w' : World} {base : Nat} {v : Value} {l : List In} (h : OwnR w base v l) (hx : Ext w w') : OwnR w' base v l := h.kept fun k hk => hx.block (h.lt k hk).2
theorem OwnR.calm {O : List Nat} {w w' : World} {base : Nat} {v : Value} {l : List In} (h : OwnR w base v l) (hx : Calm O w w') (hO : ∀ k, v.ownBlock = some k → k ∉ O) : OwnR w' base v l := h.kept fun k hk => hx.block k (h.lt k hk).2 (hO k hk)
theorem OwnR.mono {w : World} {base base' : Nat} {v : Value} {l : List In} (h : OwnR w base v l) (hb : base' ≤ base) : OwnR w base' v l := by
  obtain ⟨h1, h2⟩ := h
  refine ⟨h1, ?_⟩
  rcases h2 with h2 | ⟨g, cap, cur, rfl, a1, a2⟩
  · exact .inl h2
  · exact .inr ⟨g, cap, cur, rfl, Nat.le_trans hb a1, a2⟩
theorem OwnR.slice {w : World} {base : Nat} {v : Value} {l : List In} (h : OwnR w base v l) : ∃ (ao : Option Addr) (c : Nat), v = .slice ao l.length c ∧ (ao = none → l = [] ∧ c = 0) ∧ ∀ a, ao = some a → a = ⟨a.block, 0, none⟩ := by
  rcases h.2 with ⟨rfl, h0⟩ | ⟨g, cap, cur, rfl, _⟩
  · have h0' : l = [] := List.eq_nil_of_length_eq_zero h0
    subst h0'
    exact ⟨none, 0, rfl, (fun _ => ⟨rfl, rfl⟩), (fun a ha => by cases ha)⟩
  · exact ⟨_, cap, rfl, (fun h => by cases h), (fun a ha => by cases ha; rfl)⟩
/-- an instruction, where it lies -/
theorem OwnR.nth {w : World} {base : Nat} {ao : Option Addr} {n c : Nat} {l : List In} (h : OwnR w base (.slice ao n c) l) (j : Nat) (hj : j < l.length) : ∃ g x, ao = some ⟨g, 0, none⟩ ∧ n = l.length ∧ l[j]? = some x ∧ w.cell? ⟨g, j * 5, none⟩ = some (.int .i64 x.op) ∧ w.cell? ⟨g, j * 5 + 1, none⟩ = some (.int .i64 x.dst) ∧ w.cell? ⟨g, j * 5 + 2, none⟩ = some (.int .i64 x.a) ∧ w.cell? ⟨g, j * 5 + 3, none⟩ = some (.int .i64 x.b) ∧ w.cell? ⟨g, j * 5 + 4, none⟩ = some (.int .i64 x.imm) := by
  have h' : w.ownsRow base 79 5 (.slice ao n c) l.length (insR l) := h
  rcases h.2 with ⟨e, h0⟩ | ⟨g, cap, cur, e, _⟩
  · omega
  · cases e
    have hx : l[j]? = some l[j] := by simp [hj]
    refine ⟨g, l[j], rfl, rfl, hx, ?_, ?_, ?_, ?_, ?_⟩
    · have := World.ownsRow.cellAt h' (j * 5) (by omega)
      rw [this]; exact insR_get hx 0 (by omega)
    · have := World.ownsRow.cellAt h' (j * 5 + 1) (by omega)
      rw [this]; exact insR_get hx 1 (by omega)
    · have := World.ownsRow.cellAt h' (j * 5 + 2) (by omega)
      rw [this]; exact insR_get hx 2 (by omega)
    · have := World.ownsRow.cellAt h' (j * 5 + 3) (by omega)
      rw [this]; exact insR_get hx 3 (by omega)
    · have := World.ownsRow.cellAt h' (j * 5 + 4) (by omega)
      rw [this]; exact insR_get hx 4 (by omega)
theorem OwnR.thaw {w : World} {base g c n : Nat} {L : List In} (h : OwnR w base (.slice (some ⟨g, 0, none⟩) n c) L) (hn : n = L.length) (j : Nat) : w.frozen? ⟨g, j, none⟩ = false := by
  subst hn
  exact World.ownsRow.frozenAt h j
/-- a whole instruction is stored -/
theorem OwnR.put {w : World} {base g c n : Nat} {L : List In} (h : OwnR w base (.slice (some ⟨g, 0, none⟩) n c) L) (hn : n = L.length) (j : Nat) (hj : j < L.length) (x : In) : OwnR (((((w.setCell ⟨g, j * 5, none⟩ (.int .i64 x.op)).setCell ⟨g, j * 5 + 1, none⟩ (.int .i64 x.dst)).setCell ⟨g, j * 5 + 2, none⟩ (.int .i64 x.a)).setCell ⟨g, j * 5 + 3, none⟩ (.int .i64 x.b)).setCell ⟨g, j * 5 + 4, none⟩ (.int .i64 x.imm)) base (.slice (some ⟨g, 0, none⟩) n c) (L.set j x) := by
  subst hn
  have h1 := (World.ownsRow.stored h (j * 5) (.int .i64 x.op)).1
  have h2 := (World.ownsRow.stored h1 (j * 5 + 1) (.int .i64 x.dst)).1
  have h3 := (World.ownsRow.stored h2 (j * 5 + 2) (.int .i64 x.a)).1
  have h4 := (World.ownsRow.stored h3 (j * 5 + 3) (.int .i64 x.b)).1
  have h5 := (World.ownsRow.stored h4 (j * 5 + 4) (.int .i64 x.imm)).1
  unfold OwnR
  rw [List.length_set, insR_set hj]
  exact h5

theorem info_ref : (Try.prog.info? 79).map (fun i => (i.zero, i.size, i.bytes)) = some (some (.agg #[.int .i64 0, .int .i64 0, .int .i64 0, .int .i64 0, .int .i64 0]), 5, 40) := by kernel_rfl

/-- what appending instructions to a slice of the call's own comes to: it stays in its block, or moves to a new one -/
theorem run_append_refs {w : World} (ty : TypeId) (base : Nat) (v : Value) (l : List In) (hown : OwnR w base v l) (ad : Addr) (c : Nat) (m : List In) (hm : ∀ j u, (insR m)[j]? = some u → w.cell? (ad.add j) = some u) (hlen : l.length + m.length ≤ 1000000) (hbase : base ≤ w.heap.size) :
    ∃ v' w', (Builtin.append_ #[37, 37] ty #[v, .slice (some ad) m.length c]).run Try.prog w = .ok v' w' ∧ OwnR w' base v' (l ++ m) ∧ Calm v.ownBlock.toList w w' ∧ ∀ k, v'.ownBlock = some k → v.ownBlock = some k ∨ k = w.heap.size := by
  obtain ⟨i, hi, hz, h1, h2⟩ := info_parts info_ref
  have hm' := hm
  have hl1 : (insR m).length = m.length * i.size := by rw [insR_length, h1]
  obtain ⟨v', w', hr, a1, a2, a3⟩ := run_append_own (P := Try.prog) w base 37 ty 79 i (.agg #[.int .i64 0, .int .i64 0, .int .i64 0, .int .i64 0, .int .i64 0]) 5 40 Try.underlying37 hi hz h1 h2 rfl (by decide) v l.length (insR l) hown ad m.length c (insR m) (by rw [insR_length]) hm' (insR_one m) (by simp only [maxLen]; omega) (by omega) hbase
  refine ⟨v', w', hr, by unfold OwnR; rw [List.length_append, insR_append]; exact a1, calm_grownBy a2, fun k hk => ?_⟩
  rcases hown.2 with ⟨rfl, h0⟩ | ⟨g, cap, cur, rfl, b1, b2, b3, b4, b5, b6⟩
  · by_cases hm0 : m.length = 0
    · have : v' = .slice none 0 0 := a3.2 ⟨rfl, hm0⟩
      rw [this] at hk; cases hk
    · have e := run_append_nil (P := Try.prog) w 37 ty 79 i (.agg #[.int .i64 0, .int .i64 0, .int .i64 0, .int .i64 0, .int .i64 0]) Try.underlying37 hi hz ad m.length c (insR m) hl1 hm' (by omega) (by omega) (by rw [h2]; omega)
      rw [hr] at e
      have e' := (Result.ok.inj e).1
      rw [e'] at hk
      exact .inr (Option.some.inj hk).symm
  · by_cases hroom : l.length + m.length ≤ cap
    · have e := run_append_room (P := Try.prog) w 37 ty 79 i Try.underlying37 hi g l.length cap cur b2 ad m.length c (insR m) hl1 hm' (insR_one m) hroom (by rw [h1, insR_length, b5]; omega)
      rw [hr] at e
      have e' := (Result.ok.inj e).1
      rw [e'] at hk
      exact .inl hk
    · have e := run_append_grow (P := Try.prog) w 37 ty 79 i (.agg #[.int .i64 0, .int .i64 0, .int .i64 0, .int .i64 0, .int .i64 0]) Try.underlying37 hi hz ⟨g, 0, none⟩ l.length cap (insR l) (by rw [insR_length, h1]) (World.ownsRow.cells hown (g := g) rfl) ad m.length c (insR m) hl1 hm' (by omega) (by omega) (growslice_fits (by omega) (by rw [h2]; omega))
      rw [hr] at e
      have e' := (Result.ok.inj e).1
      rw [e'] at hk
      exact .inr (Option.some.inj hk).symm

theorem wpList_append_refs {ops : Array Oper} {rest : List Oper} {o : Oper} {a : Act} {w : World} {Q : Exit → Act → World → Prop} (hgd : o.guard = none) (s x : Operand)
    (ho : o.op = .call { callee := .builtin .append, args := #[s, x], argTypes := #[37, 37] }) (base : Nat) (v : Value) (l : List In) (hs : a.eval s = v) (hown : OwnR w base v l)
    (ad : Addr) (c : Nat) (m : List In) (hx : a.eval x = .slice (some ad) m.length c) (hm : ∀ j u, (insR m)[j]? = some u → w.cell? (ad.add j) = some u) (hlen : l.length + m.length ≤ 1000000) (hbase : base ≤ w.heap.size)
    (h : ∀ v' w', OwnR w' base v' (l ++ m) → Calm v.ownBlock.toList w w' → (∀ k, v'.ownBlock = some k → v.ownBlock = some k ∨ k = w.heap.size) → wpList Try.prog ops Q rest (a.put o.dst v') w') : wpList Try.prog ops Q (o :: rest) a w :=
  wpList_plain hgd fun K hK => by
    obtain ⟨v', w', hr, h1, h2, h3⟩ := run_append_refs o.type base v l hown ad c m hm hlen hbase
    unfold Oper.wp execOp
    simp only [ho, resolve, invoke, builtin, Sem.run_bind, Sem.run_pure, Result.andThen_ok, List.map_toArray, List.map_cons, List.map_nil, hs, hx, hr]
    exact hK _ _ (h v' w' h1 h2 h3)
/-- one instruction -/
theorem wpList_append_ref {ops : Array Oper} {rest : List Oper} {o : Oper} {a : Act} {w : World} {Q : Exit → Act → World → Prop} (hgd : o.guard = none) (s x : Operand)
    (ho : o.op = .call { callee := .builtin .append, args := #[s, x], argTypes := #[37, 37] }) (base : Nat) (v : Value) (l : List In) (hs : a.eval s = v) (hown : OwnR w base v l)
    (g c : Nat) (y : In) (hx : a.eval x = .slice (some ⟨g, 0, none⟩) 1 c) (hy : ∀ i u, y.cellsR[i]? = some u → w.cell? ⟨g, i, none⟩ = some u) (hlen : l.length < 1000000) (hbase : base ≤ w.heap.size)
    (h : ∀ v' w', OwnR w' base v' (l ++ [y]) → Calm v.ownBlock.toList w w' → (∀ k, v'.ownBlock = some k → v.ownBlock = some k ∨ k = w.heap.size) → wpList Try.prog ops Q rest (a.put o.dst v') w') : wpList Try.prog ops Q (o :: rest) a w :=
  wpList_append_refs hgd s x ho base v l hs hown ⟨g, 0, none⟩ c [y] hx (fun j u hj => by
    rw [show insR [y] = y.cellsR by simp [insR]] at hj
    have := hy j u hj
    rcases Nat.eq_zero_or_pos j with h0 | h0
    · subst h0; simpa [Addr.add] using this
    · simpa [Addr.add, Nat.ne_of_gt h0] using this) (by simp; omega) hbase h
/-- all of another slice of the call's own (or nil) -/
theorem wpList_append_ownR {ops : Array Oper} {rest : List Oper} {o : Oper} {a : Act} {w : World} {Q : Exit → Act → World → Prop} (hgd : o.guard = none) (s x : Operand)
    (ho : o.op = .call { callee := .builtin .append, args := #[s, x], argTypes := #[37, 37] }) (base : Nat) (v : Value) (l : List In) (hs : a.eval s = v) (hown : OwnR w base v l)
    (base' : Nat) (vx : Value) (m : List In) (hx : a.eval x = vx) (hm : OwnR w base' vx m) (hlen : l.length + m.length ≤ 1000000) (hbase : base ≤ w.heap.size)
    (h : ∀ v' w', OwnR w' base v' (l ++ m) → Calm v.ownBlock.toList w w' → (∀ k, v'.ownBlock = some k → v.ownBlock = some k ∨ k = w.heap.size) → wpList Try.prog ops Q rest (a.put o.dst v') w') : wpList Try.prog ops Q (o :: rest) a w := by
  obtain ⟨ao, c, rfl, h1, h2⟩ := hm.slice
  cases ao with
  | none =>
    obtain ⟨rfl, rfl⟩ := h1 rfl
    obtain ⟨i, hi, _, _, _⟩ := info_parts info_ref
    refine wpList_append_own_none hgd s x 37 ho base 79 i 5 Try.underlying37 hi v l.length (insR l) hs hown hx (h v w (by simpa using hown) (Calm.refl _ _) fun k hk => .inl hk)
  | some ad =>
    have e := h2 ad rfl
    rw [e] at hm hx
    exact wpList_append_refs hgd s x ho base v l hs hown ⟨ad.block, 0, none⟩ c m hx (World.ownsRow.cells hm (g := ad.block) rfl) hlen hbase h

end Go.Proofs.Ytellfhnfifgpoaa

namespace Go.Proofs.Ytellfhnfifgpoaa
open Go.RowKit
set_option linter.unusedVariables false

def stL (s : St) : List Value := s.rs.map (Value.int .i64) ++ [.bool s.gone, .bool s.over, .int .i64 s.steps]
def StAt (w : World) (b : Nat) (s : St) : Prop := Blk w b (stL s).toArray 35 ∧ s.rs.length = 48
theorem StAt.len {w : World} {b : Nat} {s : St} (h : StAt w b s) : s.rs.length = 48 := h.2
theorem StAt.lt {w : World} {b : Nat} {s : St} (h : StAt w b s) : b < w.heap.size := h.1.lt
theorem stL_get {s : St} {j : Nat} (hj : j < s.rs.length) : (stL s)[j]? = some (.int .i64 (s.rs.getD j 0)) := by
  unfold stL
  rw [List.getElem?_append_left (by simpa using hj)]
  simp [List.getD, hj]
theorem StAt.cell {w : World} {b : Nat} {s : St} (h : StAt w b s) (j : Nat) (hj : j < 48) : w.cell? ⟨b, j, none⟩ = some (.int .i64 (s.rs.getD j 0)) := by
  rw [h.1.cell j]
  simpa using stL_get (by rw [h.2]; exact hj)
theorem StAt.gone {w : World} {b : Nat} {s : St} (h : StAt w b s) : w.cell? ⟨b, 48, none⟩ = some (.bool s.gone) := by
  rw [h.1.cell 48]
  simp [stL, h.2]
theorem StAt.over {w : World} {b : Nat} {s : St} (h : StAt w b s) : w.cell? ⟨b, 49, none⟩ = some (.bool s.over) := by
  rw [h.1.cell 49]
  simp [stL, h.2]
theorem StAt.steps {w : World} {b : Nat} {s : St} (h : StAt w b s) : w.cell? ⟨b, 50, none⟩ = some (.int .i64 s.steps) := by
  rw [h.1.cell 50]
  simp [stL, h.2]
theorem StAt.thaw {w : World} {b : Nat} {s : St} (h : StAt w b s) (o : Nat) : w.frozen? ⟨b, o, none⟩ = false := h.1.frozen o
theorem StAt.calm {O : List Nat} {w w' : World} {b : Nat} {s : St} (h : StAt w b s) (hx : Calm O w w') (hb : b ∉ O) : StAt w' b s := ⟨h.1.calm hx hb, h.2⟩
theorem StAt.ext {w w' : World} {b : Nat} {s : St} (h : StAt w b s) (hx : Ext w w') : StAt w' b s := ⟨h.1.ext hx, h.2⟩
theorem stL_set (s : St) (j : Nat) (hj : j < s.rs.length) (n : Int) : (stL s).set j (.int .i64 n) = stL { s with rs := s.rs.set j n } := by
  unfold stL
  rw [List.set_append_left _ _ (by simpa using hj), List.map_set]
theorem StAt.setReg {w : World} {b : Nat} {s : St} (h : StAt w b s) (j : Nat) (hj : j < 48) (n : Int) : StAt (w.setCell ⟨b, j, none⟩ (.int .i64 n)) b { s with rs := s.rs.set j n } := by
  refine ⟨?_, by simpa using h.2⟩
  have := h.1.set j (.int .i64 n)
  rw [← stL_set s j (by rw [h.2]; exact hj) n]
  simpa using this
theorem StAt.put {w : World} {b : Nat} {s : St} (h : StAt w b s) (r : Nat) (hr : r < 12) (v : V4) : StAt ((((w.setCell ⟨b, r * 4, none⟩ (.int .i64 v.c0)).setCell ⟨b, r * 4 + 1, none⟩ (.int .i64 v.c1)).setCell ⟨b, r * 4 + 2, none⟩ (.int .i64 v.c2)).setCell ⟨b, r * 4 + 3, none⟩ (.int .i64 v.c3)) b { s with rs := regPut s.rs r v } :=
  (((h.setReg (r * 4) (by omega) v.c0).setReg (r * 4 + 1) (by omega) v.c1).setReg (r * 4 + 2) (by omega) v.c2).setReg (r * 4 + 3) (by omega) v.c3
theorem StAt.setSteps {w : World} {b : Nat} {s : St} (h : StAt w b s) (n : Int) : StAt (w.setCell ⟨b, 50, none⟩ (.int .i64 n)) b { s with steps := n } := by
  refine ⟨?_, h.2⟩
  have := h.1.set 50 (.int .i64 n)
  have e : (stL s).set 50 (.int .i64 n) = stL { s with steps := n } := by
    unfold stL
    rw [List.set_append_right _ _ (by simp [h.2])]
    simp [h.2]
  rw [← e]
  simpa using this
theorem StAt.setOver {w : World} {b : Nat} {s : St} (h : StAt w b s) (n : Bool) : StAt (w.setCell ⟨b, 49, none⟩ (.bool n)) b { s with over := n } := by
  refine ⟨?_, h.2⟩
  have := h.1.set 49 (.bool n)
  have e : (stL s).set 49 (.bool n) = stL { s with over := n } := by
    unfold stL
    rw [List.set_append_right _ _ (by simp [h.2])]
    simp [h.2]
  rw [← e]
  simpa using this
theorem StAt.setGone {w : World} {b : Nat} {s : St} (h : StAt w b s) (n : Bool) : StAt (w.setCell ⟨b, 48, none⟩ (.bool n)) b { s with gone := n } := by
  refine ⟨?_, h.2⟩
  have := h.1.set 48 (.bool n)
  have e : (stL s).set 48 (.bool n) = stL { s with gone := n } := by
    unfold stL
    rw [List.set_append_right _ _ (by simp [h.2])]
    simp [h.2]
  rw [← e]
  simpa using this
/-- a register's four cells -/
theorem StAt.reg {w : World} {b : Nat} {s : St} (h : StAt w b s) (r : Nat) (hr : r < 12) : w.cell? ⟨b, r * 4, none⟩ = some (.int .i64 (regAt s.rs r).c0) ∧ w.cell? ⟨b, r * 4 + 1, none⟩ = some (.int .i64 (regAt s.rs r).c1) ∧ w.cell? ⟨b, r * 4 + 2, none⟩ = some (.int .i64 (regAt s.rs r).c2) ∧ w.cell? ⟨b, r * 4 + 3, none⟩ = some (.int .i64 (regAt s.rs r).c3) :=
  ⟨h.cell _ (by omega), h.cell _ (by omega), h.cell _ (by omega), h.cell _ (by omega)⟩

/- the run, with as much fuel as it wants -/
def run (p : List In) (i tp : Nat) (s : St) : St := runP p (tp - i) i tp s
theorem run_end {p : List In} {i tp : Nat} {s : St} (h : tp ≤ i ∨ s.over = true) : run p i tp s = s := run_stop _ _ h
theorem run_atLoop {p : List In} {i tp : Nat} {s : St} (hg : Good p i tp) (hi : i < tp) (ho : s.over = false) {x : In} (hx : p[i]? = some x) (h : x.op = 12) : run p i tp s = run p (i + 1 + x.b.toNat) tp (iter (run p (i + 1) (i + 1 + x.b.toNat)) x.imm.toNat s.tick) := by
  obtain ⟨g1, g2⟩ := hg i x (Nat.le_refl _) hi hx h
  unfold run
  obtain ⟨F, hF⟩ : ∃ F, tp - i = F + 1 := ⟨tp - i - 1, by omega⟩
  rw [hF, run_loop hi ho hx h]
  rw [iter_congr _ _ fun s => run_fuel F (i + 1 + x.b.toNat - (i + 1)) (i + 1) (i + 1 + x.b.toNat) s g2.good (by omega) (by omega)]
  exact run_fuel _ _ _ _ _ (hg.mono (by omega)) (by omega) (by omega)
theorem run_atSkip {p : List In} {i tp : Nat} {s : St} (hg : Good p i tp) (hi : i < tp) (ho : s.over = false) {x : In} (hx : p[i]? = some x) (h : x.op = 11) (hn : (regAt s.rs x.a.toNat).c0 < 0) : run p i tp s = run p (i + 1 + x.imm.toNat) tp s.tick := by
  unfold run
  obtain ⟨F, hF⟩ : ∃ F, tp - i = F + 1 := ⟨tp - i - 1, by omega⟩
  rw [hF, run_skip hi ho hx h hn]
  exact run_fuel _ _ _ _ _ (hg.mono (by omega)) (by omega) (by omega)
theorem run_atStep {p : List In} {i tp : Nat} {s : St} (hg : Good p i tp) (hi : i < tp) (ho : s.over = false) {x : In} (hx : p[i]? = some x) (h : x.op ≠ 12) (hn : ¬ (x.op = 11 ∧ (regAt s.rs x.a.toNat).c0 < 0)) : run p i tp s = run p (i + 1) tp (exec x s) := by
  unfold run
  obtain ⟨F, hF⟩ : ∃ F, tp - i = F + 1 := ⟨tp - i - 1, by omega⟩
  rw [hF, run_step hi ho hx h hn]
  exact run_fuel _ _ _ _ _ (hg.mono (by omega)) (by omega) (by omega)
end Go.Proofs.Ytellfhnfifgpoaa

namespace Go.Proofs.Ytellfhnfifgpoaa
open Go.RowKit
set_option linter.unusedVariables false
theorem V4.cells_put (v : V4) (k : Nat) (hk : k < 4) (n : Int) : (#[Value.int .i64 v.c0, .int .i64 v.c1, .int .i64 v.c2, .int .i64 v.c3] : Array Value).setIfInBounds k (.int .i64 n) = #[.int .i64 (v.put k n).c0, .int .i64 (v.put k n).c1, .int .i64 (v.put k n).c2, .int .i64 (v.put k n).c3] := by
  have : k = 0 ∨ k = 1 ∨ k = 2 ∨ k = 3 := by omega
  rcases this with rfl | rfl | rfl | rfl <;> simp [V4.put]
theorem V4.cells_get (v : V4) (k : Nat) (hk : k < 4) : (#[Value.int .i64 v.c0, .int .i64 v.c1, .int .i64 v.c2, .int .i64 v.c3] : Array Value)[k]? = some (.int .i64 (v.get k)) := by
  have : k = 0 ∨ k = 1 ∨ k = 2 ∨ k = 3 := by omega
  rcases this with rfl | rfl | rfl | rfl <;> simp [V4.get]
theorem Blk.getV {w : World} {b : Nat} {v : V4} {T : TypeId} (h : Blk w b #[.int .i64 v.c0, .int .i64 v.c1, .int .i64 v.c2, .int .i64 v.c3] T) (k : Nat) (hk : k < 4) : w.cell? ⟨b, k, none⟩ = some (.int .i64 (v.get k)) := by
  rw [h.cell k]
  exact v.cells_get k hk
theorem Blk.putV {w : World} {b : Nat} {v : V4} {T : TypeId} (h : Blk w b #[.int .i64 v.c0, .int .i64 v.c1, .int .i64 v.c2, .int .i64 v.c3] T) (k : Nat) (hk : k < 4) (n : Int) : Blk (w.setCell ⟨b, k, none⟩ (.int .i64 n)) b #[.int .i64 (v.put k n).c0, .int .i64 (v.put k n).c1, .int .i64 (v.put k n).c2, .int .i64 (v.put k n).c3] T := by
  have := h.set k (.int .i64 n)
  rw [v.cells_put k hk n] at this
  exact this
theorem V4.get_put (v : V4) (k j : Nat) (hk : k < 4) (hj : j < 4) (n : Int) : (v.put k n).get j = if j = k then n else v.get j := by
  have hk' : k = 0 ∨ k = 1 ∨ k = 2 ∨ k = 3 := by omega
  have hj' : j = 0 ∨ j = 1 ∨ j = 2 ∨ j = 3 := by omega
  rcases hk' with rfl | rfl | rfl | rfl <;> rcases hj' with rfl | rfl | rfl | rfl <;> simp [V4.put, V4.get]
theorem V4.ext_get {v u : V4} (h : ∀ k, k < 4 → v.get k = u.get k) : v = u := by
  have h0 := h 0 (by omega)
  have h1 := h 1 (by omega)
  have h2 := h 2 (by omega)
  have h3 := h 3 (by omega)
  simp [V4.get] at h0 h1 h2 h3
  cases v
  cases u
  simp_all
end Go.Proofs.Ytellfhnfifgpoaa

namespace Go.Proofs.Ytellfhnfifgpoaa
open Go.RowKit
set_option linter.unusedVariables false
theorem iter_succ' (f : St → St) : ∀ (n : Nat) (s : St), iter f (n + 1) s = f (iter f n s)
  | 0, s => rfl
  | n + 1, s => by rw [iter, iter_succ' f n (f s), iter]
theorem iter_add (f : St → St) : ∀ (a b : Nat) (s : St), iter f (a + b) s = iter f b (iter f a s)
  | 0, b, s => by rw [Nat.zero_add]; rfl
  | a + 1, b, s => by rw [show a + 1 + b = (a + b) + 1 by omega, iter, iter_add f a b (f s), iter]
theorem run_up (p : List In) (i tp : Nat) (s : St) : s.steps ≤ (run p i tp s).steps :=
  run_keep (P := fun t => s.steps ≤ t.steps) (fun t ht => by show s.steps ≤ t.steps + 1; omega) (fun x hx t ht => by rw [exec_steps]; omega) _ _ _ s (Int.le_refl _)
theorem iter_up {f : St → St} (h : ∀ s, s.steps ≤ (f s).steps) : ∀ (n : Nat) (s : St), s.steps ≤ (iter f n s).steps
  | 0, s => Int.le_refl _
  | n + 1, s => Int.le_trans (h s) (iter_up h n (f s))
theorem iter_more {f : St → St} (h : ∀ s, s.steps ≤ (f s).steps) (a b : Nat) (s : St) : (iter f a s).steps ≤ (iter f (a + b) s).steps := by
  rw [iter_add]
  exact iter_up h b _
theorem iter_rb {f : St → St} (h : ∀ s, RB s.rs → RB (f s).rs) (n : Nat) (s : St) (hs : RB s.rs) : RB (iter f n s).rs := iter_keep (P := fun s => RB s.rs) h n s hs
theorem run_rbs {p : List In} (hok : ∀ x ∈ p, x.ok) (i tp : Nat) {s : St} (h : RB s.rs) : RB (run p i tp s).rs := run_rb hok _ _ _ h
/-- an instruction that the machine can carry out -/
def Sound (x : In) : Prop := x.ok ∧ x.op ≤ 14 ∧ x.dst ≤ 11 ∧ x.a ≤ 11 ∧ (x.op ≠ 12 → x.b ≤ 11) ∧ (x.op = 14 → x.a ≤ 8) ∧ (x.op = 12 → 1 ≤ x.imm) ∧ (x.op = 11 → 1 ≤ x.imm)
theorem sound_of {d : Bool} {p : List In} (hok : ∀ x ∈ p, x.ok) (h : allAt d p) : ∀ x ∈ p, Sound x := by
  intro x hx
  obtain ⟨i, hi⟩ := List.mem_iff_getElem?.1 hx
  obtain ⟨h1, h2, h3, h4, h5⟩ := at1_zero.1 (h i x hi)
  simp only [regs, Bool.and_eq_true, Bool.not_eq_true', Bool.or_eq_false_iff, decide_eq_false_iff_not, Bool.and_eq_false_iff, Bool.or_eq_true, decide_eq_true_eq, Decidable.not_not] at h3
  refine ⟨hok x hx, by omega, by omega, by omega, fun ho => ?_, fun ho => ?_, fun ho => (loopH_iff.1 (h4 ho)).2.2.1, fun ho => (skipH_iff.1 (h5 ho)).1⟩
  · omega
  · omega
end Go.Proofs.Ytellfhnfifgpoaa

namespace Go.Proofs.Ytellfhnfifgpoaa
open Go.RowKit
set_option linter.unusedVariables false

def mL (s : St) (vp : Value) : List Value := s.rs.map (Value.int .i64) ++ [.bool s.gone, .int .i64 s.steps, vp, .bool s.over]
def MAt (w : World) (b : Nat) (vp : Value) (s : St) : Prop := Blk w b (mL s vp).toArray 84 ∧ s.rs.length = 48
theorem MAt.len {w : World} {b : Nat} {vp : Value} {s : St} (h : MAt w b vp s) : s.rs.length = 48 := h.2
theorem MAt.lt {w : World} {b : Nat} {vp : Value} {s : St} (h : MAt w b vp s) : b < w.heap.size := h.1.lt
theorem mL_get {s : St} {vp : Value} {j : Nat} (hj : j < s.rs.length) : (mL s vp)[j]? = some (.int .i64 (s.rs.getD j 0)) := by
  unfold mL
  rw [List.getElem?_append_left (by simpa using hj)]
  simp [List.getD, hj]
theorem MAt.cell {w : World} {b : Nat} {vp : Value} {s : St} (h : MAt w b vp s) (j : Nat) (hj : j < 48) : w.cell? ⟨b, j, none⟩ = some (.int .i64 (s.rs.getD j 0)) := by
  rw [h.1.cell j]
  simpa using mL_get (by rw [h.2]; exact hj)
theorem MAt.gone {w : World} {b : Nat} {vp : Value} {s : St} (h : MAt w b vp s) : w.cell? ⟨b, 48, none⟩ = some (.bool s.gone) := by
  rw [h.1.cell 48]
  simp [mL, h.2]
theorem MAt.steps {w : World} {b : Nat} {vp : Value} {s : St} (h : MAt w b vp s) : w.cell? ⟨b, 49, none⟩ = some (.int .i64 s.steps) := by
  rw [h.1.cell 49]
  simp [mL, h.2]
theorem MAt.prog {w : World} {b : Nat} {vp : Value} {s : St} (h : MAt w b vp s) : w.cell? ⟨b, 50, none⟩ = some vp := by
  rw [h.1.cell 50]
  simp [mL, h.2]
theorem MAt.over {w : World} {b : Nat} {vp : Value} {s : St} (h : MAt w b vp s) : w.cell? ⟨b, 51, none⟩ = some (.bool s.over) := by
  rw [h.1.cell 51]
  simp [mL, h.2]
theorem MAt.thaw {w : World} {b : Nat} {vp : Value} {s : St} (h : MAt w b vp s) (o : Nat) : w.frozen? ⟨b, o, none⟩ = false := h.1.frozen o
theorem MAt.calm {O : List Nat} {w w' : World} {b : Nat} {vp : Value} {s : St} (h : MAt w b vp s) (hx : Calm O w w') (hb : b ∉ O) : MAt w' b vp s := ⟨h.1.calm hx hb, h.2⟩
theorem MAt.ext {w w' : World} {b : Nat} {vp : Value} {s : St} (h : MAt w b vp s) (hx : Ext w w') : MAt w' b vp s := ⟨h.1.ext hx, h.2⟩
theorem mL_set (s : St) (vp : Value) (j : Nat) (hj : j < s.rs.length) (n : Int) : (mL s vp).set j (.int .i64 n) = mL { s with rs := s.rs.set j n } vp := by
  unfold mL
  rw [List.set_append_left _ _ (by simpa using hj), List.map_set]
theorem MAt.setReg {w : World} {b : Nat} {vp : Value} {s : St} (h : MAt w b vp s) (j : Nat) (hj : j < 48) (n : Int) : MAt (w.setCell ⟨b, j, none⟩ (.int .i64 n)) b vp { s with rs := s.rs.set j n } := by
  refine ⟨?_, by simpa using h.2⟩
  have := h.1.set j (.int .i64 n)
  rw [← mL_set s vp j (by rw [h.2]; exact hj) n]
  simpa using this
theorem MAt.put {w : World} {b : Nat} {vp : Value} {s : St} (h : MAt w b vp s) (r : Nat) (hr : r < 12) (v : V4) : MAt ((((w.setCell ⟨b, r * 4, none⟩ (.int .i64 v.c0)).setCell ⟨b, r * 4 + 1, none⟩ (.int .i64 v.c1)).setCell ⟨b, r * 4 + 2, none⟩ (.int .i64 v.c2)).setCell ⟨b, r * 4 + 3, none⟩ (.int .i64 v.c3)) b vp { s with rs := regPut s.rs r v } :=
  (((h.setReg (r * 4) (by omega) v.c0).setReg (r * 4 + 1) (by omega) v.c1).setReg (r * 4 + 2) (by omega) v.c2).setReg (r * 4 + 3) (by omega) v.c3
theorem MAt.setSteps {w : World} {b : Nat} {vp : Value} {s : St} (h : MAt w b vp s) (n : Int) : MAt (w.setCell ⟨b, 49, none⟩ (.int .i64 n)) b vp { s with steps := n } := by
  refine ⟨?_, h.2⟩
  have := h.1.set 49 (.int .i64 n)
  have e : (mL s vp).set 49 (.int .i64 n) = mL { s with steps := n } vp := by
    unfold mL
    rw [List.set_append_right _ _ (by simp [h.2])]
    simp [h.2]
  rw [← e]
  simpa using this
theorem MAt.setOver {w : World} {b : Nat} {vp : Value} {s : St} (h : MAt w b vp s) (n : Bool) : MAt (w.setCell ⟨b, 51, none⟩ (.bool n)) b vp { s with over := n } := by
  refine ⟨?_, h.2⟩
  have := h.1.set 51 (.bool n)
  have e : (mL s vp).set 51 (.bool n) = mL { s with over := n } vp := by
    unfold mL
    rw [List.set_append_right _ _ (by simp [h.2])]
    simp [h.2]
  rw [← e]
  simpa using this
theorem MAt.setGone {w : World} {b : Nat} {vp : Value} {s : St} (h : MAt w b vp s) (n : Bool) : MAt (w.setCell ⟨b, 48, none⟩ (.bool n)) b vp { s with gone := n } := by
  refine ⟨?_, h.2⟩
  have := h.1.set 48 (.bool n)
  have e : (mL s vp).set 48 (.bool n) = mL { s with gone := n } vp := by
    unfold mL
    rw [List.set_append_right _ _ (by simp [h.2])]
    simp [h.2]
  rw [← e]
  simpa using this
/-- a register's four cells -/
theorem MAt.reg {w : World} {b : Nat} {vp : Value} {s : St} (h : MAt w b vp s) (r : Nat) (hr : r < 12) : w.cell? ⟨b, r * 4, none⟩ = some (.int .i64 (regAt s.rs r).c0) ∧ w.cell? ⟨b, r * 4 + 1, none⟩ = some (.int .i64 (regAt s.rs r).c1) ∧ w.cell? ⟨b, r * 4 + 2, none⟩ = some (.int .i64 (regAt s.rs r).c2) ∧ w.cell? ⟨b, r * 4 + 3, none⟩ = some (.int .i64 (regAt s.rs r).c3) :=
  ⟨h.cell _ (by omega), h.cell _ (by omega), h.cell _ (by omega), h.cell _ (by omega)⟩

/- a program that lies elsewhere -/
def Off (b : Nat) (v : Value) (xs : List In) : Prop := xs ≠ [] → ∀ a n c, v = .slice (some a) n c → a.block ≠ b
theorem PArr.off {w : World} {v : Value} {xs : List In} (h : PArr w v xs) {b : Nat} (hb : w.heap.size ≤ b) : Off b v xs := by
  intro hne a n c hv
  obtain ⟨ao, cap, e, h1⟩ := h
  obtain ⟨g, off, e2, h2⟩ := h1 hne
  rw [hv] at e
  cases e
  cases e2
  cases xs with
  | nil => exact absurd rfl hne
  | cons x xs =>
    have h3 := (h2 0 x rfl).1
    intro hg
    have hg : g = b := hg
    have hlt : w.heap.size ≤ g := by omega
    simp [World.cell?, Array.getElem?_eq_none hlt] at h3
theorem PArr.calm {O : List Nat} {w w' : World} {v : Value} {xs : List In} (h : PArr w v xs) (hx : Calm O w w') (hO : ∀ b ∈ O, Off b v xs) : PArr w' v xs := by
  obtain ⟨ao, cap, e, h1⟩ := h
  refine ⟨ao, cap, e, fun hne => ?_⟩
  obtain ⟨g, off, e2, h2⟩ := h1 hne
  refine ⟨g, off, e2, fun j x hj => ?_⟩
  have hn : g ∉ O := fun hg => hO g hg hne ⟨g, off, none⟩ xs.length cap (by rw [e, e2]) rfl
  obtain ⟨c0, c1, c2, c3, c4⟩ := h2 j x hj
  have hlt : g < w.heap.size := by
    rcases Nat.lt_or_ge g w.heap.size with h | h
    · exact h
    · simp [World.cell?, Array.getElem?_eq_none h] at c0
  have hb := hx.block g hlt hn
  have hc : ∀ o, w'.cell? ⟨g, o, none⟩ = w.cell? ⟨g, o, none⟩ := fun o => by simp only [World.cell?, hb]
  exact ⟨by rw [hc]; exact c0, by rw [hc]; exact c1, by rw [hc]; exact c2, by rw [hc]; exact c3, by rw [hc]; exact c4⟩
end Go.Proofs.Ytellfhnfifgpoaa

namespace Go.Proofs.Ytellfhnfifgpoaa
open Go.RowKit
set_option linter.unusedVariables false

set_option maxHeartbeats 400000 in
theorem negative_any (w : World) (b : Nat) (vp : Value) (s : St) (h : MAt w b vp s) (r : Int) (hr : 0 ≤ r ∧ r ≤ 11) :
    Calls Try.prog 50 #[.pointer (some ⟨b, 0, none⟩), .int .u8 r] w fun e w' => e = .returned (.bool (decide ((regAt s.rs r.toNat).c0 < 0))) ∧ w = w' := by
  obtain ⟨k, rfl⟩ : ∃ k : Nat, r = k := ⟨r.toNat, by omega⟩
  have hk : k < 12 := by omega
  obtain ⟨c0, c1, c2, c3⟩ := h.reg k hk
  generalize hv : (regAt s.rs (k : Int).toNat).c0 = v
  have hv' : (regAt s.rs k).c0 = v := by rw [← hv]; simp
  rw [hv'] at c0
  clear hv hv' h c1 c2 c3
  go_enter Try.func50, Try.ntmps50
  go_wp2
  go_ret
  exact ⟨rfl, rfl⟩
set_option maxHeartbeats 400000 in
theorem component_any (n : Int) (hn : -1000000 ≤ n ∧ n ≤ 1000000) (w : World) :
    Calls Try.prog 59 #[.int .i64 n] w fun e w' => e = .returned (.int .i64 (n % 4)) ∧ Qt w w' := by
  go_enter Try.func59, Try.ntmps59
  go_wp2_with fail
  refine (floor_any n 4 w (by omega) (by omega) (by omega) (by omega)).mono ?_
  rintro e w1 ⟨rfl, q1⟩
  have hf : flr n 4 = n / 4 := flr_pos n (b := 4) (by omega)
  rw [hf]
  have e1 : IntKind.i64.wrap (4 * (n / 4)) = 4 * (n / 4) := by rw [IntKind.wrap_i64]; omega
  have e2 : IntKind.i64.wrap (n - 4 * (n / 4)) = n - 4 * (n / 4) := by rw [IntKind.wrap_i64]; omega
  go_wp2
  go_ret
  exact ⟨ret_int (by omega), q1⟩
set_option maxHeartbeats 400000 in
theorem vmall_any (n : Int) (w : World) :
    Calls Try.prog 32 #[.int .i64 n] w fun e w' => e = .returned (.agg #[.int .i64 n, .int .i64 n, .int .i64 n, .int .i64 n]) ∧ Ext w w' := by
  go_enter Try.func32, Try.ntmps32
  go_wp2
  refine bodyPost_ret (v := .agg #[.int .i64 n, .int .i64 n, .int .i64 n, .int .i64 n]) (by simp [results, Try.results32, go_sem]) rfl ⟨rfl, ?_⟩
  repeat (first | exact Ext.refl _ | (refine Ext.setCell ?_ (by simp only; omega) _) | apply Ext.drew | apply Ext.drewN | apply Ext.alloc)
end Go.Proofs.Ytellfhnfifgpoaa

namespace Go.Proofs.Ytellfhnfifgpoaa
open Go.RowKit
set_option linter.unusedVariables false

theorem run_copy_wide {P : Program} (w : World) (dT sT ty elem : TypeId) (size g o dLen dCap : Nat) (a : Addr) (sLen sCap : Nat) (cur : Array Value) (t : TypeId) (cs : List Value)
    (hu : P.underlying dT = some (.slice elem)) (hs : (P.info? elem).map (·.size) = some size)
    (hg : w.heap[g]? = some (.cells cur t (0, 0))) (hn : cs.length = Nat.min sLen dLen * size)
    (hsrc : ∀ j v, cs[j]? = some v → w.cell? (a.add j) = some v) (hfit : o + cs.length ≤ cur.size) (h1 : ∀ v ∈ cs, v.oneCell' = true) :
    (Builtin.copy_ #[dT, sT] ty #[.slice (some ⟨g, o, none⟩) dLen dCap, .slice (some a) sLen sCap]).run P w =
      .ok (goInt (Nat.min sLen dLen)) (w.setRow g (cur.toList.take o ++ cs ++ cur.toList.drop (o + cs.length)).toArray) := by
  have hl := run_loadCells_list (P := P) w a cs hsrc
  have hst := run_storeCells_at P g o t cs 0 cur w hg (by simpa using hfit) h1
  cases hq : P.info? elem with
  | none => simp [hq] at hs
  | some i =>
    have hi : i.size = size := by simpa [hq] using hs
    simp [Builtin.copy_, run_underlying hu, Builtin.lenOf, Builtin.firstCells, sizeOf, typeInfo, hq, hi, ← hn, hl, hst]
theorem step_copy_wide {P : Program} {ops : Array Oper} {o : Oper} {a : Act} {w : World} {K : Act → World → Prop} {Q : Exit → Act → World → Prop} {E : Prop} (hgd : o.guard = none) (d s : Operand) (dT sT : TypeId)
    (ho : o.op = .call { callee := .builtin .copy, args := #[d, s], argTypes := #[dT, sT] }) (elem : TypeId) (size : Nat) (hu : P.underlying dT = some (.slice elem)) (hsz : (P.info? elem).map (·.size) = some size)
    (g off dLen dCap : Nat) (ad : Addr) (sLen sCap : Nat) (hd : a.eval d = .slice (some ⟨g, off, none⟩) dLen dCap) (hs : a.eval s = .slice (some ad) sLen sCap)
    (cur : Array Value) (t : TypeId) (hg : w.heap[g]? = some (.cells cur t (0, 0))) (cs : List Value) (hn : cs.length = Nat.min sLen dLen * size)
    (hsrc : ∀ j v, cs[j]? = some v → w.cell? (ad.add j) = some v) (hfit : off + cs.length ≤ cur.size) (h1 : ∀ v ∈ cs, v.oneCell' = true) (new : Array Value) (hnew : new = (cur.toList.take off ++ cs ++ cur.toList.drop (off + cs.length)).toArray)
    (h : K (a.put o.dst (goInt (Nat.min sLen dLen))) (w.setRow g new)) :
    if Region.wanted o (yielded ops a.tmps) = true then Oper.wp P o a w K Q else E := by
  have hw : Region.wanted o (yielded ops a.tmps) = true := by simp [Region.wanted, hgd]
  rw [if_pos hw]
  have hrun := run_copy_wide (P := P) w dT sT o.type elem size g off dLen dCap ad sLen sCap cur t cs hu hsz hg hn hsrc hfit h1
  rw [← hnew] at hrun
  unfold Oper.wp
  simp only [execOp, ho, resolve, invoke, builtin]
  simp [hd, hs, hrun, Result.andThen]
  exact h
end Go.Proofs.Ytellfhnfifgpoaa

namespace Go.Proofs.Ytellfhnfifgpoaa
open Go.RowKit
set_option linter.unusedVariables false
def matC (rs : List Int) (k : Nat) : List Value := [.int .i64 (rs.getD (k * 4 + 0) 0), .int .i64 (rs.getD (k * 4 + 1) 0), .int .i64 (rs.getD (k * 4 + 2) 0), .int .i64 (rs.getD (k * 4 + 3) 0), .int .i64 (rs.getD (k * 4 + 4) 0), .int .i64 (rs.getD (k * 4 + 5) 0), .int .i64 (rs.getD (k * 4 + 6) 0), .int .i64 (rs.getD (k * 4 + 7) 0), .int .i64 (rs.getD (k * 4 + 8) 0), .int .i64 (rs.getD (k * 4 + 9) 0), .int .i64 (rs.getD (k * 4 + 10) 0), .int .i64 (rs.getD (k * 4 + 11) 0), .int .i64 (rs.getD (k * 4 + 12) 0), .int .i64 (rs.getD (k * 4 + 13) 0), .int .i64 (rs.getD (k * 4 + 14) 0), .int .i64 (rs.getD (k * 4 + 15) 0)]
theorem matC_src {w : World} {b : Nat} {vp : Value} {s : St} (h : MAt w b vp s) (k : Nat) (hk : k < 9) : ∀ j v, (matC s.rs k)[j]? = some v → w.cell? ((⟨b, k * 4, none⟩ : Addr).add j) = some v := by
  intro j v hj
  have hl : j < 16 := by
    have := (List.getElem?_eq_some_iff.1 hj).1
    simpa [matC] using this
  have hadd : (⟨b, k * 4, none⟩ : Addr).add j = ⟨b, k * 4 + j, none⟩ := by unfold Addr.add; split <;> simp_all
  rw [hadd, h.cell (k * 4 + j) (by omega), ← hj]
  have : j = 0 ∨ j = 1 ∨ j = 2 ∨ j = 3 ∨ j = 4 ∨ j = 5 ∨ j = 6 ∨ j = 7 ∨ j = 8 ∨ j = 9 ∨ j = 10 ∨ j = 11 ∨ j = 12 ∨ j = 13 ∨ j = 14 ∨ j = 15 := by omega
  rcases this with rfl | rfl | rfl | rfl | rfl | rfl | rfl | rfl | rfl | rfl | rfl | rfl | rfl | rfl | rfl | rfl <;> rfl
theorem slice_regs (W : World) (b k : Nat) (hk : k < 12) : (Instr.sliceAt 31 (.pointer (some ⟨b, 0, none⟩)) (some (.int .u8 k)) none none).run Try.prog W = .ok (.slice (some ⟨b, k * 4, none⟩) (12 - k) (12 - k)) W := by
  have hu : Try.prog.underlying 31 = some (.array (Try.prog.arrayLen 31) (Try.prog.elem 31)) := by kernel_rfl
  have ha : Try.prog.arrayLen 31 = 12 := by kernel_rfl
  have he : Try.prog.elem 31 = 29 := by kernel_rfl
  have hz : (sizeOf 29).run Try.prog W = .ok 4 W := by
    cases hq : Try.prog.info? 29 with
    | none => exact absurd (show (Try.prog.info? 29).isSome = true by kernel_rfl) (by simp [hq])
    | some i =>
      have h4 : (Try.prog.info? 29).map (·.size) = some 4 := by kernel_rfl
      have hi : i.size = 4 := by simpa [hq] using h4
      simp [sizeOf, typeInfo, hq, hi]
  have hadd : (⟨b, 0, none⟩ : Addr).add (k * 4) = ⟨b, k * 4, none⟩ := by unfold Addr.add; split <;> simp_all
  rw [run_sliceAt_array_l W 31 ⟨b, 0, none⟩ hu .u8 (k : Int) (by omega) (by rw [ha]; omega), he, hz, ha]
  simp [Result.andThen, slicedAt, hadd, show ¬ 12 = k by omega]
set_option maxRecDepth 100000 in
set_option maxHeartbeats 1000000 in
theorem matrix_any (w : World) (b : Nat) (vp : Value) (s : St) (h : MAt w b vp s) (k : Nat) (hk : k < 9) :
    Calls Try.prog 60 #[.pointer (some ⟨b, 0, none⟩), .int .u8 k] w fun e w' => e = .returned (.agg (matC s.rs k).toArray) ∧ Ext w w' := by
  have hkI : (k : Int) ≤ 8 := by omega
  have hlt := h.lt
  have B0 := Blk.new w #[.int .i64 0, .int .i64 0, .int .i64 0, .int .i64 0, .int .i64 0, .int .i64 0, .int .i64 0, .int .i64 0, .int .i64 0, .int .i64 0, .int .i64 0, .int .i64 0, .int .i64 0, .int .i64 0, .int .i64 0, .int .i64 0] 50
  have hs1 := matC_src (h.ext ((Ext.refl w).alloc #[.int .i64 0, .int .i64 0, .int .i64 0, .int .i64 0, .int .i64 0, .int .i64 0, .int .i64 0, .int .i64 0, .int .i64 0, .int .i64 0, .int .i64 0, .int .i64 0, .int .i64 0, .int .i64 0, .int .i64 0, .int .i64 0] 50)) k hk
  have hs2 := matC_src (h.ext (((Ext.refl w).alloc #[.int .i64 0, .int .i64 0, .int .i64 0, .int .i64 0, .int .i64 0, .int .i64 0, .int .i64 0, .int .i64 0, .int .i64 0, .int .i64 0, .int .i64 0, .int .i64 0, .int .i64 0, .int .i64 0, .int .i64 0, .int .i64 0] 50).drew)) k hk
  have hmin : Nat.min (12 - k) 4 = 4 := by simp only [Nat.min_def]; split <;> omega
  have hln : (matC s.rs k).length = Nat.min (12 - k) 4 * 4 := by rw [hmin]; rfl
  have hone : ∀ v ∈ matC s.rs k, v.oneCell' = true := by
    intro v hv
    simp [matC] at hv
    rcases hv with rfl | rfl | rfl | rfl | rfl | rfl | rfl | rfl | rfl | rfl | rfl | rfl | rfl | rfl | rfl | rfl <;> rfl
  have hsl := fun W => slice_regs W b k (by omega)
  have H0 := Lib.hid B0
  have H1 := Lib.hid hs1
  have H2 := Lib.hid hs2
  have H3 := Lib.hid hmin
  have H4 := Lib.hid hln
  have H5 := Lib.hid hone
  clear B0 hs1 hs2 hmin hln hone h
  go_enter Try.func60, Try.ntmps60
  go_wp2_with fail
  go_region_law (refine step_copy_wide rfl (.tmp 5) (.tmp 11) 86 86 rfl 29 4 (by kernel_rfl) (by kernel_rfl) w.heap.size 0 4 4 ⟨b, k * 4, none⟩ (12 - k) (12 - k) (by simp [Act.eval, Act.put]) (by simp [Act.eval, Act.put]) _ _ (by first | exact H0.out | exact H0.out) (matC s.rs k) H4.out (by first | exact H1.out | exact H2.out) (by simp [matC]) H5.out (matC s.rs k).toArray (by simp [matC]) ?_)
  have R1 := (H0.out.ext ((Ext.refl _).drew)).setRow (matC s.rs k).toArray
  have E1 := Ext.setRow (((Ext.refl w).alloc #[.int .i64 0, .int .i64 0, .int .i64 0, .int .i64 0, .int .i64 0, .int .i64 0, .int .i64 0, .int .i64 0, .int .i64 0, .int .i64 0, .int .i64 0, .int .i64 0, .int .i64 0, .int .i64 0, .int .i64 0, .int .i64 0] 50).drew) (Nat.le_refl _) (matC s.rs k).toArray
  generalize (w.alloc (.cells #[.int .i64 0, .int .i64 0, .int .i64 0, .int .i64 0, .int .i64 0, .int .i64 0, .int .i64 0, .int .i64 0, .int .i64 0, .int .i64 0, .int .i64 0, .int .i64 0, .int .i64 0, .int .i64 0, .int .i64 0, .int .i64 0] 50)).drew.setRow w.heap.size (matC s.rs k).toArray = w1 at R1 E1 ⊢
  have HE1 := Lib.hid E1
  have hsz : (matC s.rs k).toArray.size = 16 := rfl
  have hall : (matC s.rs k).toArray.all (·.oneCell') = true := all_oneCell_toArray H5.out
  clear E1 H0 H1 H2 H3 H4 H5 hsl
  go_wp2_with (first
    | ((with_reducible refine wpList_load_blk (op := ⟨some 13, _, _, _, _, _⟩) ?_ 50 (.tmp 4) ?_ w.heap.size ?_ (z := (matC s.rs k).toArray) (T := 50) R1 Try.underlying50 ?_ ?_ ?_); rfl; rfl; rfl; rfl; (rw [hsz]; kernel_rfl))
    | ((with_reducible refine wpList_store_blk (op := ⟨none, .store 50 (.tmp 4) (.tmp 13), _, _, _, _⟩) ?_ 50 (.tmp 4) (.tmp 13) ?_ w.heap.size ?_ (cs := (matC s.rs k).toArray) ?_ (T := 50) R1 ?_ ?_ ?_ ?_); rfl; rfl; rfl; rfl; (rw [hsz]; kernel_rfl); exact hall; rfl)
    | fail)
  refine bodyPost_ret (v := .agg (matC s.rs k).toArray) (results_blk (b := w.heap.size) (t := 4) (ty := 50) rfl rfl (R1.setRow _) Try.underlying50 rfl (by rw [hsz]; kernel_rfl)) rfl ⟨rfl, ?_⟩
  exact HE1.out.setRow (Nat.le_refl _) _
end Go.Proofs.Ytellfhnfifgpoaa

namespace Go.Proofs.Ytellfhnfifgpoaa
open Go.RowKit
set_option linter.unusedVariables false
theorem take4 (rs : List Int) (hl : rs.length = 48) (i : Nat) (hi : i < 12) : List.take 4 (List.drop (i * 4) (List.map (Value.int .i64) rs)) = [.int .i64 (regAt rs i).c0, .int .i64 (regAt rs i).c1, .int .i64 (regAt rs i).c2, .int .i64 (regAt rs i).c3] := by
  have h : ∀ k, i * 4 + k < 48 → rs[i * 4 + k]? = some (rs.getD (i * 4 + k) 0) := fun k hk => by simp [List.getD, show i * 4 + k < rs.length by omega]
  apply List.ext_getElem?
  intro k
  by_cases hk : k < 4
  · have : k = 0 ∨ k = 1 ∨ k = 2 ∨ k = 3 := by omega
    rw [List.getElem?_take_of_lt hk, List.getElem?_drop, List.getElem?_map, h k (by omega)]
    rcases this with rfl | rfl | rfl | rfl <;> simp [regAt]
  · rw [List.getElem?_eq_none (by simp; omega), List.getElem?_eq_none (by simp; omega)]
def RL (rs : List Int) : Array Value := (rs.map (Value.int .i64)).toArray
theorem idx_regs (W : World) (rs : List Int) (hl : rs.length = 48) (i : Nat) (hi : i < 12) : (Instr.index 31 (.agg (RL rs)) (.int .i64 (i : Int))).run Try.prog W = .ok (.agg #[.int .i64 (regAt rs i).c0, .int .i64 (regAt rs i).c1, .int .i64 (regAt rs i).c2, .int .i64 (regAt rs i).c3]) W := by
  have hu : Try.prog.underlying 31 = some (.array 12 (Try.prog.elem 31)) := by kernel_rfl
  simp [RL, Instr.index, run_underlying hu, asIntOf, go_sem, hi, take4 rs hl i hi]
theorem idx_rows (W : World) (rs : List Int) (hl : rs.length = 48) (i : Nat) (hi : i < 12) : (Instr.index 33 (.agg (RL rs)) (.int .i64 (i : Int))).run Try.prog W = .ok (.agg #[.int .i64 (regAt rs i).c0, .int .i64 (regAt rs i).c1, .int .i64 (regAt rs i).c2, .int .i64 (regAt rs i).c3]) W := by
  have hu : Try.prog.underlying 33 = some (.array 12 (Try.prog.elem 33)) := by kernel_rfl
  simp [RL, Instr.index, run_underlying hu, asIntOf, go_sem, hi, take4 rs hl i hi]
theorem RL.put {w : World} {b : Nat} {rs : List Int} {T : TypeId} (h : Blk w b (RL rs) T) (r : Nat) (v : V4) : Blk ((((w.setCell ⟨b, r * 4, none⟩ (.int .i64 v.c0)).setCell ⟨b, r * 4 + 1, none⟩ (.int .i64 v.c1)).setCell ⟨b, r * 4 + 2, none⟩ (.int .i64 v.c2)).setCell ⟨b, r * 4 + 3, none⟩ (.int .i64 v.c3)) b (RL (regPut rs r v)) T := by
  have h4 := (((h.set (r * 4) (.int .i64 v.c0)).set (r * 4 + 1) (.int .i64 v.c1)).set (r * 4 + 2) (.int .i64 v.c2)).set (r * 4 + 3) (.int .i64 v.c3)
  have e : ((((RL rs).setIfInBounds (r * 4) (.int .i64 v.c0)).setIfInBounds (r * 4 + 1) (.int .i64 v.c1)).setIfInBounds (r * 4 + 2) (.int .i64 v.c2)).setIfInBounds (r * 4 + 3) (.int .i64 v.c3) = RL (regPut rs r v) := by
    unfold RL regPut
    simp only [List.setIfInBounds_toArray, List.map_set]
  rw [e] at h4
  exact h4
theorem RL.cell {w : World} {b : Nat} {rs : List Int} {T : TypeId} (hl : rs.length = 48) (h : Blk w b (RL rs) T) (j : Nat) (hj : j < 48) : w.cell? ⟨b, j, none⟩ = some (.int .i64 (rs.getD j 0)) := by
  rw [h.cell j]
  simp [RL, List.getD, show j < rs.length by omega]
theorem RL.one (rs : List Int) : (RL rs).all (·.oneCell') = true := all_oneCell_toArray (fun v hv => by
  obtain ⟨y, _, rfl⟩ := List.mem_map.1 hv; rfl)
theorem RL.size {rs : List Int} (hl : rs.length = 48) : (RL rs).size = 48 := by simp [RL, hl]
end Go.Proofs.Ytellfhnfifgpoaa

namespace Go.Proofs.Ytellfhnfifgpoaa
open Go.RowKit
set_option linter.unusedVariables false
def limI (lo hi n : Int) : Int := if n < lo then lo else if hi < n then hi else n
theorem limI_eq {lo hi : Int} (h : lo ≤ hi) (n : Int) : limI lo hi n = max lo (min n hi) := by unfold limI; split <;> (try split) <;> omega
def V4.lim (lo hi : Int) (v : V4) : V4 := ⟨limI lo hi v.c0, limI lo hi v.c1, limI lo hi v.c2, limI lo hi v.c3⟩
theorem V4.lim_get (lo hi : Int) (v : V4) (k : Nat) (hk : k < 4) : (v.lim lo hi).get k = limI lo hi (v.get k) := by
  have : k = 0 ∨ k = 1 ∨ k = 2 ∨ k = 3 := by omega
  rcases this with rfl | rfl | rfl | rfl <;> simp [V4.lim, V4.get]
set_option maxRecDepth 100000 in
set_option maxHeartbeats 1000000 in
theorem rwithin_any (v : V4) (lo hi : Int) (hle : lo ≤ hi) (w : World) : Calls Try.prog 22 #[.agg #[.int .i64 v.c0, .int .i64 v.c1, .int .i64 v.c2, .int .i64 v.c3], .int .i64 lo, .int .i64 hi] w
    fun e w' => e = .returned (.agg #[.int .i64 (v.lim lo hi).c0, .int .i64 (v.lim lo hi).c1, .int .i64 (v.lim lo hi).c2, .int .i64 (v.lim lo hi).c3]) ∧ Ext w w' := by
  have V0 := (Blk.new w #[.int .i64 v.c0, .int .i64 v.c1, .int .i64 v.c2, .int .i64 v.c3] 24).alloc (.cells #[.int .i64 0, .int .i64 0, .int .i64 0, .int .i64 0] 24)
  have R0 := Blk.new (w.alloc (.cells #[.int .i64 v.c0, .int .i64 v.c1, .int .i64 v.c2, .int .i64 v.c3] 24)) #[.int .i64 0, .int .i64 0, .int .i64 0, .int .i64 0] 24
  have z1 : (w.alloc (.cells #[.int .i64 v.c0, .int .i64 v.c1, .int .i64 v.c2, .int .i64 v.c3] 24)).heap.size = w.heap.size + 1 := by simp
  rw [z1] at R0
  have e0 := ((Ext.refl w).alloc #[.int .i64 v.c0, .int .i64 v.c1, .int .i64 v.c2, .int .i64 v.c3] 24).alloc #[.int .i64 0, .int .i64 0, .int .i64 0, .int .i64 0] 24
  go_enter Try.func22, Try.ntmps22
  go_wp2_with fail
  generalize ((w.alloc (.cells #[.int .i64 v.c0, .int .i64 v.c1, .int .i64 v.c2, .int .i64 v.c3] 24)).alloc (.cells #[.int .i64 0, .int .i64 0, .int .i64 0, .int .i64 0] 24)) = w0 at *
  generalize hba : w.heap.size = vb at *
  have HBA := Lib.hid hba
  have HE := Lib.hid e0
  have HR := Lib.hid R0
  clear hba e0 R0 z1
  go_loopg [7] 4 (fun m iv wr => ∃ (k : Nat) (u : V4), k + m = 4 ∧ iv = .int .i64 (k : Int) ∧ Blk wr vb #[.int .i64 u.c0, .int .i64 u.c1, .int .i64 u.c2, .int .i64 u.c3] 24 ∧ Calm [vb] w0 wr ∧ (∀ j, j < k → u.get j = limI lo hi (v.get j)) ∧ ∀ j, k ≤ j → j < 4 → u.get j = v.get j)
  case atStart => exact ⟨0, v, by omega, rfl, V0, Calm.refl _ _, fun j hj => by omega, fun j hj _ => rfl⟩
  case round =>
    clear V0
    obtain ⟨k, u, hkm, rfl, B1, K1, h1, h2⟩ := hrel
    have H1 := Lib.hid h1
    have H2 := Lib.hid h2
    have HK := Lib.hid K1
    clear h1 h2 K1
    by_cases hk : k < 4
    · have hkI : (k : Int) < 4 := by omega
      have c1 := B1.getV k hk
      rw [H2.out k (Nat.le_refl _) hk] at c1
      have f1 := B1.frozen k
      have HB1 := Lib.hid B1
      have hnext : ∀ (n : Int), n = limI lo hi (v.get k) → (∀ j, j < k + 1 → (u.put k n).get j = limI lo hi (v.get j)) ∧ ∀ j, k + 1 ≤ j → j < 4 → (u.put k n).get j = v.get j := fun n hn => by
        refine ⟨fun j hj => ?_, fun j hj hj4 => ?_⟩
        · rw [V4.get_put _ _ _ hk (by omega)]
          split
          · rename_i e; rw [e]; exact hn
          · exact H1.out j (by omega)
        · rw [V4.get_put _ _ _ hk hj4, if_neg (by omega)]
          exact H2.out j (by omega) hj4
      have hsame : limI lo hi (v.get k) = v.get k → (∀ j, j < k + 1 → u.get j = limI lo hi (v.get j)) ∧ ∀ j, k + 1 ≤ j → j < 4 → u.get j = v.get j := fun hn => by
        refine ⟨fun j hj => ?_, fun j hj hj4 => H2.out j (by omega) hj4⟩
        rcases Nat.lt_or_ge j k with h | h
        · exact H1.out j h
        · obtain rfl : j = k := by omega
          rw [hn]
          exact H2.out j (Nat.le_refl _) hk
      have HS := Lib.hid hsame
      clear hsame
      have HN := Lib.hid hnext
      clear hnext B1
      by_cases hlo : v.get k < lo
      · have hl : limI lo hi (v.get k) = lo := by unfold limI; rw [if_pos hlo]
        have hnh : ¬ hi < lo := by omega
        have HB2 := Lib.hid (HB1.out.putV k hk lo)
        have HK2 := Lib.hid (HK.out.trans (calm_setP wr vb k (.int .i64 lo)))
        go_wp2
        go_roundg (gk - 1)
        case measure => omega
        case rel => exact ⟨k + 1, _, by omega, rfl, HB2.out, HK2.out, (HN.out lo hl.symm).1, (HN.out lo hl.symm).2⟩
      · by_cases hhi : hi < v.get k
        · have hl : limI lo hi (v.get k) = hi := by unfold limI; rw [if_neg hlo, if_pos hhi]
          have HB2 := Lib.hid (HB1.out.putV k hk hi)
          have HK2 := Lib.hid (HK.out.trans (calm_setP wr vb k (.int .i64 hi)))
          go_wp2
          go_roundg (gk - 1)
          case measure => omega
          case rel => exact ⟨k + 1, _, by omega, rfl, HB2.out, HK2.out, (HN.out hi hl.symm).1, (HN.out hi hl.symm).2⟩
        · have hl : limI lo hi (v.get k) = v.get k := by unfold limI; rw [if_neg hlo, if_neg hhi]
          have HL := Lib.hid hl
          clear hl
          go_wp2
          go_roundg (gk - 1)
          case measure => omega
          case rel => exact ⟨k + 1, u, by omega, rfl, HB1.out, HK.out, (HS.out HL.out).1, (HS.out HL.out).2⟩
    · obtain rfl : k = 4 := by omega
      have e : u = v.lim lo hi := V4.ext_get fun j hj => by rw [H1.out j hj, V4.lim_get _ _ _ _ hj]
      subst e
      have R3 := HR.out.calm HK.out (by simp)
      have c0 := B1.cell
      have cr := R3.cell
      have fr := R3.frozen
      have R4 : Blk _ (vb + 1) #[.int .i64 (v.lim lo hi).c0, .int .i64 (v.lim lo hi).c1, .int .i64 (v.lim lo hi).c2, .int .i64 (v.lim lo hi).c3] 24 := (((R3.set 0 (.int .i64 (v.lim lo hi).c0)).set 1 (.int .i64 (v.lim lo hi).c1)).set 2 (.int .i64 (v.lim lo hi).c2)).set 3 (.int .i64 (v.lim lo hi).c3)
      have E4 := Lib.hid (Ext.calm_trans (Ext.calm_trans HE.out HK.out (fun g hg => by simp at hg; have := HBA.out; omega)) ((((calm_setP wr (vb + 1) 0 (.int .i64 (v.lim lo hi).c0)).trans (calm_setP _ (vb + 1) 1 (.int .i64 (v.lim lo hi).c1))).trans (calm_setP _ (vb + 1) 2 (.int .i64 (v.lim lo hi).c2))).trans (calm_setP _ (vb + 1) 3 (.int .i64 (v.lim lo hi).c3))) (fun g hg => by simp at hg; have := HBA.out; omega))
      have HR4 := Lib.hid R4
      clear R4
      go_wp2
      have c4 := HR4.out.cell
      generalize ((((wr.setCell ⟨vb + 1, 0, none⟩ (.int .i64 (v.lim lo hi).c0)).setCell ⟨vb + 1, 1, none⟩ (.int .i64 (v.lim lo hi).c1)).setCell ⟨vb + 1, 2, none⟩ (.int .i64 (v.lim lo hi).c2)).setCell ⟨vb + 1, 3, none⟩ (.int .i64 (v.lim lo hi).c3)) = w9 at *
      exact bodyPost_ret (v := .agg #[.int .i64 (v.lim lo hi).c0, .int .i64 (v.lim lo hi).c1, .int .i64 (v.lim lo hi).c2, .int .i64 (v.lim lo hi).c3]) (by simp [results, Try.results22, go_sem, c4]) rfl ⟨rfl, E4.out⟩
end Go.Proofs.Ytellfhnfifgpoaa

namespace Go.Proofs.Ytellfhnfifgpoaa
open Go.RowKit
set_option linter.unusedVariables false
def regsV (rs : List Int) : Value := .agg (rs.map (Value.int .i64)).toArray
def mixL (rs : List Int) (m : Nat) : List Int := (rs.map clampZ).take m ++ List.replicate (48 - m) 0
theorem mixL_zero (rs : List Int) : mixL rs 0 = List.replicate 48 0 := by simp [mixL]
theorem mixL_full {rs : List Int} (h : rs.length = 48) : mixL rs 48 = rs.map clampZ := by
  unfold mixL
  rw [List.take_of_length_le (by simp [h])]
  simp
theorem mixL_len {rs : List Int} (h : rs.length = 48) {m : Nat} (hm : m ≤ 48) : (mixL rs m).length = 48 := by
  simp [mixL, h]
  omega
theorem mixL_set {rs : List Int} (h : rs.length = 48) {m : Nat} (hm : m < 48) : (mixL rs m).set m (clampZ (rs.getD m 0)) = mixL rs (m + 1) := by
  have hl : ((rs.map clampZ).take m).length = m := by simp [h]; omega
  unfold mixL
  rw [List.set_append_right _ _ (by omega), hl, Nat.sub_self, show 48 - m = (48 - (m + 1)) + 1 by omega, List.replicate_succ, List.set_cons_zero]
  rw [List.take_add_one]
  have : (rs.map clampZ)[m]? = some (clampZ (rs.getD m 0)) := by simp [List.getD, show m < rs.length by omega]
  rw [this]
  simp
def zSt (rs : List Int) (m : Nat) : St := ⟨mixL rs m, false, false, 0⟩
set_option maxRecDepth 100000 in
set_option maxHeartbeats 2000000 in
theorem rstart_any (rs : List Int) (hl : rs.length = 48) (hb : ∀ n ∈ rs, -9223372036854775808 ≤ n ∧ n ≤ 9223372036854775807) (w : World) : Calls Try.prog 12 #[regsV rs] w fun e w' => e = .returned (.agg (stL ⟨rs.map clampZ, false, false, 0⟩).toArray) ∧ Ext w w' := by
  have A0 := ((Blk.new w (rs.map (Value.int .i64)).toArray 33).alloc (.cells #[.int .i64 0, .int .i64 0, .int .i64 0, .int .i64 0, .int .i64 0, .int .i64 0, .int .i64 0, .int .i64 0, .int .i64 0, .int .i64 0, .int .i64 0, .int .i64 0, .int .i64 0, .int .i64 0, .int .i64 0, .int .i64 0, .int .i64 0, .int .i64 0, .int .i64 0, .int .i64 0, .int .i64 0, .int .i64 0, .int .i64 0, .int .i64 0, .int .i64 0, .int .i64 0, .int .i64 0, .int .i64 0, .int .i64 0, .int .i64 0, .int .i64 0, .int .i64 0, .int .i64 0, .int .i64 0, .int .i64 0, .int .i64 0, .int .i64 0, .int .i64 0, .int .i64 0, .int .i64 0, .int .i64 0, .int .i64 0, .int .i64 0, .int .i64 0, .int .i64 0, .int .i64 0, .int .i64 0, .int .i64 0, .bool false, .bool false, .int .i64 0] 35)).alloc (.cells #[.int .i64 0, .int .i64 0, .int .i64 0, .int .i64 0, .int .i64 0, .int .i64 0, .int .i64 0, .int .i64 0, .int .i64 0, .int .i64 0, .int .i64 0, .int .i64 0, .int .i64 0, .int .i64 0, .int .i64 0, .int .i64 0, .int .i64 0, .int .i64 0, .int .i64 0, .int .i64 0, .int .i64 0, .int .i64 0, .int .i64 0, .int .i64 0, .int .i64 0, .int .i64 0, .int .i64 0, .int .i64 0, .int .i64 0, .int .i64 0, .int .i64 0, .int .i64 0, .int .i64 0, .int .i64 0, .int .i64 0, .int .i64 0, .int .i64 0, .int .i64 0, .int .i64 0, .int .i64 0, .int .i64 0, .int .i64 0, .int .i64 0, .int .i64 0, .int .i64 0, .int .i64 0, .int .i64 0, .int .i64 0, .bool false, .bool false, .int .i64 0] 35)
  have R0 := (Blk.new (w.alloc (.cells (rs.map (Value.int .i64)).toArray 33)) #[.int .i64 0, .int .i64 0, .int .i64 0, .int .i64 0, .int .i64 0, .int .i64 0, .int .i64 0, .int .i64 0, .int .i64 0, .int .i64 0, .int .i64 0, .int .i64 0, .int .i64 0, .int .i64 0, .int .i64 0, .int .i64 0, .int .i64 0, .int .i64 0, .int .i64 0, .int .i64 0, .int .i64 0, .int .i64 0, .int .i64 0, .int .i64 0, .int .i64 0, .int .i64 0, .int .i64 0, .int .i64 0, .int .i64 0, .int .i64 0, .int .i64 0, .int .i64 0, .int .i64 0, .int .i64 0, .int .i64 0, .int .i64 0, .int .i64 0, .int .i64 0, .int .i64 0, .int .i64 0, .int .i64 0, .int .i64 0, .int .i64 0, .int .i64 0, .int .i64 0, .int .i64 0, .int .i64 0, .int .i64 0, .bool false, .bool false, .int .i64 0] 35).alloc (.cells #[.int .i64 0, .int .i64 0, .int .i64 0, .int .i64 0, .int .i64 0, .int .i64 0, .int .i64 0, .int .i64 0, .int .i64 0, .int .i64 0, .int .i64 0, .int .i64 0, .int .i64 0, .int .i64 0, .int .i64 0, .int .i64 0, .int .i64 0, .int .i64 0, .int .i64 0, .int .i64 0, .int .i64 0, .int .i64 0, .int .i64 0, .int .i64 0, .int .i64 0, .int .i64 0, .int .i64 0, .int .i64 0, .int .i64 0, .int .i64 0, .int .i64 0, .int .i64 0, .int .i64 0, .int .i64 0, .int .i64 0, .int .i64 0, .int .i64 0, .int .i64 0, .int .i64 0, .int .i64 0, .int .i64 0, .int .i64 0, .int .i64 0, .int .i64 0, .int .i64 0, .int .i64 0, .int .i64 0, .int .i64 0, .bool false, .bool false, .int .i64 0] 35)
  have S0 := Blk.new ((w.alloc (.cells (rs.map (Value.int .i64)).toArray 33)).alloc (.cells #[.int .i64 0, .int .i64 0, .int .i64 0, .int .i64 0, .int .i64 0, .int .i64 0, .int .i64 0, .int .i64 0, .int .i64 0, .int .i64 0, .int .i64 0, .int .i64 0, .int .i64 0, .int .i64 0, .int .i64 0, .int .i64 0, .int .i64 0, .int .i64 0, .int .i64 0, .int .i64 0, .int .i64 0, .int .i64 0, .int .i64 0, .int .i64 0, .int .i64 0, .int .i64 0, .int .i64 0, .int .i64 0, .int .i64 0, .int .i64 0, .int .i64 0, .int .i64 0, .int .i64 0, .int .i64 0, .int .i64 0, .int .i64 0, .int .i64 0, .int .i64 0, .int .i64 0, .int .i64 0, .int .i64 0, .int .i64 0, .int .i64 0, .int .i64 0, .int .i64 0, .int .i64 0, .int .i64 0, .int .i64 0, .bool false, .bool false, .int .i64 0] 35)) #[.int .i64 0, .int .i64 0, .int .i64 0, .int .i64 0, .int .i64 0, .int .i64 0, .int .i64 0, .int .i64 0, .int .i64 0, .int .i64 0, .int .i64 0, .int .i64 0, .int .i64 0, .int .i64 0, .int .i64 0, .int .i64 0, .int .i64 0, .int .i64 0, .int .i64 0, .int .i64 0, .int .i64 0, .int .i64 0, .int .i64 0, .int .i64 0, .int .i64 0, .int .i64 0, .int .i64 0, .int .i64 0, .int .i64 0, .int .i64 0, .int .i64 0, .int .i64 0, .int .i64 0, .int .i64 0, .int .i64 0, .int .i64 0, .int .i64 0, .int .i64 0, .int .i64 0, .int .i64 0, .int .i64 0, .int .i64 0, .int .i64 0, .int .i64 0, .int .i64 0, .int .i64 0, .int .i64 0, .int .i64 0, .bool false, .bool false, .int .i64 0] 35
  have z1 : (w.alloc (.cells (rs.map (Value.int .i64)).toArray 33)).heap.size = w.heap.size + 1 := by simp
  have z2 : ((w.alloc (.cells (rs.map (Value.int .i64)).toArray 33)).alloc (.cells #[.int .i64 0, .int .i64 0, .int .i64 0, .int .i64 0, .int .i64 0, .int .i64 0, .int .i64 0, .int .i64 0, .int .i64 0, .int .i64 0, .int .i64 0, .int .i64 0, .int .i64 0, .int .i64 0, .int .i64 0, .int .i64 0, .int .i64 0, .int .i64 0, .int .i64 0, .int .i64 0, .int .i64 0, .int .i64 0, .int .i64 0, .int .i64 0, .int .i64 0, .int .i64 0, .int .i64 0, .int .i64 0, .int .i64 0, .int .i64 0, .int .i64 0, .int .i64 0, .int .i64 0, .int .i64 0, .int .i64 0, .int .i64 0, .int .i64 0, .int .i64 0, .int .i64 0, .int .i64 0, .int .i64 0, .int .i64 0, .int .i64 0, .int .i64 0, .int .i64 0, .int .i64 0, .int .i64 0, .int .i64 0, .bool false, .bool false, .int .i64 0] 35)).heap.size = w.heap.size + 1 + 1 := by simp
  rw [z1] at R0
  rw [z2] at S0
  have S1 : StAt _ (w.heap.size + 1 + 1) (zSt rs 0) := ⟨by rw [show (stL (zSt rs 0)).toArray = #[.int .i64 0, .int .i64 0, .int .i64 0, .int .i64 0, .int .i64 0, .int .i64 0, .int .i64 0, .int .i64 0, .int .i64 0, .int .i64 0, .int .i64 0, .int .i64 0, .int .i64 0, .int .i64 0, .int .i64 0, .int .i64 0, .int .i64 0, .int .i64 0, .int .i64 0, .int .i64 0, .int .i64 0, .int .i64 0, .int .i64 0, .int .i64 0, .int .i64 0, .int .i64 0, .int .i64 0, .int .i64 0, .int .i64 0, .int .i64 0, .int .i64 0, .int .i64 0, .int .i64 0, .int .i64 0, .int .i64 0, .int .i64 0, .int .i64 0, .int .i64 0, .int .i64 0, .int .i64 0, .int .i64 0, .int .i64 0, .int .i64 0, .int .i64 0, .int .i64 0, .int .i64 0, .int .i64 0, .int .i64 0, .bool false, .bool false, .int .i64 0] by unfold zSt; rw [mixL_zero]; rfl]; exact S0, by unfold zSt; simp [mixL_zero]⟩
  have e0 := (((Ext.refl w).alloc (rs.map (Value.int .i64)).toArray 33).alloc #[.int .i64 0, .int .i64 0, .int .i64 0, .int .i64 0, .int .i64 0, .int .i64 0, .int .i64 0, .int .i64 0, .int .i64 0, .int .i64 0, .int .i64 0, .int .i64 0, .int .i64 0, .int .i64 0, .int .i64 0, .int .i64 0, .int .i64 0, .int .i64 0, .int .i64 0, .int .i64 0, .int .i64 0, .int .i64 0, .int .i64 0, .int .i64 0, .int .i64 0, .int .i64 0, .int .i64 0, .int .i64 0, .int .i64 0, .int .i64 0, .int .i64 0, .int .i64 0, .int .i64 0, .int .i64 0, .int .i64 0, .int .i64 0, .int .i64 0, .int .i64 0, .int .i64 0, .int .i64 0, .int .i64 0, .int .i64 0, .int .i64 0, .int .i64 0, .int .i64 0, .int .i64 0, .int .i64 0, .int .i64 0, .bool false, .bool false, .int .i64 0] 35).alloc #[.int .i64 0, .int .i64 0, .int .i64 0, .int .i64 0, .int .i64 0, .int .i64 0, .int .i64 0, .int .i64 0, .int .i64 0, .int .i64 0, .int .i64 0, .int .i64 0, .int .i64 0, .int .i64 0, .int .i64 0, .int .i64 0, .int .i64 0, .int .i64 0, .int .i64 0, .int .i64 0, .int .i64 0, .int .i64 0, .int .i64 0, .int .i64 0, .int .i64 0, .int .i64 0, .int .i64 0, .int .i64 0, .int .i64 0, .int .i64 0, .int .i64 0, .int .i64 0, .int .i64 0, .int .i64 0, .int .i64 0, .int .i64 0, .int .i64 0, .int .i64 0, .int .i64 0, .int .i64 0, .int .i64 0, .int .i64 0, .int .i64 0, .int .i64 0, .int .i64 0, .int .i64 0, .int .i64 0, .int .i64 0, .bool false, .bool false, .int .i64 0] 35
  have HB := Lib.hid hb
  have HL := Lib.hid hl
  unfold regsV
  clear hb S0 z1 z2 hl
  go_enter Try.func12, Try.ntmps12
  go_wp2_with fail
  generalize (((w.alloc (.cells (rs.map (Value.int .i64)).toArray 33)).alloc (.cells #[.int .i64 0, .int .i64 0, .int .i64 0, .int .i64 0, .int .i64 0, .int .i64 0, .int .i64 0, .int .i64 0, .int .i64 0, .int .i64 0, .int .i64 0, .int .i64 0, .int .i64 0, .int .i64 0, .int .i64 0, .int .i64 0, .int .i64 0, .int .i64 0, .int .i64 0, .int .i64 0, .int .i64 0, .int .i64 0, .int .i64 0, .int .i64 0, .int .i64 0, .int .i64 0, .int .i64 0, .int .i64 0, .int .i64 0, .int .i64 0, .int .i64 0, .int .i64 0, .int .i64 0, .int .i64 0, .int .i64 0, .int .i64 0, .int .i64 0, .int .i64 0, .int .i64 0, .int .i64 0, .int .i64 0, .int .i64 0, .int .i64 0, .int .i64 0, .int .i64 0, .int .i64 0, .int .i64 0, .int .i64 0, .bool false, .bool false, .int .i64 0] 35)).alloc (.cells #[.int .i64 0, .int .i64 0, .int .i64 0, .int .i64 0, .int .i64 0, .int .i64 0, .int .i64 0, .int .i64 0, .int .i64 0, .int .i64 0, .int .i64 0, .int .i64 0, .int .i64 0, .int .i64 0, .int .i64 0, .int .i64 0, .int .i64 0, .int .i64 0, .int .i64 0, .int .i64 0, .int .i64 0, .int .i64 0, .int .i64 0, .int .i64 0, .int .i64 0, .int .i64 0, .int .i64 0, .int .i64 0, .int .i64 0, .int .i64 0, .int .i64 0, .int .i64 0, .int .i64 0, .int .i64 0, .int .i64 0, .int .i64 0, .int .i64 0, .int .i64 0, .int .i64 0, .int .i64 0, .int .i64 0, .int .i64 0, .int .i64 0, .int .i64 0, .int .i64 0, .int .i64 0, .int .i64 0, .int .i64 0, .bool false, .bool false, .int .i64 0] 35)) = w0 at *
  generalize hba : w.heap.size = ba at *
  have HBA := Lib.hid hba
  have HE := Lib.hid e0
  have HA := Lib.hid A0
  have HR := Lib.hid R0
  clear hba e0 A0 R0
  go_loopg [4] 12 (fun m iv wr => ∃ (i : Nat), i + m = 12 ∧ iv = .int .i64 (i : Int) ∧ StAt wr (ba + 1 + 1) (zSt rs (i * 4)) ∧ Calm [ba + 1 + 1] w0 wr)
  case atStart => exact ⟨0, by omega, rfl, S1, Calm.refl _ _⟩
  case round =>
    clear S1
    obtain ⟨i, him, rfl, S2, K2⟩ := hrel
    have HS2 := Lib.hid S2
    have HK2 := Lib.hid K2
    clear S2 K2
    generalize wr = wo at *
    by_cases hi : i < 12
    · have hiI : (i : Int) < 12 := by omega
      go_wp2_with fail
      go_loopg [5] 4 (fun m iv wr => ∃ (k : Nat), k + m = 4 ∧ iv = .int .i64 (k : Int) ∧ StAt wr (ba + 1 + 1) (zSt rs (i * 4 + k)) ∧ Calm [ba + 1 + 1] w0 wr)
      case atStart => exact ⟨0, by omega, rfl, HS2.out, HK2.out⟩
      case round =>
        obtain ⟨k, hkm, rfl, S3, K3⟩ := hrel
        have HS3 := Lib.hid S3
        have HK3 := Lib.hid K3
        by_cases hk : k < 4
        · have hkI : (k : Int) < 4 := by omega
          have cS := S3.cell (i * 4 + k) (by omega)
          have fS := S3.thaw (i * 4 + k)
          have cA : wr.cell? ⟨ba, i * 4 + k, none⟩ = some (.int .i64 (rs.getD (i * 4 + k) 0)) := by
            rw [(HA.out.calm K3 (by simp; omega)).cell]
            simp [List.getD, show i * 4 + k < rs.length by rw [HL.out]; omega]
          have hn : -9223372036854775808 ≤ rs.getD (i * 4 + k) 0 ∧ rs.getD (i * 4 + k) 0 ≤ 9223372036854775807 := by
            have hlt : i * 4 + k < rs.length := by rw [HL.out]; omega
            have : rs.getD (i * 4 + k) 0 = rs[i * 4 + k] := by simp [List.getD, hlt]
            rw [this]
            exact HB.out _ (List.getElem_mem hlt)
          have S4 := S3.setReg (i * 4 + k) (by omega) (clampZ (rs.getD (i * 4 + k) 0))
          have eS : ({ zSt rs (i * 4 + k) with rs := (zSt rs (i * 4 + k)).rs.set (i * 4 + k) (clampZ (rs.getD (i * 4 + k) 0)) } : St) = zSt rs (i * 4 + (k + 1)) := by
            show (⟨(mixL rs (i * 4 + k)).set (i * 4 + k) (clampZ (rs.getD (i * 4 + k) 0)), false, false, 0⟩ : St) = _
            rw [mixL_set HL.out (by omega)]
            rfl
          rw [eS] at S4
          have HS4 := Lib.hid (S4.ext (Ext.refl _).drew)
          have HK4 := Lib.hid ((K3.trans (calm_setP wr (ba + 1 + 1) (i * 4 + k) (.int .i64 (clampZ (rs.getD (i * 4 + k) 0))))).trans (((Ext.refl _).drew).calm [ba + 1 + 1]))
          have hne : ba + 1 + 1 ≠ ba := by omega
          clear S3 K3 S4 eS
          generalize rs.getD (i * 4 + k) 0 = n at *
          go_wp2_with fail
          go_region_held (fun w' => w'.cell? ⟨ba, i * 4 + k, none⟩ = some (.int .i64 n)) (first | (go_keep; done) | assumption)
            (first | (go_at_call 25; refine (rclamp_any n _ hn.1 hn.2).mono ?_; rintro e w4 ⟨rfl, rfl⟩))
          go_wp2
          go_roundg (gk - 1)
          case measure => omega
          case rel => exact ⟨k + 1, by omega, rfl, HS4.out, HK4.out⟩
        · obtain rfl : k = 4 := by omega
          clear S3 K3
          go_wp2
          go_roundg (12 - (i + 1))
          case measure => omega
          case rel => exact ⟨i + 1, by omega, rfl, by rw [show (i + 1) * 4 = i * 4 + 4 by omega]; exact HS3.out, HK3.out⟩
    · obtain rfl : i = 12 := by omega
      have R3 := HR.out.calm HK2.out (by simp)
      have hS := HS2.out.1
      have hst : (stL (zSt rs 48)).toArray.size = 51 := by simp [stL, zSt, mixL_len HL.out]
      have hone : (stL (zSt rs 48)).toArray.all (·.oneCell') = true := all_oneCell_toArray (fun v hv => by
        rcases List.mem_append.1 hv with h | h
        · obtain ⟨y, _, rfl⟩ := List.mem_map.1 h; rfl
        · simp at h; rcases h with rfl | rfl | rfl <;> rfl)
      go_wp2_with (first
        | ((with_reducible refine wpList_load_blk (op := ⟨some 25, _, _, _, _, _⟩) ?_ 35 (.tmp 3) ?_ (ba + 1 + 1) ?_ (z := (stL (zSt rs 48)).toArray) (T := 35) ?_ Try.underlying35 ?_ ?_ ?_); rfl; rfl; rfl; exact hS; rfl; (rw [hst]; kernel_rfl))
        | ((with_reducible refine wpList_store_blk (op := ⟨none, .store 35 (.tmp 2) (.tmp 25), _, _, _, _⟩) ?_ 35 (.tmp 2) (.tmp 25) ?_ (ba + 1) ?_ (cs := (stL (zSt rs 48)).toArray) ?_ (T := 35) R3 ?_ ?_ ?_ ?_); rfl; rfl; rfl; rfl; (rw [hst]; kernel_rfl); exact hone; (rw [hst]; rfl))
        | fail)
      refine bodyPost_ret (v := .agg (stL (zSt rs 48)).toArray) ?_ rfl ?_
      · exact results_blk (b := ba + 1) (t := 2) (ty := 35) rfl rfl (R3.setRow _) Try.underlying35 rfl (by rw [hst]; kernel_rfl)
      · refine ⟨by unfold zSt; rw [mixL_full HL.out], Ext.setRow (Ext.calm_trans HE.out HK2.out (fun g hg => by simp at hg; have := HBA.out; omega)) (by have := HBA.out; omega) _⟩
end Go.Proofs.Ytellfhnfifgpoaa

namespace Go.Proofs.Ytellfhnfifgpoaa
open Go.RowKit
set_option linter.unusedVariables false
theorem Arr.nthR {w : World} {k : IntKind} {ao : Option Addr} {c : Nat} {l : List Int} (h : Arr w k (.slice ao l.length c) l) (i : Nat) (hi : i < l.length) :
    ∃ b off y, ao = some ⟨b, off, none⟩ ∧ l[i]? = some y ∧ (Lit.int k y).wf = true ∧ w.cell? ⟨b, off + i, none⟩ = some (.int k y) := by
  obtain ⟨⟨ao', c', e, h1, h2, h3⟩, h4, h5⟩ := h
  cases e
  obtain ⟨b, off, rfl, hc⟩ := h2 (by intro e; subst e; simp at hi)
  refine ⟨b, off, l[i], rfl, by simp [hi], h5 _ (List.getElem_mem ..), ?_⟩
  rw [hc i hi]
  simp [List.getD, hi]
/-- registers (48 numbers), where they lie -/
def RgAt (w : World) (b : Nat) (rs : List Int) : Prop := Blk w b (rs.map (Value.int .i64)).toArray 31 ∧ rs.length = 48
theorem RgAt.cell {w : World} {b : Nat} {rs : List Int} (h : RgAt w b rs) (j : Nat) (hj : j < 48) : w.cell? ⟨b, j, none⟩ = some (.int .i64 (rs.getD j 0)) := by
  rw [h.1.cell j]
  have : j < rs.length := by rw [h.2]; exact hj
  simp [List.getD, this]
theorem RgAt.thaw {w : World} {b : Nat} {rs : List Int} (h : RgAt w b rs) (o : Nat) : w.frozen? ⟨b, o, none⟩ = false := h.1.frozen o
theorem RgAt.set {w : World} {b : Nat} {rs : List Int} (h : RgAt w b rs) (j : Nat) (n : Int) : RgAt (w.setCell ⟨b, j, none⟩ (.int .i64 n)) b (rs.set j n) := by
  refine ⟨?_, by simpa using h.2⟩
  have := h.1.set j (.int .i64 n)
  rw [List.map_set]
  simpa using this
theorem RgAt.put {w : World} {b : Nat} {rs : List Int} (h : RgAt w b rs) (r : Nat) (v : V4) : RgAt ((((w.setCell ⟨b, r * 4, none⟩ (.int .i64 v.c0)).setCell ⟨b, r * 4 + 1, none⟩ (.int .i64 v.c1)).setCell ⟨b, r * 4 + 2, none⟩ (.int .i64 v.c2)).setCell ⟨b, r * 4 + 3, none⟩ (.int .i64 v.c3)) b (regPut rs r v) :=
  (((h.set _ _).set _ _).set _ _).set _ _
def rowL (l : List Int) : List Int := (List.range 48).map fun m => if l.length = 0 then 0 else l.getD (m % l.length) 0
def mixR (l : List Int) (m : Nat) : List Int := (rowL l).take m ++ List.replicate (48 - m) 0
theorem mixR_zero (l : List Int) : mixR l 0 = List.replicate 48 0 := by simp [mixR]
theorem mixR_full (l : List Int) : mixR l 48 = rowL l := by
  unfold mixR
  rw [List.take_of_length_le (by simp [rowL])]
  simp
theorem mixR_len (l : List Int) {m : Nat} (hm : m ≤ 48) : (mixR l m).length = 48 := by
  simp [mixR, rowL]
  omega
theorem rowL_get (l : List Int) {m : Nat} (hm : m < 48) : (rowL l)[m]? = some (if l.length = 0 then 0 else l.getD (m % l.length) 0) := by
  simp [rowL, hm]
theorem mixR_set (l : List Int) {m : Nat} (hm : m < 48) (hl : l.length ≠ 0) : (mixR l m).set m (l.getD (m % l.length) 0) = mixR l (m + 1) := by
  have hln : ((rowL l).take m).length = m := by simp [rowL]; omega
  unfold mixR
  rw [List.set_append_right _ _ (by omega), hln, Nat.sub_self, show 48 - m = (48 - (m + 1)) + 1 by omega, List.replicate_succ, List.set_cons_zero]
  rw [List.take_add_one, rowL_get l hm, if_neg hl]
  simp
theorem mixR_none {l : List Int} (hl : l.length = 0) {m : Nat} (hm : m < 48) : mixR l (m + 1) = mixR l m := by
  unfold mixR
  rw [List.take_add_one, rowL_get l hm, if_pos hl, show 48 - m = (48 - (m + 1)) + 1 by omega, List.replicate_succ]
  simp
def regsOf (l : List Int) (raw : V4) : List Int := regPut (rowL l) 11 raw
set_option maxRecDepth 100000 in
set_option maxHeartbeats 2000000 in
theorem regs8_any (w : World) (v : Value) (l : List Int) (h : Arr w .i32 v l) (hl : l.length ≤ 100) (raw : V4) : Calls Try.prog 11 #[v, .agg #[.int .i64 raw.c0, .int .i64 raw.c1, .int .i64 raw.c2, .int .i64 raw.c3]] w fun e w' => e = .returned (regsV (regsOf l raw)) ∧ Ext w w' := by
  have hA := h
  obtain ⟨⟨ao, c, rfl, -, -, -⟩, -, hwf⟩ := h
  have hlI : (l.length : Int) ≤ 100 := by omega
  have W0 := ((Blk.new w #[.int .i64 raw.c0, .int .i64 raw.c1, .int .i64 raw.c2, .int .i64 raw.c3] 24).alloc (.cells #[.int .i64 0, .int .i64 0, .int .i64 0, .int .i64 0, .int .i64 0, .int .i64 0, .int .i64 0, .int .i64 0, .int .i64 0, .int .i64 0, .int .i64 0, .int .i64 0, .int .i64 0, .int .i64 0, .int .i64 0, .int .i64 0, .int .i64 0, .int .i64 0, .int .i64 0, .int .i64 0, .int .i64 0, .int .i64 0, .int .i64 0, .int .i64 0, .int .i64 0, .int .i64 0, .int .i64 0, .int .i64 0, .int .i64 0, .int .i64 0, .int .i64 0, .int .i64 0, .int .i64 0, .int .i64 0, .int .i64 0, .int .i64 0, .int .i64 0, .int .i64 0, .int .i64 0, .int .i64 0, .int .i64 0, .int .i64 0, .int .i64 0, .int .i64 0, .int .i64 0, .int .i64 0, .int .i64 0, .int .i64 0] 31)).alloc (.cells #[.int .i64 0, .int .i64 0, .int .i64 0, .int .i64 0, .int .i64 0, .int .i64 0, .int .i64 0, .int .i64 0, .int .i64 0, .int .i64 0, .int .i64 0, .int .i64 0, .int .i64 0, .int .i64 0, .int .i64 0, .int .i64 0, .int .i64 0, .int .i64 0, .int .i64 0, .int .i64 0, .int .i64 0, .int .i64 0, .int .i64 0, .int .i64 0, .int .i64 0, .int .i64 0, .int .i64 0, .int .i64 0, .int .i64 0, .int .i64 0, .int .i64 0, .int .i64 0, .int .i64 0, .int .i64 0, .int .i64 0, .int .i64 0, .int .i64 0, .int .i64 0, .int .i64 0, .int .i64 0, .int .i64 0, .int .i64 0, .int .i64 0, .int .i64 0, .int .i64 0, .int .i64 0, .int .i64 0, .int .i64 0] 31)
  have R0 := (Blk.new (w.alloc (.cells #[.int .i64 raw.c0, .int .i64 raw.c1, .int .i64 raw.c2, .int .i64 raw.c3] 24)) #[.int .i64 0, .int .i64 0, .int .i64 0, .int .i64 0, .int .i64 0, .int .i64 0, .int .i64 0, .int .i64 0, .int .i64 0, .int .i64 0, .int .i64 0, .int .i64 0, .int .i64 0, .int .i64 0, .int .i64 0, .int .i64 0, .int .i64 0, .int .i64 0, .int .i64 0, .int .i64 0, .int .i64 0, .int .i64 0, .int .i64 0, .int .i64 0, .int .i64 0, .int .i64 0, .int .i64 0, .int .i64 0, .int .i64 0, .int .i64 0, .int .i64 0, .int .i64 0, .int .i64 0, .int .i64 0, .int .i64 0, .int .i64 0, .int .i64 0, .int .i64 0, .int .i64 0, .int .i64 0, .int .i64 0, .int .i64 0, .int .i64 0, .int .i64 0, .int .i64 0, .int .i64 0, .int .i64 0, .int .i64 0] 31).alloc (.cells #[.int .i64 0, .int .i64 0, .int .i64 0, .int .i64 0, .int .i64 0, .int .i64 0, .int .i64 0, .int .i64 0, .int .i64 0, .int .i64 0, .int .i64 0, .int .i64 0, .int .i64 0, .int .i64 0, .int .i64 0, .int .i64 0, .int .i64 0, .int .i64 0, .int .i64 0, .int .i64 0, .int .i64 0, .int .i64 0, .int .i64 0, .int .i64 0, .int .i64 0, .int .i64 0, .int .i64 0, .int .i64 0, .int .i64 0, .int .i64 0, .int .i64 0, .int .i64 0, .int .i64 0, .int .i64 0, .int .i64 0, .int .i64 0, .int .i64 0, .int .i64 0, .int .i64 0, .int .i64 0, .int .i64 0, .int .i64 0, .int .i64 0, .int .i64 0, .int .i64 0, .int .i64 0, .int .i64 0, .int .i64 0] 31)
  have S0 := Blk.new ((w.alloc (.cells #[.int .i64 raw.c0, .int .i64 raw.c1, .int .i64 raw.c2, .int .i64 raw.c3] 24)).alloc (.cells #[.int .i64 0, .int .i64 0, .int .i64 0, .int .i64 0, .int .i64 0, .int .i64 0, .int .i64 0, .int .i64 0, .int .i64 0, .int .i64 0, .int .i64 0, .int .i64 0, .int .i64 0, .int .i64 0, .int .i64 0, .int .i64 0, .int .i64 0, .int .i64 0, .int .i64 0, .int .i64 0, .int .i64 0, .int .i64 0, .int .i64 0, .int .i64 0, .int .i64 0, .int .i64 0, .int .i64 0, .int .i64 0, .int .i64 0, .int .i64 0, .int .i64 0, .int .i64 0, .int .i64 0, .int .i64 0, .int .i64 0, .int .i64 0, .int .i64 0, .int .i64 0, .int .i64 0, .int .i64 0, .int .i64 0, .int .i64 0, .int .i64 0, .int .i64 0, .int .i64 0, .int .i64 0, .int .i64 0, .int .i64 0] 31)) #[.int .i64 0, .int .i64 0, .int .i64 0, .int .i64 0, .int .i64 0, .int .i64 0, .int .i64 0, .int .i64 0, .int .i64 0, .int .i64 0, .int .i64 0, .int .i64 0, .int .i64 0, .int .i64 0, .int .i64 0, .int .i64 0, .int .i64 0, .int .i64 0, .int .i64 0, .int .i64 0, .int .i64 0, .int .i64 0, .int .i64 0, .int .i64 0, .int .i64 0, .int .i64 0, .int .i64 0, .int .i64 0, .int .i64 0, .int .i64 0, .int .i64 0, .int .i64 0, .int .i64 0, .int .i64 0, .int .i64 0, .int .i64 0, .int .i64 0, .int .i64 0, .int .i64 0, .int .i64 0, .int .i64 0, .int .i64 0, .int .i64 0, .int .i64 0, .int .i64 0, .int .i64 0, .int .i64 0, .int .i64 0] 31
  have z1 : (w.alloc (.cells #[.int .i64 raw.c0, .int .i64 raw.c1, .int .i64 raw.c2, .int .i64 raw.c3] 24)).heap.size = w.heap.size + 1 := by simp
  have z2 : ((w.alloc (.cells #[.int .i64 raw.c0, .int .i64 raw.c1, .int .i64 raw.c2, .int .i64 raw.c3] 24)).alloc (.cells #[.int .i64 0, .int .i64 0, .int .i64 0, .int .i64 0, .int .i64 0, .int .i64 0, .int .i64 0, .int .i64 0, .int .i64 0, .int .i64 0, .int .i64 0, .int .i64 0, .int .i64 0, .int .i64 0, .int .i64 0, .int .i64 0, .int .i64 0, .int .i64 0, .int .i64 0, .int .i64 0, .int .i64 0, .int .i64 0, .int .i64 0, .int .i64 0, .int .i64 0, .int .i64 0, .int .i64 0, .int .i64 0, .int .i64 0, .int .i64 0, .int .i64 0, .int .i64 0, .int .i64 0, .int .i64 0, .int .i64 0, .int .i64 0, .int .i64 0, .int .i64 0, .int .i64 0, .int .i64 0, .int .i64 0, .int .i64 0, .int .i64 0, .int .i64 0, .int .i64 0, .int .i64 0, .int .i64 0, .int .i64 0] 31)).heap.size = w.heap.size + 1 + 1 := by simp
  rw [z1] at R0
  rw [z2] at S0
  have S1 : RgAt _ (w.heap.size + 1 + 1) (mixR l 0) := ⟨by rw [show ((mixR l 0).map (Value.int .i64)).toArray = #[.int .i64 0, .int .i64 0, .int .i64 0, .int .i64 0, .int .i64 0, .int .i64 0, .int .i64 0, .int .i64 0, .int .i64 0, .int .i64 0, .int .i64 0, .int .i64 0, .int .i64 0, .int .i64 0, .int .i64 0, .int .i64 0, .int .i64 0, .int .i64 0, .int .i64 0, .int .i64 0, .int .i64 0, .int .i64 0, .int .i64 0, .int .i64 0, .int .i64 0, .int .i64 0, .int .i64 0, .int .i64 0, .int .i64 0, .int .i64 0, .int .i64 0, .int .i64 0, .int .i64 0, .int .i64 0, .int .i64 0, .int .i64 0, .int .i64 0, .int .i64 0, .int .i64 0, .int .i64 0, .int .i64 0, .int .i64 0, .int .i64 0, .int .i64 0, .int .i64 0, .int .i64 0, .int .i64 0, .int .i64 0] by rw [mixR_zero]; rfl]; exact S0, by simp [mixR_zero]⟩
  have e0 := (((Ext.refl w).alloc #[.int .i64 raw.c0, .int .i64 raw.c1, .int .i64 raw.c2, .int .i64 raw.c3] 24).alloc #[.int .i64 0, .int .i64 0, .int .i64 0, .int .i64 0, .int .i64 0, .int .i64 0, .int .i64 0, .int .i64 0, .int .i64 0, .int .i64 0, .int .i64 0, .int .i64 0, .int .i64 0, .int .i64 0, .int .i64 0, .int .i64 0, .int .i64 0, .int .i64 0, .int .i64 0, .int .i64 0, .int .i64 0, .int .i64 0, .int .i64 0, .int .i64 0, .int .i64 0, .int .i64 0, .int .i64 0, .int .i64 0, .int .i64 0, .int .i64 0, .int .i64 0, .int .i64 0, .int .i64 0, .int .i64 0, .int .i64 0, .int .i64 0, .int .i64 0, .int .i64 0, .int .i64 0, .int .i64 0, .int .i64 0, .int .i64 0, .int .i64 0, .int .i64 0, .int .i64 0, .int .i64 0, .int .i64 0, .int .i64 0] 31).alloc #[.int .i64 0, .int .i64 0, .int .i64 0, .int .i64 0, .int .i64 0, .int .i64 0, .int .i64 0, .int .i64 0, .int .i64 0, .int .i64 0, .int .i64 0, .int .i64 0, .int .i64 0, .int .i64 0, .int .i64 0, .int .i64 0, .int .i64 0, .int .i64 0, .int .i64 0, .int .i64 0, .int .i64 0, .int .i64 0, .int .i64 0, .int .i64 0, .int .i64 0, .int .i64 0, .int .i64 0, .int .i64 0, .int .i64 0, .int .i64 0, .int .i64 0, .int .i64 0, .int .i64 0, .int .i64 0, .int .i64 0, .int .i64 0, .int .i64 0, .int .i64 0, .int .i64 0, .int .i64 0, .int .i64 0, .int .i64 0, .int .i64 0, .int .i64 0, .int .i64 0, .int .i64 0, .int .i64 0, .int .i64 0] 31
  clear S0 z1 z2
  have A1 := hA.ext e0
  go_enter Try.func11, Try.ntmps11
  go_wp2_with fail
  generalize (((w.alloc (.cells #[.int .i64 raw.c0, .int .i64 raw.c1, .int .i64 raw.c2, .int .i64 raw.c3] 24)).alloc (.cells #[.int .i64 0, .int .i64 0, .int .i64 0, .int .i64 0, .int .i64 0, .int .i64 0, .int .i64 0, .int .i64 0, .int .i64 0, .int .i64 0, .int .i64 0, .int .i64 0, .int .i64 0, .int .i64 0, .int .i64 0, .int .i64 0, .int .i64 0, .int .i64 0, .int .i64 0, .int .i64 0, .int .i64 0, .int .i64 0, .int .i64 0, .int .i64 0, .int .i64 0, .int .i64 0, .int .i64 0, .int .i64 0, .int .i64 0, .int .i64 0, .int .i64 0, .int .i64 0, .int .i64 0, .int .i64 0, .int .i64 0, .int .i64 0, .int .i64 0, .int .i64 0, .int .i64 0, .int .i64 0, .int .i64 0, .int .i64 0, .int .i64 0, .int .i64 0, .int .i64 0, .int .i64 0, .int .i64 0, .int .i64 0] 31)).alloc (.cells #[.int .i64 0, .int .i64 0, .int .i64 0, .int .i64 0, .int .i64 0, .int .i64 0, .int .i64 0, .int .i64 0, .int .i64 0, .int .i64 0, .int .i64 0, .int .i64 0, .int .i64 0, .int .i64 0, .int .i64 0, .int .i64 0, .int .i64 0, .int .i64 0, .int .i64 0, .int .i64 0, .int .i64 0, .int .i64 0, .int .i64 0, .int .i64 0, .int .i64 0, .int .i64 0, .int .i64 0, .int .i64 0, .int .i64 0, .int .i64 0, .int .i64 0, .int .i64 0, .int .i64 0, .int .i64 0, .int .i64 0, .int .i64 0, .int .i64 0, .int .i64 0, .int .i64 0, .int .i64 0, .int .i64 0, .int .i64 0, .int .i64 0, .int .i64 0, .int .i64 0, .int .i64 0, .int .i64 0, .int .i64 0] 31)) = w0 at *
  generalize hba : w.heap.size = ba at *
  have HBA := Lib.hid hba
  have HE := Lib.hid e0
  have HW := Lib.hid W0
  have HR := Lib.hid R0
  have HWF := Lib.hid hwf
  have HA := Lib.hid hA
  clear hba e0 W0 R0 A1 hwf hA
  go_loopg [9] 12 (fun m iv wr => ∃ (i : Nat), i + m = 12 ∧ iv = .int .i64 (i : Int) ∧ RgAt wr (ba + 1 + 1) (mixR l (i * 4)) ∧ Calm [ba + 1 + 1] w0 wr)
  case atStart => exact ⟨0, by omega, rfl, S1, Calm.refl _ _⟩
  case round =>
    clear S1
    obtain ⟨i, him, rfl, S2, K2⟩ := hrel
    have HS2 := Lib.hid S2
    have HK2 := Lib.hid K2
    clear S2 K2
    generalize wr = wo at *
    by_cases hi : i < 12
    · have hiI : (i : Int) < 12 := by omega
      go_wp2_with fail
      go_loopg [12] 4 (fun m iv wr => ∃ (k : Nat), k + m = 4 ∧ iv = .int .i64 (k : Int) ∧ RgAt wr (ba + 1 + 1) (mixR l (i * 4 + k)) ∧ Calm [ba + 1 + 1] w0 wr)
      case atStart => exact ⟨0, by omega, rfl, HS2.out, HK2.out⟩
      case round =>
        obtain ⟨k, hkm, rfl, S3, K3⟩ := hrel
        have HS3 := Lib.hid S3
        have HK3 := Lib.hid K3
        by_cases hk : k < 4
        · have hkI : (k : Int) < 4 := by omega
          by_cases h0 : l.length = 0
          · have h0I : ¬ (0 : Int) < (l.length : Int) := by omega
            have h0N : ¬ 0 < l.length := by omega
            have HS4 := Lib.hid (show RgAt wr (ba + 1 + 1) (mixR l (i * 4 + (k + 1))) by rw [show i * 4 + (k + 1) = (i * 4 + k) + 1 by omega, mixR_none h0 (by omega)]; exact S3)
            clear S3 K3 h0
            go_wp2
            go_roundg (gk - 1)
            case measure => omega
            case rel => exact ⟨k + 1, by omega, rfl, HS4.out, HK3.out⟩
          · have h0I : (0 : Int) < (l.length : Int) := by omega
            have cS := S3.cell (i * 4 + k) (by omega)
            have fS := S3.thaw (i * 4 + k)
            have E3 := Ext.calm_trans HE.out K3 (fun g hg => by simp at hg; have := HBA.out; omega)
            obtain ⟨q, hq⟩ : ∃ q : Nat, (i * 4 + k) % l.length = q := ⟨_, rfl⟩
            have hqlt : q < l.length := by rw [← hq]; exact Nat.mod_lt _ (by omega)
            have hqI : (q : Int) < (l.length : Int) := by omega
            obtain ⟨bb, off, y, hao, hy, hyw, cy⟩ := (HA.out.ext E3).nthR q hqlt
            subst hao
            have hyb := bounds_i32 hyw
            have hge : l.getD ((i * 4 + k) % l.length) 0 = y := by rw [hq]; simp [List.getD, hy]
            have S4 := S3.set (i * 4 + k) y
            rw [← hge, mixR_set l (by omega) h0] at S4
            rw [hge] at S4
            have HS4 := Lib.hid (show RgAt (wr.setCell ⟨ba + 1 + 1, i * 4 + k, none⟩ (.int .i64 y)).drew (ba + 1 + 1) (mixR l (i * 4 + (k + 1))) from ⟨S4.1, S4.2⟩)
            have HK4 := Lib.hid ((K3.trans (calm_setP wr (ba + 1 + 1) (i * 4 + k) (.int .i64 y))).trans (((Ext.refl _).drew).calm [ba + 1 + 1]))
            have hmI : (4 * (i : Int) + (k : Int)) % (l.length : Int) = (q : Int) := by rw [← hq, show 4 * (i : Int) + (k : Int) = ((i * 4 + k : Nat) : Int) by omega]; rfl
            have hmT : Int.tmod (4 * (i : Int) + (k : Int)) (l.length : Int) = (q : Int) := by rw [Int.tmod_eq_emod_of_nonneg (by omega)]; exact hmI
            clear S3 K3 S4 hge E3 hq
            go_wp2_with fail
            go_region
            go_wp2
            go_roundg (gk - 1)
            case measure => omega
            case rel => exact ⟨k + 1, by omega, rfl, HS4.out, HK4.out⟩
        · obtain rfl : k = 4 := by omega
          clear S3 K3
          go_wp2
          go_roundg (12 - (i + 1))
          case measure => omega
          case rel => exact ⟨i + 1, by omega, rfl, by rw [show (i + 1) * 4 = i * 4 + 4 by omega]; exact HS3.out, HK3.out⟩
    · obtain rfl : i = 12 := by omega
      have S5 := HS2.out.put 11 raw
      rw [show 12 * 4 = 48 from rfl, mixR_full] at S5
      have k5 := (((calm_setP wo (ba + 1 + 1) 44 (.int .i64 raw.c0)).trans (calm_setP _ (ba + 1 + 1) 45 (.int .i64 raw.c1))).trans (calm_setP _ (ba + 1 + 1) 46 (.int .i64 raw.c2))).trans (calm_setP _ (ba + 1 + 1) 47 (.int .i64 raw.c3))
      have W5 := (HW.out.calm HK2.out (by simp; omega)).cell
      have c44 := HS2.out.cell 44 (by omega)
      have c45 := HS2.out.cell 45 (by omega)
      have c46 := HS2.out.cell 46 (by omega)
      have c47 := HS2.out.cell 47 (by omega)
      have f5 := HS2.out.thaw
      have HS5 := Lib.hid S5
      have HK5 := Lib.hid (HK2.out.trans k5)
      clear S5 k5
      go_upto_region 14 with fail
      have S6 : RgAt ((((wo.setCell ⟨ba + 1 + 1, 44, none⟩ (.int .i64 raw.c0)).setCell ⟨ba + 1 + 1, 45, none⟩ (.int .i64 raw.c1)).setCell ⟨ba + 1 + 1, 46, none⟩ (.int .i64 raw.c2)).setCell ⟨ba + 1 + 1, 47, none⟩ (.int .i64 raw.c3)) (ba + 1 + 1) (regsOf l raw) := HS5.out
      have K6 := HK5.out
      clear c44 c45 c46 c47 f5 W5 HS5 HK5
      generalize ((((wo.setCell ⟨ba + 1 + 1, 44, none⟩ (.int .i64 raw.c0)).setCell ⟨ba + 1 + 1, 45, none⟩ (.int .i64 raw.c1)).setCell ⟨ba + 1 + 1, 46, none⟩ (.int .i64 raw.c2)).setCell ⟨ba + 1 + 1, 47, none⟩ (.int .i64 raw.c3)) = w6 at *
      have R6 := HR.out.calm K6 (by simp)
      have hS := S6.1
      have hst : ((regsOf l raw).map (Value.int .i64)).toArray.size = 48 := by simpa using S6.2
      have hone : ((regsOf l raw).map (Value.int .i64)).toArray.all (·.oneCell') = true := all_oneCell_toArray (fun v hv => by
        obtain ⟨y, _, rfl⟩ := List.mem_map.1 hv; rfl)
      have HK6 := Lib.hid K6
      clear K6
      go_wp2_with (first
        | ((with_reducible refine wpList_load_blk (op := ⟨some 37, _, _, _, _, _⟩) ?_ 31 (.tmp 5) ?_ (ba + 1 + 1) ?_ (z := ((regsOf l raw).map (Value.int .i64)).toArray) (T := 31) ?_ Try.underlying31 ?_ ?_ ?_); rfl; rfl; rfl; exact hS; rfl; (rw [hst]; kernel_rfl))
        | ((with_reducible refine wpList_store_blk (op := ⟨none, .store 31 (.tmp 4) (.tmp 37), _, _, _, _⟩) ?_ 31 (.tmp 4) (.tmp 37) ?_ (ba + 1) ?_ (cs := ((regsOf l raw).map (Value.int .i64)).toArray) ?_ (T := 31) R6 ?_ ?_ ?_ ?_); rfl; rfl; rfl; rfl; (rw [hst]; kernel_rfl); exact hone; (rw [hst]; rfl))
        | fail)
      refine bodyPost_ret (v := .agg ((regsOf l raw).map (Value.int .i64)).toArray) ?_ rfl ?_
      · exact results_blk (b := ba + 1) (t := 4) (ty := 31) rfl rfl (R6.setRow _) Try.underlying31 rfl (by rw [hst]; kernel_rfl)
      · exact ⟨rfl, Ext.setRow (Ext.calm_trans HE.out HK6.out (fun g hg => by simp at hg; have := HBA.out; omega)) (by have := HBA.out; omega) _⟩
end Go.Proofs.Ytellfhnfifgpoaa

