/-
  DERIVED. A result and a machine, built of registers that are not written out. · THE WALK of vm's Run: what it comes to. · THE WALK of vm's Colour (made by mkvm.py). · THE WALK of vm's Shade (made by mkvm.py). · THE WALK of vm's Place (made by mkvm.py). · THE WALK of stage 8's Awake. · registers of numbers, as Regs makes them (made by mkvm.py).
-/
import Derived.Test.YtellfhnfifgpoaaPkStep
import Derived.Test.YtellfhnfifgpoaaPkPlain
import Derived.Test.YtellfhnfifgpoaaPkCheck
import Derived.Test.YtellfhnfifgpoaaPkFix
import Derived.Test.YtellfhnfifgpoaaPkIsa
namespace Go.Proofs.Ytellfhnfifgpoaa
open Go.RowKit
set_option linter.unusedVariables false
/-- a result: its registers, whether discarded, the steps -/
def resL (s : St) : List Value := s.rs.map (Value.int .i64) ++ [.bool s.gone, .int .i64 s.steps]
theorem fold_setL : ∀ (L : List Value) (k : Nat) (A : Array Value), k + L.length ≤ A.size → (L.zipIdx k).foldl (fun cs x => cs.setIfInBounds x.snd x.fst) A = (A.toList.take k ++ L ++ A.toList.drop (k + L.length)).toArray
  | [], k, A, h => by simp
  | a :: L, k, A, h => by
    have hk : k < A.size := by simp at h; omega
    rw [List.zipIdx_cons, List.foldl_cons, fold_setL L (k + 1) _ (by simp at h ⊢; omega)]
    apply congrArg List.toArray
    apply List.ext_getElem?
    intro j
    simp only [Array.toList_setIfInBounds, List.length_cons]
    by_cases h1 : j < k
    · rw [List.append_assoc, List.append_assoc, List.getElem?_append_left (by simp; omega), List.getElem?_append_left (by simp; omega), List.getElem?_take_of_lt (by omega), List.getElem?_take_of_lt h1, List.getElem?_set_ne (by omega)]
    · by_cases h2 : j = k
      · subst h2
        rw [List.append_assoc, List.append_assoc, List.getElem?_append_left (by simp; omega), List.getElem?_append_right (by simp; omega), List.getElem?_take_of_lt (by omega), List.getElem?_set_self (by simpa using hk)]
        simp [Nat.min_eq_left (Nat.le_of_lt hk)]
      · by_cases h3 : j < k + 1 + L.length
        · rw [List.getElem?_append_left (by simp; omega), List.getElem?_append_right (by simp; omega), List.getElem?_append_left (by simp; omega), List.getElem?_append_right (by simp; omega)]
          simp only [List.length_take, List.length_set, Array.length_toList, Nat.min_eq_left (show k + 1 ≤ A.size by omega), Nat.min_eq_left (show k ≤ A.size by omega)]
          rw [show j - k = (j - (k + 1)) + 1 by omega, List.getElem?_cons_succ]
        · rw [List.getElem?_append_right (by simp; omega), List.getElem?_append_right (by simp; omega)]
          simp only [List.length_append, List.length_take, List.length_set, Array.length_toList, List.length_cons, Nat.min_eq_left (show k + 1 ≤ A.size by omega), Nat.min_eq_left (show k ≤ A.size by omega), List.getElem?_drop]
          rw [List.getElem?_set_ne (by omega)]
          congr 1
          omega
theorem fold_set (L : List Value) (A : Array Value) (h : L.length ≤ A.size) (n : Nat) (hn : n = L.length) : Array.foldl (fun cs x => cs.setIfInBounds x.snd x.fst) A (L.toArray.zipIdx) 0 n = (L ++ A.toList.drop L.length).toArray := by
  subst hn
  have := fold_setL L 0 A (by omega)
  simp only [List.take_zero, List.nil_append, Nat.zero_add] at this
  rw [← this]
  simp
theorem wpList_val {P : Program} {ops : Array Oper} {rest : List Oper} {o : Oper} {a : Act} {w : World} {Q : Exit → Act → World → Prop} {v : Value} (hgd : o.guard = none) (hrun : (execOp a.eval o).run P w = .ok (.value v) w) (h : wpList P ops Q rest (a.put o.dst v) w) : wpList P ops Q (o :: rest) a w :=
  wpList_plain hgd fun K hK => by
    unfold Oper.wp
    rw [hrun]
    exact hK _ _ h
set_option maxRecDepth 100000 in
theorem run_build_res {ρ : Operand → Value} {o : Oper} {w : World} (rs : List Int) (hl : rs.length = 48) (ho : o.op = .build 42 #[(0, .tmp 7)]) (hx : ρ (.tmp 7) = .agg (RL rs)) : (execOp ρ o).run Try.prog w = .ok (.value (.agg (resL ⟨rs, false, false, 0⟩).toArray)) w := by
  have hsz := RL.size hl
  have hf : Array.foldl (fun (cs : Array Value) (x : Value × Nat) => cs.setIfInBounds x.snd x.fst) #[.int .i64 0, .int .i64 0, .int .i64 0, .int .i64 0, .int .i64 0, .int .i64 0, .int .i64 0, .int .i64 0, .int .i64 0, .int .i64 0, .int .i64 0, .int .i64 0, .int .i64 0, .int .i64 0, .int .i64 0, .int .i64 0, .int .i64 0, .int .i64 0, .int .i64 0, .int .i64 0, .int .i64 0, .int .i64 0, .int .i64 0, .int .i64 0, .int .i64 0, .int .i64 0, .int .i64 0, .int .i64 0, .int .i64 0, .int .i64 0, .int .i64 0, .int .i64 0, .int .i64 0, .int .i64 0, .int .i64 0, .int .i64 0, .int .i64 0, .int .i64 0, .int .i64 0, .int .i64 0, .int .i64 0, .int .i64 0, .int .i64 0, .int .i64 0, .int .i64 0, .int .i64 0, .int .i64 0, .int .i64 0, .bool false, .int .i64 0] (RL rs).zipIdx 0 48 = (resL ⟨rs, false, false, 0⟩).toArray := by
    have := fold_set (rs.map (Value.int .i64)) #[.int .i64 0, .int .i64 0, .int .i64 0, .int .i64 0, .int .i64 0, .int .i64 0, .int .i64 0, .int .i64 0, .int .i64 0, .int .i64 0, .int .i64 0, .int .i64 0, .int .i64 0, .int .i64 0, .int .i64 0, .int .i64 0, .int .i64 0, .int .i64 0, .int .i64 0, .int .i64 0, .int .i64 0, .int .i64 0, .int .i64 0, .int .i64 0, .int .i64 0, .int .i64 0, .int .i64 0, .int .i64 0, .int .i64 0, .int .i64 0, .int .i64 0, .int .i64 0, .int .i64 0, .int .i64 0, .int .i64 0, .int .i64 0, .int .i64 0, .int .i64 0, .int .i64 0, .int .i64 0, .int .i64 0, .int .i64 0, .int .i64 0, .int .i64 0, .int .i64 0, .int .i64 0, .int .i64 0, .int .i64 0, .bool false, .int .i64 0] (by simp [hl]) 48 (by simp [hl])
    unfold RL
    rw [this]
    simp [resL, hl]
  simp [execOp, ho, hx, go_sem, Instr.build, Instr.fill, hsz, hf]
set_option maxRecDepth 100000 in
theorem run_build_mach {ρ : Operand → Value} {o : Oper} {w : World} (s : St) (hl : s.rs.length = 48) (hov : s.over = false) (ao : Option Addr) (n c : Nat) (ho : o.op = .build 84 #[(0, .tmp 8), (1, .tmp 9)]) (hx : ρ (.tmp 8) = .agg (resL s).toArray) (hy : ρ (.tmp 9) = .slice ao n c) : (execOp ρ o).run Try.prog w = .ok (.value (.agg (mL s (.slice ao n c)).toArray)) w := by
  have hsz : (resL s).length = 50 := by simp [resL, hl]
  have hf : List.foldl (fun (cs : Array Value) (x : Value × Nat) => cs.setIfInBounds x.snd x.fst) #[.int .i64 0, .int .i64 0, .int .i64 0, .int .i64 0, .int .i64 0, .int .i64 0, .int .i64 0, .int .i64 0, .int .i64 0, .int .i64 0, .int .i64 0, .int .i64 0, .int .i64 0, .int .i64 0, .int .i64 0, .int .i64 0, .int .i64 0, .int .i64 0, .int .i64 0, .int .i64 0, .int .i64 0, .int .i64 0, .int .i64 0, .int .i64 0, .int .i64 0, .int .i64 0, .int .i64 0, .int .i64 0, .int .i64 0, .int .i64 0, .int .i64 0, .int .i64 0, .int .i64 0, .int .i64 0, .int .i64 0, .int .i64 0, .int .i64 0, .int .i64 0, .int .i64 0, .int .i64 0, .int .i64 0, .int .i64 0, .int .i64 0, .int .i64 0, .int .i64 0, .int .i64 0, .int .i64 0, .int .i64 0, .bool false, .int .i64 0, .slice none 0 0, .bool false] (resL s).zipIdx = (resL s ++ [Value.slice none 0 0, Value.bool false]).toArray := by
    have := fold_setL (resL s) 0 #[.int .i64 0, .int .i64 0, .int .i64 0, .int .i64 0, .int .i64 0, .int .i64 0, .int .i64 0, .int .i64 0, .int .i64 0, .int .i64 0, .int .i64 0, .int .i64 0, .int .i64 0, .int .i64 0, .int .i64 0, .int .i64 0, .int .i64 0, .int .i64 0, .int .i64 0, .int .i64 0, .int .i64 0, .int .i64 0, .int .i64 0, .int .i64 0, .int .i64 0, .int .i64 0, .int .i64 0, .int .i64 0, .int .i64 0, .int .i64 0, .int .i64 0, .int .i64 0, .int .i64 0, .int .i64 0, .int .i64 0, .int .i64 0, .int .i64 0, .int .i64 0, .int .i64 0, .int .i64 0, .int .i64 0, .int .i64 0, .int .i64 0, .int .i64 0, .int .i64 0, .int .i64 0, .int .i64 0, .int .i64 0, .bool false, .int .i64 0, .slice none 0 0, .bool false] (by simp [hsz])
    rw [this]
    simp [hsz]
  have hm : (resL s ++ [Value.slice none 0 0, .bool false]).set 50 (.slice ao n c) = mL s (.slice ao n c) := by
    rw [List.set_append_right _ _ (by omega), hsz]
    simp [resL, mL, hov]
  simp [execOp, ho, hx, hy, go_sem, Instr.build, Instr.fill, hsz, hf, hm]
end Go.Proofs.Ytellfhnfifgpoaa

namespace Go.Proofs.Ytellfhnfifgpoaa
open Go.RowKit
set_option linter.unusedVariables false
def st0 (rs : List Int) : St := ⟨rs.map clampZ, false, false, 0⟩
/-- what Run comes to -/
def runV (p : List In) (rs : List Int) : St := if chk true p = 0 then run p 0 p.length (st0 rs) else st0 rs
theorem MAt.res {w : World} {b : Nat} {vp : Value} {s : St} (h : MAt w b vp s) : w.rangeAt b 0 (resL s) := fun j v hv => by
  rw [Nat.zero_add, h.1.cell j]
  have e : mL s vp = resL s ++ [vp, .bool s.over] := by simp [mL, resL]
  have hj := (List.getElem?_eq_some_iff.1 hv).1
  simp only [List.getElem?_toArray]
  rw [e, List.getElem?_append_left hj]
  exact hv
theorem resL_one (s : St) : (resL s).toArray.all (·.oneCell') = true := all_oneCell_toArray (fun v hv => by
  rcases List.mem_append.1 hv with h | h
  · obtain ⟨y, _, rfl⟩ := List.mem_map.1 h; rfl
  · simp at h; rcases h with rfl | rfl <;> rfl)
theorem mL_one (s : St) (ao : Option Addr) (n c : Nat) : (mL s (.slice ao n c)).toArray.all (·.oneCell') = true := all_oneCell_toArray (fun v hv => by
  rcases List.mem_append.1 hv with h | h
  · obtain ⟨y, _, rfl⟩ := List.mem_map.1 h; rfl
  · simp at h; rcases h with rfl | rfl | rfl | rfl <;> rfl)
theorem st0_rb {rs : List Int} (hl : rs.length = 48) : RB (st0 rs).rs := ⟨by simpa [st0] using hl, fun n hn => by
  obtain ⟨m, _, rfl⟩ := List.mem_map.1 hn
  exact clampZ_bd m⟩
set_option maxRecDepth 100000 in
set_option maxHeartbeats 2000000 in
theorem vrun_any (w : World) (vp : Value) (p : List In) (hP : PArr w vp p) (hok : ∀ x ∈ p, x.ok) (hlen : p.length ≤ 1000) (rs : List Int) (hl : rs.length = 48) (hb : ∀ n ∈ rs, -9223372036854775808 ≤ n ∧ n ≤ 9223372036854775807) : Calls Try.prog 15 #[vp, .agg (RL rs)] w fun e w' => e = .returned (.agg (resL (runV p rs)).toArray) ∧ Ext w w' := by
  obtain ⟨ao, c, rfl, -, -⟩ := hP.slice
  have hsz := RL.size hl
  have hone := RL.one rs
  have A0 := (Blk.new w (RL rs) 31).alloc (.cells #[.int .i64 0, .int .i64 0, .int .i64 0, .int .i64 0, .int .i64 0, .int .i64 0, .int .i64 0, .int .i64 0, .int .i64 0, .int .i64 0, .int .i64 0, .int .i64 0, .int .i64 0, .int .i64 0, .int .i64 0, .int .i64 0, .int .i64 0, .int .i64 0, .int .i64 0, .int .i64 0, .int .i64 0, .int .i64 0, .int .i64 0, .int .i64 0, .int .i64 0, .int .i64 0, .int .i64 0, .int .i64 0, .int .i64 0, .int .i64 0, .int .i64 0, .int .i64 0, .int .i64 0, .int .i64 0, .int .i64 0, .int .i64 0, .int .i64 0, .int .i64 0, .int .i64 0, .int .i64 0, .int .i64 0, .int .i64 0, .int .i64 0, .int .i64 0, .int .i64 0, .int .i64 0, .int .i64 0, .int .i64 0, .bool false, .int .i64 0] 42)
  have R0 := Blk.new' (w := w.alloc (.cells (RL rs) 31)) (b := w.heap.size + 1) (by simp) #[.int .i64 0, .int .i64 0, .int .i64 0, .int .i64 0, .int .i64 0, .int .i64 0, .int .i64 0, .int .i64 0, .int .i64 0, .int .i64 0, .int .i64 0, .int .i64 0, .int .i64 0, .int .i64 0, .int .i64 0, .int .i64 0, .int .i64 0, .int .i64 0, .int .i64 0, .int .i64 0, .int .i64 0, .int .i64 0, .int .i64 0, .int .i64 0, .int .i64 0, .int .i64 0, .int .i64 0, .int .i64 0, .int .i64 0, .int .i64 0, .int .i64 0, .int .i64 0, .int .i64 0, .int .i64 0, .int .i64 0, .int .i64 0, .int .i64 0, .int .i64 0, .int .i64 0, .int .i64 0, .int .i64 0, .int .i64 0, .int .i64 0, .int .i64 0, .int .i64 0, .int .i64 0, .int .i64 0, .int .i64 0, .bool false, .int .i64 0] 42
  have E0 := ((Ext.refl w).alloc (RL rs) 31).alloc #[.int .i64 0, .int .i64 0, .int .i64 0, .int .i64 0, .int .i64 0, .int .i64 0, .int .i64 0, .int .i64 0, .int .i64 0, .int .i64 0, .int .i64 0, .int .i64 0, .int .i64 0, .int .i64 0, .int .i64 0, .int .i64 0, .int .i64 0, .int .i64 0, .int .i64 0, .int .i64 0, .int .i64 0, .int .i64 0, .int .i64 0, .int .i64 0, .int .i64 0, .int .i64 0, .int .i64 0, .int .i64 0, .int .i64 0, .int .i64 0, .int .i64 0, .int .i64 0, .int .i64 0, .int .i64 0, .int .i64 0, .int .i64 0, .int .i64 0, .int .i64 0, .int .i64 0, .int .i64 0, .int .i64 0, .int .i64 0, .int .i64 0, .int .i64 0, .int .i64 0, .int .i64 0, .int .i64 0, .int .i64 0, .bool false, .int .i64 0] 42
  obtain ⟨s1, hs1⟩ : ∃ s1, runV p rs = s1 := ⟨_, rfl⟩
  rw [hs1]
  have HRV := Lib.hid hs1
  clear hs1
  have HP := Lib.hid hP
  have HR0 := Lib.hid R0
  have HE0 := Lib.hid E0
  have HOK := Lib.hid hok
  have HL := Lib.hid hl
  have HB := Lib.hid hb
  have hpI : (p.length : Int) ≤ 1000 := by omega
  clear hP R0 E0 hok hl hb
  go_enter Try.func15, Try.ntmps15
  go_wp2_with (first
    | ((with_reducible refine wpList_load_blk (op := ⟨some 6, _, _, _, _, _⟩) ?_ 31 (.tmp 3) ?_ w.heap.size ?_ (z := RL rs) (T := 31) A0 Try.underlying31 ?_ ?_ ?_); rfl; rfl; rfl; rfl; (rw [hsz]; kernel_rfl))
    | fail)
  refine (clamped_any rs HL.out HB.out _).mono ?_
  rintro e w1 ⟨rfl, x1⟩
  have HR1 := Lib.hid (HR0.out.ext x1)
  have HE1 := Lib.hid (HE0.out.trans x1)
  have hz1 := x1.size
  have hl2 : (rs.map clampZ).length = 48 := by simpa using HL.out
  have Z1 := Blk.new w1 #[.int .i64 0, .int .i64 0, .int .i64 0, .int .i64 0, .int .i64 0, .int .i64 0, .int .i64 0, .int .i64 0, .int .i64 0, .int .i64 0, .int .i64 0, .int .i64 0, .int .i64 0, .int .i64 0, .int .i64 0, .int .i64 0, .int .i64 0, .int .i64 0, .int .i64 0, .int .i64 0, .int .i64 0, .int .i64 0, .int .i64 0, .int .i64 0, .int .i64 0, .int .i64 0, .int .i64 0, .int .i64 0, .int .i64 0, .int .i64 0, .int .i64 0, .int .i64 0, .int .i64 0, .int .i64 0, .int .i64 0, .int .i64 0, .int .i64 0, .int .i64 0, .int .i64 0, .int .i64 0, .int .i64 0, .int .i64 0, .int .i64 0, .int .i64 0, .int .i64 0, .int .i64 0, .int .i64 0, .int .i64 0, .bool false, .int .i64 0, .slice none 0 0, .bool false] 84
  have hmz : (mL (st0 rs) (.slice ao p.length c)).toArray.size = 52 := by simp [mL, st0, HL.out]
  have hmo := mL_one (st0 rs) ao p.length c
  have hsl : (st0 rs).rs.length = 48 := hl2
  simp at hz1
  clear x1 A0 hsz hone HR0 HE0
  go_wp2_with (first
    | ((with_reducible refine wpList_val (o := ⟨some 8, _, _, _, _, _⟩) (v := .agg (resL (st0 rs)).toArray) ?_ ?_ ?_); rfl; (refine run_build_res (rs.map clampZ) hl2 ?_ ?_ <;> rfl))
    | ((with_reducible refine wpList_val (o := ⟨some 10, _, _, _, _, _⟩) (v := .agg (mL (st0 rs) (.slice ao p.length c)).toArray) ?_ ?_ ?_); rfl; (refine run_build_mach (st0 rs) hsl rfl ao p.length c ?_ ?_ ?_ <;> rfl))
    | ((with_reducible refine wpList_store_blk (op := ⟨none, .store 84 (.tmp 5) (.tmp 10), _, _, _, _⟩) ?_ 84 (.tmp 5) (.tmp 10) ?_ w1.heap.size ?_ (cs := (mL (st0 rs) (.slice ao p.length c)).toArray) ?_ (T := 84) Z1 ?_ ?_ ?_ ?_); rfl; rfl; rfl; rfl; (rw [hmz]; kernel_rfl); exact hmo; (rw [hmz]; rfl))
    | fail)
  have M2 : MAt _ w1.heap.size (.slice ao p.length c) (st0 rs) := ⟨Z1.setRow _, hsl⟩
  have E2 := Ext.setRow ((Ext.refl w1).alloc #[.int .i64 0, .int .i64 0, .int .i64 0, .int .i64 0, .int .i64 0, .int .i64 0, .int .i64 0, .int .i64 0, .int .i64 0, .int .i64 0, .int .i64 0, .int .i64 0, .int .i64 0, .int .i64 0, .int .i64 0, .int .i64 0, .int .i64 0, .int .i64 0, .int .i64 0, .int .i64 0, .int .i64 0, .int .i64 0, .int .i64 0, .int .i64 0, .int .i64 0, .int .i64 0, .int .i64 0, .int .i64 0, .int .i64 0, .int .i64 0, .int .i64 0, .int .i64 0, .int .i64 0, .int .i64 0, .int .i64 0, .int .i64 0, .int .i64 0, .int .i64 0, .int .i64 0, .int .i64 0, .int .i64 0, .int .i64 0, .int .i64 0, .int .i64 0, .int .i64 0, .int .i64 0, .int .i64 0, .int .i64 0, .bool false, .int .i64 0, .slice none 0 0, .bool false] 84) (Nat.le_refl _) (mL (st0 rs) (.slice ao p.length c)).toArray
  have HM2 := Lib.hid M2
  have HE2 := Lib.hid E2
  clear M2 E2 Z1 hmz hmo
  generalize (w1.alloc (.cells #[.int .i64 0, .int .i64 0, .int .i64 0, .int .i64 0, .int .i64 0, .int .i64 0, .int .i64 0, .int .i64 0, .int .i64 0, .int .i64 0, .int .i64 0, .int .i64 0, .int .i64 0, .int .i64 0, .int .i64 0, .int .i64 0, .int .i64 0, .int .i64 0, .int .i64 0, .int .i64 0, .int .i64 0, .int .i64 0, .int .i64 0, .int .i64 0, .int .i64 0, .int .i64 0, .int .i64 0, .int .i64 0, .int .i64 0, .int .i64 0, .int .i64 0, .int .i64 0, .int .i64 0, .int .i64 0, .int .i64 0, .int .i64 0, .int .i64 0, .int .i64 0, .int .i64 0, .int .i64 0, .int .i64 0, .int .i64 0, .int .i64 0, .int .i64 0, .int .i64 0, .int .i64 0, .int .i64 0, .int .i64 0, .bool false, .int .i64 0, .slice none 0 0, .bool false] 84)).setRow w1.heap.size (mL (st0 rs) (.slice ao p.length c)).toArray = w2 at *
  have HW2 := Lib.hid (HE1.out.trans HE2.out)
  refine (checkP_any true w2 _ p (HP.out.ext HW2.out) HOK.out (by omega)).mono ?_
  rintro e w3 ⟨rfl, x3⟩
  have HM3 := Lib.hid (HM2.out.ext x3)
  have HE3 := Lib.hid (HW2.out.trans x3)
  have HR3 := Lib.hid ((HR1.out.ext HE2.out).ext x3)
  clear x3 HM2 HR1
  have hs1 := HRV.out
  by_cases hck : chk true p = 0
  · have HS1 := Lib.hid (show run p 0 p.length (st0 rs) = s1 by rw [← hs1]; unfold runV; rw [if_pos hck])
    have HCK := Lib.hid hck
    have hc0 : (chk true p == 0) = true := by simpa using hck
    clear hs1 hck
    go_wp2_with fail
    obtain ⟨-, hall, hfu⟩ := chk_zero HCK.out
    have hst := run_fuel_bound HOK.out hall (p.length - 0) (st0 rs)
    refine (execute_any (.slice ao p.length c) w1.heap.size p (sound_of HOK.out hall) (by omega) (good_of HOK.out hall) (HP.out.off (by have := HE1.out.size; omega)) (st0 rs) w3 (HP.out.ext HE3.out) HM3.out (st0_rb HL.out) (fun _ => rfl) (Int.le_refl _) (by unfold run; have : (st0 rs).steps = 0 := rfl; omega)).mono ?_
    rintro e w4 ⟨rfl, M4, K4⟩
    rw [HS1.out] at M4
    have R4 := HR3.out.calm K4 (by simp; omega)
    have HE4 := Lib.hid (Ext.calm_trans HE3.out K4 (fun g hg => by simp at hg; omega))
    have hrz : (resL s1).length = 50 := by simp [resL, M4.2]
    have hry : (resL s1).toArray.size = 50 := by simp [hrz]
    clear hst hfu hall K4 HM3 HR3
    go_wp2_with (first
      | ((with_reducible refine wpList_load_mid (op := ⟨some 18, _, _, _, _, _⟩) ?_ 42 (.tmp 17) ?_ w1.heap.size 0 ?_ (resL s1) _ M4.res Try.underlying42 ?_ ?_ ?_); rfl; rfl; rfl; rfl; (rw [hrz]; kernel_rfl))
      | ((with_reducible refine wpList_store_blk (op := ⟨none, .store 42 (.tmp 4) (.tmp 18), _, _, _, _⟩) ?_ 42 (.tmp 4) (.tmp 18) ?_ (w.heap.size + 1) ?_ (cs := (resL s1).toArray) ?_ (T := 42) R4 ?_ ?_ ?_ ?_); rfl; rfl; rfl; rfl; (rw [hry]; kernel_rfl); exact resL_one _; (rw [hry]; rfl))
      | fail)
    refine bodyPost_ret (v := .agg (resL s1).toArray) (results_blk (b := w.heap.size + 1) (t := 4) (ty := 42) rfl rfl (R4.setRow _) Try.underlying42 rfl (by rw [hry]; kernel_rfl)) rfl ⟨rfl, ?_⟩
    exact HE4.out.setRow (by omega) _
  · have hss : st0 rs = s1 := by rw [← hs1]; unfold runV; rw [if_neg hck]
    have hc0 : (chk true p == 0) = false := by simpa using hck
    have M4 := HM3.out
    rw [hss] at M4
    have R4 := HR3.out
    have hrz : (resL s1).length = 50 := by simp [resL, M4.2]
    have hry : (resL s1).toArray.size = 50 := by simp [hrz]
    clear hs1 hck hss hsl
    go_wp2_with (first
      | ((with_reducible refine wpList_load_mid (op := ⟨some 18, _, _, _, _, _⟩) ?_ 42 (.tmp 17) ?_ w1.heap.size 0 ?_ (resL s1) _ M4.res Try.underlying42 ?_ ?_ ?_); rfl; rfl; rfl; rfl; (rw [hrz]; kernel_rfl))
      | ((with_reducible refine wpList_store_blk (op := ⟨none, .store 42 (.tmp 4) (.tmp 18), _, _, _, _⟩) ?_ 42 (.tmp 4) (.tmp 18) ?_ (w.heap.size + 1) ?_ (cs := (resL s1).toArray) ?_ (T := 42) R4 ?_ ?_ ?_ ?_); rfl; rfl; rfl; rfl; (rw [hry]; kernel_rfl); exact resL_one _; (rw [hry]; rfl))
      | fail)
    refine bodyPost_ret (v := .agg (resL s1).toArray) (results_blk (b := w.heap.size + 1) (t := 4) (ty := 42) rfl rfl (R4.setRow _) Try.underlying42 rfl (by rw [hry]; kernel_rfl)) rfl ⟨rfl, ?_⟩
    exact HE3.out.setRow (by omega) _
end Go.Proofs.Ytellfhnfifgpoaa

namespace Go.Proofs.Ytellfhnfifgpoaa
open Go.RowKit
set_option linter.unusedVariables false
theorem lim_eq (c : V4) : (V4.map2 minZ (V4.map2 maxZ c (V4.all 0)) (V4.all 65536)) = c.lim 0 65536 := by
  have h : ∀ n : Int, minZ (maxZ n 0) 65536 = limI 0 65536 n := fun n => by
    rw [limI_eq (by omega)]
    unfold minZ maxZ clampZ
    omega
  unfold V4.map2 V4.all V4.lim
  simp only [h]
set_option maxRecDepth 100000 in
set_option maxHeartbeats 4000000 in
theorem colour_r1 (f0 f3 f4 f5 f6 f7 : Value) (xb rb : Nat) (c : V4) (b0 : -9223372036854775808 ≤ c.c0 ∧ c.c0 ≤ 9223372036854775807) (b1 : -9223372036854775808 ≤ c.c1 ∧ c.c1 ≤ 9223372036854775807) (b2 : -9223372036854775808 ≤ c.c2 ∧ c.c2 ≤ 9223372036854775807) (b3 : -9223372036854775808 ≤ c.c3 ∧ c.c3 ≤ 9223372036854775807) (w : World) (hX : Blk w xb #[.int .i64 c.c0, .int .i64 c.c1, .int .i64 c.c2, .int .i64 c.c3] 29) (hR : Blk w rb #[.int .i64 0, .int .i64 0, .int .i64 0, .int .i64 0] 29) (nx : xb ≠ rb) {Q : Exit → Act → World → Prop}
    (hQ : ∀ (c3 c4 c5 c6 c7 : Value) (wx : World) , Blk wx rb #[.int .i64 (V4.map2 minZ (V4.map2 maxZ c (V4.all 0)) (V4.all 65536)).c0, .int .i64 (V4.map2 minZ (V4.map2 maxZ c (V4.all 0)) (V4.all 65536)).c1, .int .i64 (V4.map2 minZ (V4.map2 maxZ c (V4.all 0)) (V4.all 65536)).c2, .int .i64 (V4.map2 minZ (V4.map2 maxZ c (V4.all 0)) (V4.all 65536)).c3] 29 ∧ Calm [rb] w wx → Q .normal ⟨(f0 :: Value.pointer (some ⟨xb, 0, none⟩) :: Value.pointer (some ⟨rb, 0, none⟩) :: c3 :: c4 :: c5 :: c6 :: c7 :: List.nil).toArray, []⟩ wx) : Code.wp Try.prog (regionOf Try.f21 1) Q ⟨(f0 :: Value.pointer (some ⟨xb, 0, none⟩) :: Value.pointer (some ⟨rb, 0, none⟩) :: f3 :: f4 :: f5 :: f6 :: f7 :: List.nil).toArray, []⟩ w := by
  have HQ := Lib.hid hQ
  clear hQ
  have m0 : ∀ n : Int, -9223372036854775808 ≤ maxZ n 0 ∧ maxZ n 0 ≤ 9223372036854775807 := fun n => by unfold maxZ clampZ; omega
  change Code.wp Try.prog (Code.region _ _ true) _ _ _
  apply wp_region_vars [false, false, false, false, false, true] [rb] [⟨none, 0, rb, some 5, 29, #[.int .i64 0, .int .i64 0, .int .i64 0, .int .i64 0], #[.int .i64 (V4.map2 minZ (V4.map2 maxZ c (V4.all 0)) (V4.all 65536)).c0, .int .i64 (V4.map2 minZ (V4.map2 maxZ c (V4.all 0)) (V4.all 65536)).c1, .int .i64 (V4.map2 minZ (V4.map2 maxZ c (V4.all 0)) (V4.all 65536)).c2, .int .i64 (V4.map2 minZ (V4.map2 maxZ c (V4.all 0)) (V4.all 65536)).c3]⟩] _ (by kernel_rfl) (by kernel_rfl) (by kernel_rfl)
  case H =>
    intro x hx
    have hne : Nonempty (Wx x) := ⟨⟨x, Ext.refl x⟩⟩
    have qhX := fun (y : Wx x) => ((hX.calm hx (by simpa using nx)).ext y.ext).cell
    simp only [eraseM]
    repeat (go_big_quiet_step (first | (go_at_call 32; exact calm_of (vmall_any _ _)) | (go_at_call 31; exact calm_of (vec_maxZ _ _ _ _ _ _ _ _ b0 (by omega) b1 (by omega) b2 (by omega) b3 (by omega) _)) | (go_at_call 33; exact calm_of (vec_minZ _ _ _ _ _ _ _ _ (m0 _) (by omega) (m0 _) (by omega) (m0 _) (by omega) (m0 _) (by omega) _))))
    exact wpQuiet_nil rfl
  case hok =>
    simp only [List.forall_mem_cons, List.not_mem_nil, false_implies, implies_true, and_true]
    exact tgt_mine (v := .agg #[.int .i64 (V4.map2 minZ (V4.map2 maxZ c (V4.all 0)) (V4.all 65536)).c0, .int .i64 (V4.map2 minZ (V4.map2 maxZ c (V4.all 0)) (V4.all 65536)).c1, .int .i64 (V4.map2 minZ (V4.map2 maxZ c (V4.all 0)) (V4.all 65536)).c2, .int .i64 (V4.map2 minZ (V4.map2 maxZ c (V4.all 0)) (V4.all 65536)).c3]) (off := 0) (by simp) hR rfl rfl rfl rfl rfl rfl (by kernel_rfl) (by kernel_rfl) (of_decide_eq_true (by kernel_rfl)) rfl
  case hdis =>
    intro k k' t t' hk hk' hkk ha ha'
    exfalso
    have h1 : k < 1 := (List.getElem?_eq_some_iff.1 hk).1
    have h2 : k' < 1 := (List.getElem?_eq_some_iff.1 hk').1
    omega
  rintro w2 f hw ⟨k0, l0, d0, u0, -⟩
  have e0 : f 0 = rb := k0
  rw [e0] at d0
  exact HQ.out _ _ _ _ _ w2 ⟨d0, hw⟩
set_option maxRecDepth 100000 in
theorem colour_any (c : V4) (b0 : -9223372036854775808 ≤ c.c0 ∧ c.c0 ≤ 9223372036854775807) (b1 : -9223372036854775808 ≤ c.c1 ∧ c.c1 ≤ 9223372036854775807) (b2 : -9223372036854775808 ≤ c.c2 ∧ c.c2 ≤ 9223372036854775807) (b3 : -9223372036854775808 ≤ c.c3 ∧ c.c3 ≤ 9223372036854775807) (w : World) : Calls Try.prog 21 #[.agg #[.int .i64 c.c0, .int .i64 c.c1, .int .i64 c.c2, .int .i64 c.c3]] w fun e w' => e = .returned (.agg #[.int .i64 (c.lim 0 65536).c0, .int .i64 (c.lim 0 65536).c1, .int .i64 (c.lim 0 65536).c2, .int .i64 (c.lim 0 65536).c3]) ∧ Ext w w' := by
  rw [← lim_eq]
  have X0 := (Blk.new w #[.int .i64 c.c0, .int .i64 c.c1, .int .i64 c.c2, .int .i64 c.c3] 29).alloc (.cells #[.int .i64 0, .int .i64 0, .int .i64 0, .int .i64 0] 29)
  have R0 := Blk.new' (w := w.alloc (.cells #[.int .i64 c.c0, .int .i64 c.c1, .int .i64 c.c2, .int .i64 c.c3] 29)) (b := w.heap.size + 1) (by simp) #[.int .i64 0, .int .i64 0, .int .i64 0, .int .i64 0] 29
  have E0 := ((Ext.refl w).alloc #[.int .i64 c.c0, .int .i64 c.c1, .int .i64 c.c2, .int .i64 c.c3] 29).alloc #[.int .i64 0, .int .i64 0, .int .i64 0, .int .i64 0] 29
  have HX := Lib.hid X0
  have HR := Lib.hid R0
  have HE := Lib.hid E0
  clear X0 R0 E0
  go_enter Try.func21, Try.ntmps21
  go_wp2_with fail
  refine colour_r1 _ _ _ _ _ _ w.heap.size (w.heap.size + 1) c b0 b1 b2 b3 _ HX.out HR.out (by omega) ?_
  rintro g0 g1 g2 g3 g4 w2 ⟨R2, k2⟩
  have E2 := Ext.calm_trans HE.out k2 (fun g hg => by simp at hg; omega)
  go_wp2
  exact bodyPost_ret (v := .agg #[.int .i64 (V4.map2 minZ (V4.map2 maxZ c (V4.all 0)) (V4.all 65536)).c0, .int .i64 (V4.map2 minZ (V4.map2 maxZ c (V4.all 0)) (V4.all 65536)).c1, .int .i64 (V4.map2 minZ (V4.map2 maxZ c (V4.all 0)) (V4.all 65536)).c2, .int .i64 (V4.map2 minZ (V4.map2 maxZ c (V4.all 0)) (V4.all 65536)).c3]) (results_blk (b := w.heap.size + 1) (t := 2) (ty := 29) rfl rfl R2 Try.underlying29 rfl (by kernel_rfl)) rfl ⟨rfl, E2⟩
end Go.Proofs.Ytellfhnfifgpoaa

namespace Go.Proofs.Ytellfhnfifgpoaa
open Go.RowKit
set_option linter.unusedVariables false
def RAt (w : World) (b : Nat) (s : St) : Prop := Blk w b (resL s).toArray 42 ∧ s.rs.length = 48
theorem RAt.ext {w w' : World} {b : Nat} {s : St} (h : RAt w b s) (hx : Ext w w') : RAt w' b s := ⟨h.1.ext hx, h.2⟩
theorem RAt.calm {O : List Nat} {w w' : World} {b : Nat} {s : St} (h : RAt w b s) (hx : Calm O w w') (hb : b ∉ O) : RAt w' b s := ⟨h.1.calm hx hb, h.2⟩
theorem RAt.cell {w : World} {b : Nat} {s : St} (h : RAt w b s) (j : Nat) (hj : j < 48) : w.cell? ⟨b, j, none⟩ = some (.int .i64 (s.rs.getD j 0)) := by
  rw [h.1.cell j]
  simp only [List.getElem?_toArray, resL]
  rw [List.getElem?_append_left (by simp [h.2]; omega)]
  simp [List.getD, show j < s.rs.length by rw [h.2]; exact hj]
theorem RAt.gone {w : World} {b : Nat} {s : St} (h : RAt w b s) : w.cell? ⟨b, 48, none⟩ = some (.bool s.gone) := by
  rw [h.1.cell 48]
  simp [resL, h.2]
theorem RAt.steps {w : World} {b : Nat} {s : St} (h : RAt w b s) : w.cell? ⟨b, 49, none⟩ = some (.int .i64 s.steps) := by
  rw [h.1.cell 49]
  simp [resL, h.2]
theorem runV_rb {p : List In} (hok : ∀ x ∈ p, x.ok) {rs : List Int} (hl : rs.length = 48) : RB (runV p rs).rs := by
  unfold runV
  split
  · exact run_rbs hok _ _ (st0_rb hl)
  · exact st0_rb hl
def ofZ (n : Int) : Int := clampZ (65536 * withinZ n 65536)
def shadeR (c : V4) (x y d : Int) : List Int := [(c.lim 0 65536).c0, (c.lim 0 65536).c1, (c.lim 0 65536).c2, (c.lim 0 65536).c3, ofZ x, ofZ y, limI 0 65535 d, 65536, 0, 0, 0, 0, 0, 0, 0, 0, 0, 0, 0, 0, 0, 0, 0, 0, 0, 0, 0, 0, 0, 0, 0, 0, 0, 0, 0, 0, 0, 0, 0, 0, 0, 0, 0, 0, 0, 0, 0, 0]
theorem shadeR_bd (c : V4) (x y d : Int) : ∀ n ∈ shadeR c x y d, -9223372036854775808 ≤ n ∧ n ≤ 9223372036854775807 := by
  intro n hn
  have hb : ∀ m hi : Int, 0 ≤ hi → hi ≤ 65536 → -9223372036854775808 ≤ limI 0 hi m ∧ limI 0 hi m ≤ 9223372036854775807 := fun m hi h1 h2 => by rw [limI_eq h1]; omega
  have ho : ∀ m, -9223372036854775808 ≤ ofZ m ∧ ofZ m ≤ 9223372036854775807 := fun m => by have := clampZ_bd (65536 * withinZ m 65536); unfold ofZ; omega
  simp only [shadeR, List.mem_cons, List.not_mem_nil, or_false] at hn
  rcases hn with rfl | rfl | rfl | rfl | rfl | rfl | rfl | rfl | rfl | rfl | rfl | rfl | rfl | rfl | rfl | rfl | rfl | rfl | rfl | rfl | rfl | rfl | rfl | rfl | rfl | rfl | rfl | rfl | rfl | rfl | rfl | rfl | rfl | rfl | rfl | rfl | rfl | rfl | rfl | rfl | rfl | rfl | rfl | rfl | rfl | rfl | rfl | rfl
  · exact hb _ _ (by omega) (by omega)
  · exact hb _ _ (by omega) (by omega)
  · exact hb _ _ (by omega) (by omega)
  · exact hb _ _ (by omega) (by omega)
  · exact ho _
  · exact ho _
  · exact hb _ _ (by omega) (by omega)
  all_goals omega
set_option maxRecDepth 100000 in
set_option maxHeartbeats 4000000 in
theorem shade_r3 (f0 f1 f2 f3 f4 f5 f6 f7 f8 f9 f11 f12 f13 f15 f16 f17 f18 f19 f20 f21 f22 f23 f24 f25 f26 f27 f28 f29 f30 f31 f32 f33 f34 f35 f36 : Value) (sb rb : Nat) (s : St) (hRB : RB s.rs) (w : World) (hS : RAt w sb s) (hR : Blk w rb #[.int .i64 0, .int .i64 0, .int .i64 0, .int .i64 0] 29) (ns : sb ≠ rb) {Q : Exit → Act → World → Prop}
    (hQ : ∀ (c29 c30 c31 c32 c33 c34 c35 c36 : Value) (wx : World) , Blk wx rb #[.int .i64 ((regAt s.rs 0).lim 0 65536).c0, .int .i64 ((regAt s.rs 0).lim 0 65536).c1, .int .i64 ((regAt s.rs 0).lim 0 65536).c2, .int .i64 ((regAt s.rs 0).lim 0 65536).c3] 29 ∧ Calm [rb] w wx → Q .normal ⟨(f0 :: f1 :: f2 :: f3 :: f4 :: f5 :: f6 :: f7 :: f8 :: f9 :: Value.pointer (some ⟨rb, 0, none⟩) :: Value.bool s.gone :: Value.int .i64 s.steps :: f13 :: Value.pointer (some ⟨sb, 0, none⟩) :: f15 :: f16 :: f17 :: f18 :: f19 :: f20 :: f21 :: f22 :: f23 :: f24 :: f25 :: f26 :: f27 :: f28 :: c29 :: c30 :: c31 :: c32 :: c33 :: c34 :: c35 :: c36 :: List.nil).toArray, []⟩ wx) : Code.wp Try.prog (regionOf Try.f19 3) Q ⟨(f0 :: f1 :: f2 :: f3 :: f4 :: f5 :: f6 :: f7 :: f8 :: f9 :: Value.pointer (some ⟨rb, 0, none⟩) :: f11 :: f12 :: f13 :: Value.pointer (some ⟨sb, 0, none⟩) :: f15 :: f16 :: f17 :: f18 :: f19 :: f20 :: f21 :: f22 :: f23 :: f24 :: f25 :: f26 :: f27 :: f28 :: f29 :: f30 :: f31 :: f32 :: f33 :: f34 :: f35 :: f36 :: List.nil).toArray, []⟩ w := by
  have HQ := Lib.hid hQ
  clear hQ
  have b0 := (hRB.at 0).1.wide
  have b1 := (hRB.at 0).2.1.wide
  have b2 := (hRB.at 0).2.2.1.wide
  have b3 := (hRB.at 0).2.2.2.wide
  change Code.wp Try.prog (Code.region _ _ true) _ _ _
  apply wp_region_vars [false, false, false, false, false, false, false, false, true, false, false] [rb] [⟨none, 0, rb, some 8, 29, #[.int .i64 0, .int .i64 0, .int .i64 0, .int .i64 0], #[.int .i64 ((regAt s.rs 0).lim 0 65536).c0, .int .i64 ((regAt s.rs 0).lim 0 65536).c1, .int .i64 ((regAt s.rs 0).lim 0 65536).c2, .int .i64 ((regAt s.rs 0).lim 0 65536).c3]⟩] _ (by kernel_rfl) (by kernel_rfl) (by kernel_rfl)
  case H =>
    intro x hx
    have hne : Nonempty (Wx x) := ⟨⟨x, Ext.refl x⟩⟩
    have q00 := fun (y : Wx x) => ((hS.calm hx (by simpa using ns)).ext y.ext).cell 0 (by omega)
    have q01 := fun (y : Wx x) => ((hS.calm hx (by simpa using ns)).ext y.ext).cell 1 (by omega)
    have q02 := fun (y : Wx x) => ((hS.calm hx (by simpa using ns)).ext y.ext).cell 2 (by omega)
    have q03 := fun (y : Wx x) => ((hS.calm hx (by simpa using ns)).ext y.ext).cell 3 (by omega)
    have qg := fun (y : Wx x) => ((hS.calm hx (by simpa using ns)).ext y.ext).gone
    have qs := fun (y : Wx x) => ((hS.calm hx (by simpa using ns)).ext y.ext).steps
    simp only [eraseM]
    repeat (go_big_quiet_step (first | (go_at_call 21; exact calm_of (colour_any (regAt s.rs 0) b0 b1 b2 b3 _))))
    exact wpQuiet_nil rfl
  case hok =>
    simp only [List.forall_mem_cons, List.not_mem_nil, false_implies, implies_true, and_true]
    exact tgt_mine (v := .agg #[.int .i64 ((regAt s.rs 0).lim 0 65536).c0, .int .i64 ((regAt s.rs 0).lim 0 65536).c1, .int .i64 ((regAt s.rs 0).lim 0 65536).c2, .int .i64 ((regAt s.rs 0).lim 0 65536).c3]) (off := 0) (by simp) hR rfl rfl rfl rfl rfl rfl (by kernel_rfl) (by kernel_rfl) (of_decide_eq_true (by kernel_rfl)) rfl
  case hdis =>
    intro k k' t t' hk hk' hkk ha ha'
    exfalso
    have h1 : k < 1 := (List.getElem?_eq_some_iff.1 hk).1
    have h2 : k' < 1 := (List.getElem?_eq_some_iff.1 hk').1
    omega
  rintro w2 f hw ⟨k0, l0, d0, u0, -⟩
  have e0 : f 0 = rb := k0
  rw [e0] at d0
  exact HQ.out _ _ _ _ _ _ _ _ w2 ⟨d0, hw⟩
set_option maxRecDepth 100000 in
set_option maxHeartbeats 2000000 in
theorem shade_any (w : World) (vp : Value) (p : List In) (hP : PArr w vp p) (hok : ∀ x ∈ p, x.ok) (hlen : p.length ≤ 1000) (c : V4) (b0 : -9223372036854775808 ≤ c.c0 ∧ c.c0 ≤ 9223372036854775807) (b1 : -9223372036854775808 ≤ c.c1 ∧ c.c1 ≤ 9223372036854775807) (b2 : -9223372036854775808 ≤ c.c2 ∧ c.c2 ≤ 9223372036854775807) (b3 : -9223372036854775808 ≤ c.c3 ∧ c.c3 ≤ 9223372036854775807) (x y d : Int) (hx : -9223372036854775808 ≤ x ∧ x ≤ 9223372036854775807) (hy : -9223372036854775808 ≤ y ∧ y ≤ 9223372036854775807) (hd : -9223372036854775808 ≤ d ∧ d ≤ 9223372036854775807) :
    Calls Try.prog 19 #[vp, .agg #[.int .i64 c.c0, .int .i64 c.c1, .int .i64 c.c2, .int .i64 c.c3], .int .i64 x, .int .i64 y, .int .i64 d] w fun e w' => e = .returned (.tuple #[.agg #[.int .i64 ((regAt (runV p (shadeR c x y d)).rs 0).lim 0 65536).c0, .int .i64 ((regAt (runV p (shadeR c x y d)).rs 0).lim 0 65536).c1, .int .i64 ((regAt (runV p (shadeR c x y d)).rs 0).lim 0 65536).c2, .int .i64 ((regAt (runV p (shadeR c x y d)).rs 0).lim 0 65536).c3], .bool (runV p (shadeR c x y d)).gone, .int .i64 (runV p (shadeR c x y d)).steps]) ∧ Ext w w' := by
  obtain ⟨ao, cc, rfl, -, -⟩ := hP.slice
  have hrb := runV_rb hok (rs := shadeR c x y d) rfl
  obtain ⟨s1, hs1⟩ : ∃ s1, runV p (shadeR c x y d) = s1 := ⟨_, rfl⟩
  rw [hs1] at hrb ⊢
  have HS1 := Lib.hid hs1
  have HRB := Lib.hid hrb
  have HP := Lib.hid hP
  have HOK := Lib.hid hok
  have R0 := Blk.new' (w := w.alloc (.cells #[.int .i64 c.c0, .int .i64 c.c1, .int .i64 c.c2, .int .i64 c.c3] 29)) (b := w.heap.size + 1) (by simp) #[.int .i64 0, .int .i64 0, .int .i64 0, .int .i64 0] 29
  have E0 := ((Ext.refl w).alloc #[.int .i64 c.c0, .int .i64 c.c1, .int .i64 c.c2, .int .i64 c.c3] 29).alloc #[.int .i64 0, .int .i64 0, .int .i64 0, .int .i64 0] 29
  have HR0 := Lib.hid R0
  have HE0 := Lib.hid E0
  have hmx := maxI_fold
  have hmn := minI_fold
  have hlm : maxI 0 (minI d 65535) = limI 0 65535 d := by rw [maxI_eq, minI_eq, limI_eq (by omega)]
  clear hs1 hrb hP hok R0 E0
  go_enter Try.func19, Try.ntmps19
  go_wp2_with fail
  refine (colour_any c b0 b1 b2 b3 _).mono ?_
  rintro e w1 ⟨rfl, x1⟩
  have HR1 := Lib.hid (HR0.out.ext x1)
  have HE1 := Lib.hid (HE0.out.trans x1)
  clear x1 HR0 HE0
  go_wp2_with fail
  refine (of_any x w1 hx.1 hx.2).mono ?_
  rintro e w2 ⟨rfl, rfl⟩
  go_wp2_with fail
  refine (of_any y w1 hy.1 hy.2).mono ?_
  rintro e w2 ⟨rfl, rfl⟩
  go_wp2_with fail
  show Calls Try.prog _ #[_, .agg (RL (shadeR c x y d))] _ _
  refine (vrun_any w1 _ p (HP.out.ext HE1.out) HOK.out hlen (shadeR c x y d) rfl (shadeR_bd c x y d)).mono ?_
  rintro e w2 ⟨rfl, x2⟩
  rw [HS1.out]
  have HR2 := Lib.hid (HR1.out.ext x2)
  have HE2 := Lib.hid (HE1.out.trans x2)
  have Z2 := Blk.new w2 #[.int .i64 0, .int .i64 0, .int .i64 0, .int .i64 0, .int .i64 0, .int .i64 0, .int .i64 0, .int .i64 0, .int .i64 0, .int .i64 0, .int .i64 0, .int .i64 0, .int .i64 0, .int .i64 0, .int .i64 0, .int .i64 0, .int .i64 0, .int .i64 0, .int .i64 0, .int .i64 0, .int .i64 0, .int .i64 0, .int .i64 0, .int .i64 0, .int .i64 0, .int .i64 0, .int .i64 0, .int .i64 0, .int .i64 0, .int .i64 0, .int .i64 0, .int .i64 0, .int .i64 0, .int .i64 0, .int .i64 0, .int .i64 0, .int .i64 0, .int .i64 0, .int .i64 0, .int .i64 0, .int .i64 0, .int .i64 0, .int .i64 0, .int .i64 0, .int .i64 0, .int .i64 0, .int .i64 0, .int .i64 0, .bool false, .int .i64 0] 42
  have hry : (resL s1).toArray.size = 50 := by simp [resL, HRB.out.1]
  have hro := resL_one s1
  clear x2 HR1 HE1
  go_wp2_with (first
    | ((with_reducible refine wpList_store_blk (op := ⟨none, .store 42 (.tmp 14) (.tmp 28), _, _, _, _⟩) ?_ 42 (.tmp 14) (.tmp 28) ?_ w2.heap.size ?_ (cs := (resL s1).toArray) ?_ (T := 42) Z2 ?_ ?_ ?_ ?_); rfl; rfl; rfl; rfl; (rw [hry]; kernel_rfl); exact hro; (rw [hry]; rfl))
    | fail)
  have S3 : RAt _ w2.heap.size s1 := ⟨Z2.setRow _, HRB.out.1⟩
  have E3 := Ext.setRow ((Ext.refl w2).alloc #[.int .i64 0, .int .i64 0, .int .i64 0, .int .i64 0, .int .i64 0, .int .i64 0, .int .i64 0, .int .i64 0, .int .i64 0, .int .i64 0, .int .i64 0, .int .i64 0, .int .i64 0, .int .i64 0, .int .i64 0, .int .i64 0, .int .i64 0, .int .i64 0, .int .i64 0, .int .i64 0, .int .i64 0, .int .i64 0, .int .i64 0, .int .i64 0, .int .i64 0, .int .i64 0, .int .i64 0, .int .i64 0, .int .i64 0, .int .i64 0, .int .i64 0, .int .i64 0, .int .i64 0, .int .i64 0, .int .i64 0, .int .i64 0, .int .i64 0, .int .i64 0, .int .i64 0, .int .i64 0, .int .i64 0, .int .i64 0, .int .i64 0, .int .i64 0, .int .i64 0, .int .i64 0, .int .i64 0, .int .i64 0, .bool false, .int .i64 0] 42) (Nat.le_refl _) (resL s1).toArray
  generalize (w2.alloc (.cells #[.int .i64 0, .int .i64 0, .int .i64 0, .int .i64 0, .int .i64 0, .int .i64 0, .int .i64 0, .int .i64 0, .int .i64 0, .int .i64 0, .int .i64 0, .int .i64 0, .int .i64 0, .int .i64 0, .int .i64 0, .int .i64 0, .int .i64 0, .int .i64 0, .int .i64 0, .int .i64 0, .int .i64 0, .int .i64 0, .int .i64 0, .int .i64 0, .int .i64 0, .int .i64 0, .int .i64 0, .int .i64 0, .int .i64 0, .int .i64 0, .int .i64 0, .int .i64 0, .int .i64 0, .int .i64 0, .int .i64 0, .int .i64 0, .int .i64 0, .int .i64 0, .int .i64 0, .int .i64 0, .int .i64 0, .int .i64 0, .int .i64 0, .int .i64 0, .int .i64 0, .int .i64 0, .int .i64 0, .int .i64 0, .bool false, .int .i64 0] 42)).setRow w2.heap.size (resL s1).toArray = w3 at *
  have HE3 := Lib.hid (HE2.out.trans E3)
  have hz2 := HR2.out.lt
  refine shade_r3 _ _ _ _ _ _ _ _ _ _ _ _ _ _ _ _ _ _ _ _ _ _ _ _ _ _ _ _ _ _ _ _ _ _ _ w2.heap.size (w.heap.size + 1) s1 HRB.out w3 S3 (HR2.out.ext E3) (by omega) ?_
  rintro g0 g1 g2 g3 g4 g5 g6 g7 w4 ⟨R4, k4⟩
  have E4 := Ext.calm_trans HE3.out k4 (fun g hg => by simp at hg; omega)
  have c4 := R4.cell
  go_wp2
  exact bodyPost_ret (v := .tuple #[.agg #[.int .i64 ((regAt s1.rs 0).lim 0 65536).c0, .int .i64 ((regAt s1.rs 0).lim 0 65536).c1, .int .i64 ((regAt s1.rs 0).lim 0 65536).c2, .int .i64 ((regAt s1.rs 0).lim 0 65536).c3], .bool s1.gone, .int .i64 s1.steps]) (by simp [results, Try.results19, go_sem, c4]) rfl ⟨rfl, E4⟩
end Go.Proofs.Ytellfhnfifgpoaa

namespace Go.Proofs.Ytellfhnfifgpoaa
open Go.RowKit
set_option linter.unusedVariables false
theorem withinW_p (n : Int) : withinW n 4194304 = limI (-4194304) 4194304 n := by
  rw [limI_eq (by omega)]
  unfold withinW withinZ
  rw [if_neg (by omega)]
theorem within_p (v : V4) (b0 : -9223372036854775808 ≤ v.c0 ∧ v.c0 ≤ 9223372036854775807) (b1 : -9223372036854775808 ≤ v.c1 ∧ v.c1 ≤ 9223372036854775807) (b2 : -9223372036854775808 ≤ v.c2 ∧ v.c2 ≤ 9223372036854775807) (b3 : -9223372036854775808 ≤ v.c3 ∧ v.c3 ≤ 9223372036854775807) (w : World) : Calls Try.prog 24 #[.agg #[.int .i64 v.c0, .int .i64 v.c1, .int .i64 v.c2, .int .i64 v.c3], .int .i64 4194304] w fun e w' => e = .returned (.agg #[.int .i64 (v.lim (-4194304) 4194304).c0, .int .i64 (v.lim (-4194304) 4194304).c1, .int .i64 (v.lim (-4194304) 4194304).c2, .int .i64 (v.lim (-4194304) 4194304).c3]) ∧ Ext w w' := by
  have h := vec_within v.c0 v.c1 v.c2 v.c3 4194304 b0 b1 b2 b3 (by omega) w
  simp only [withinW_p] at h
  exact h
def matC4 (m0 m1 m2 m3 : V4) : List Value := [.int .i64 m0.c0, .int .i64 m0.c1, .int .i64 m0.c2, .int .i64 m0.c3, .int .i64 m1.c0, .int .i64 m1.c1, .int .i64 m1.c2, .int .i64 m1.c3, .int .i64 m2.c0, .int .i64 m2.c1, .int .i64 m2.c2, .int .i64 m2.c3, .int .i64 m3.c0, .int .i64 m3.c1, .int .i64 m3.c2, .int .i64 m3.c3]
theorem mat_src {w : World} {b : Nat} {m0 m1 m2 m3 : V4} (h : Blk w b #[.int .i64 m0.c0, .int .i64 m0.c1, .int .i64 m0.c2, .int .i64 m0.c3, .int .i64 m1.c0, .int .i64 m1.c1, .int .i64 m1.c2, .int .i64 m1.c3, .int .i64 m2.c0, .int .i64 m2.c1, .int .i64 m2.c2, .int .i64 m2.c3, .int .i64 m3.c0, .int .i64 m3.c1, .int .i64 m3.c2, .int .i64 m3.c3] 50) : ∀ j v, (matC4 m0 m1 m2 m3)[j]? = some v → w.cell? ((⟨b, 0, none⟩ : Addr).add j) = some v := by
  intro j v hj
  have hadd : (⟨b, 0, none⟩ : Addr).add j = ⟨b, j, none⟩ := by unfold Addr.add; split <;> simp_all
  rw [hadd, h.cell, ← hj, List.getElem?_toArray]
  rfl
theorem mat_one (m0 m1 m2 m3 : V4) : ∀ v ∈ matC4 m0 m1 m2 m3, v.oneCell' = true := by
  intro v hv
  simp [matC4] at hv
  rcases hv with rfl | rfl | rfl | rfl | rfl | rfl | rfl | rfl | rfl | rfl | rfl | rfl | rfl | rfl | rfl | rfl <;> rfl
def placeR0 (p c : V4) : List Int := [p.c0, p.c1, p.c2, p.c3, c.c0, c.c1, c.c2, c.c3, 0, 0, 0, 0, 0, 0, 0, 0, 0, 0, 0, 0, 0, 0, 0, 0, 0, 0, 0, 0, 0, 0, 0, 0, 0, 0, 0, 0, 0, 0, 0, 0, 0, 0, 0, 0, 0, 0, 0, 0]
def placeR (p c : V4) (m0 m1 m2 m3 : V4) : List Int := [p.c0, p.c1, p.c2, p.c3, c.c0, c.c1, c.c2, c.c3, 0, 0, 0, 0, 0, 0, 0, 0, m0.c0, m0.c1, m0.c2, m0.c3, m1.c0, m1.c1, m1.c2, m1.c3, m2.c0, m2.c1, m2.c2, m2.c3, m3.c0, m3.c1, m3.c2, m3.c3, 0, 0, 0, 0, 0, 0, 0, 0, 0, 0, 0, 0, 0, 0, 0, 0]
theorem placeR_bd (p c : V4) (m0 m1 m2 m3 : V4) (b0 : -9223372036854775808 ≤ p.c0 ∧ p.c0 ≤ 9223372036854775807) (b1 : -9223372036854775808 ≤ p.c1 ∧ p.c1 ≤ 9223372036854775807) (b2 : -9223372036854775808 ≤ p.c2 ∧ p.c2 ≤ 9223372036854775807) (b3 : -9223372036854775808 ≤ p.c3 ∧ p.c3 ≤ 9223372036854775807) (g0 : -9223372036854775808 ≤ c.c0 ∧ c.c0 ≤ 9223372036854775807) (g1 : -9223372036854775808 ≤ c.c1 ∧ c.c1 ≤ 9223372036854775807) (g2 : -9223372036854775808 ≤ c.c2 ∧ c.c2 ≤ 9223372036854775807) (g3 : -9223372036854775808 ≤ c.c3 ∧ c.c3 ≤ 9223372036854775807) (d00 : -9223372036854775808 ≤ m0.c0 ∧ m0.c0 ≤ 9223372036854775807) (d01 : -9223372036854775808 ≤ m0.c1 ∧ m0.c1 ≤ 9223372036854775807) (d02 : -9223372036854775808 ≤ m0.c2 ∧ m0.c2 ≤ 9223372036854775807) (d03 : -9223372036854775808 ≤ m0.c3 ∧ m0.c3 ≤ 9223372036854775807) (d10 : -9223372036854775808 ≤ m1.c0 ∧ m1.c0 ≤ 9223372036854775807) (d11 : -9223372036854775808 ≤ m1.c1 ∧ m1.c1 ≤ 9223372036854775807) (d12 : -9223372036854775808 ≤ m1.c2 ∧ m1.c2 ≤ 9223372036854775807) (d13 : -9223372036854775808 ≤ m1.c3 ∧ m1.c3 ≤ 9223372036854775807) (d20 : -9223372036854775808 ≤ m2.c0 ∧ m2.c0 ≤ 9223372036854775807) (d21 : -9223372036854775808 ≤ m2.c1 ∧ m2.c1 ≤ 9223372036854775807) (d22 : -9223372036854775808 ≤ m2.c2 ∧ m2.c2 ≤ 9223372036854775807) (d23 : -9223372036854775808 ≤ m2.c3 ∧ m2.c3 ≤ 9223372036854775807) (d30 : -9223372036854775808 ≤ m3.c0 ∧ m3.c0 ≤ 9223372036854775807) (d31 : -9223372036854775808 ≤ m3.c1 ∧ m3.c1 ≤ 9223372036854775807) (d32 : -9223372036854775808 ≤ m3.c2 ∧ m3.c2 ≤ 9223372036854775807) (d33 : -9223372036854775808 ≤ m3.c3 ∧ m3.c3 ≤ 9223372036854775807) : ∀ n ∈ placeR p c m0 m1 m2 m3, -9223372036854775808 ≤ n ∧ n ≤ 9223372036854775807 := by
  intro n hn
  simp only [placeR, List.mem_cons, List.not_mem_nil, or_false] at hn
  rcases hn with rfl | rfl | rfl | rfl | rfl | rfl | rfl | rfl | rfl | rfl | rfl | rfl | rfl | rfl | rfl | rfl | rfl | rfl | rfl | rfl | rfl | rfl | rfl | rfl | rfl | rfl | rfl | rfl | rfl | rfl | rfl | rfl | rfl | rfl | rfl | rfl | rfl | rfl | rfl | rfl | rfl | rfl | rfl | rfl | rfl | rfl | rfl | rfl <;> omega
set_option maxRecDepth 100000 in
set_option maxHeartbeats 4000000 in
theorem place_r4 (f0 f1 f2 f3 f4 f5 f6 f7 f10 f12 f13 f14 f15 f16 f17 f18 f19 f20 f21 f22 f23 f24 f25 f26 f27 f28 : Value) (sb rb tb : Nat) (s : St) (hRB : RB s.rs) (w : World) (hS : RAt w sb s) (hR : Blk w rb #[.int .i64 0, .int .i64 0, .int .i64 0, .int .i64 0] 29) (hT : Blk w tb #[.int .i64 0, .int .i64 0, .int .i64 0, .int .i64 0] 29) (ns : sb ≠ rb ∧ sb ≠ tb) (nrt : rb ≠ tb) {Q : Exit → Act → World → Prop}
    (hQ : ∀ (c21 c22 c23 c24 c25 c26 c27 c28 : Value) (wx : World) , Blk wx rb #[.int .i64 ((regAt s.rs 0).lim (-4194304) 4194304).c0, .int .i64 ((regAt s.rs 0).lim (-4194304) 4194304).c1, .int .i64 ((regAt s.rs 0).lim (-4194304) 4194304).c2, .int .i64 ((regAt s.rs 0).lim (-4194304) 4194304).c3] 29 ∧ Blk wx tb #[.int .i64 ((regAt s.rs 1).lim 0 65536).c0, .int .i64 ((regAt s.rs 1).lim 0 65536).c1, .int .i64 ((regAt s.rs 1).lim 0 65536).c2, .int .i64 ((regAt s.rs 1).lim 0 65536).c3] 29 ∧ Calm [rb, tb] w wx → Q .normal ⟨(f0 :: f1 :: f2 :: f3 :: f4 :: f5 :: f6 :: f7 :: Value.pointer (some ⟨rb, 0, none⟩) :: Value.pointer (some ⟨tb, 0, none⟩) :: f10 :: Value.pointer (some ⟨sb, 0, none⟩) :: f12 :: f13 :: f14 :: f15 :: f16 :: f17 :: f18 :: f19 :: f20 :: c21 :: c22 :: c23 :: c24 :: c25 :: c26 :: c27 :: c28 :: List.nil).toArray, []⟩ wx) : Code.wp Try.prog (regionOf Try.f17 4) Q ⟨(f0 :: f1 :: f2 :: f3 :: f4 :: f5 :: f6 :: f7 :: Value.pointer (some ⟨rb, 0, none⟩) :: Value.pointer (some ⟨tb, 0, none⟩) :: f10 :: Value.pointer (some ⟨sb, 0, none⟩) :: f12 :: f13 :: f14 :: f15 :: f16 :: f17 :: f18 :: f19 :: f20 :: f21 :: f22 :: f23 :: f24 :: f25 :: f26 :: f27 :: f28 :: List.nil).toArray, []⟩ w := by
  have HQ := Lib.hid hQ
  clear hQ
  have b0 := (hRB.at 0).1.wide
  have b1 := (hRB.at 0).2.1.wide
  have b2 := (hRB.at 0).2.2.1.wide
  have b3 := (hRB.at 0).2.2.2.wide
  have g0 := (hRB.at 1).1.wide
  have g1 := (hRB.at 1).2.1.wide
  have g2 := (hRB.at 1).2.2.1.wide
  have g3 := (hRB.at 1).2.2.2.wide
  change Code.wp Try.prog (Code.region _ _ true) _ _ _
  apply wp_region_vars [false, false, false, false, false, false, false, false, true, true] [rb, tb] [⟨none, 0, rb, some 8, 29, #[.int .i64 0, .int .i64 0, .int .i64 0, .int .i64 0], #[.int .i64 ((regAt s.rs 0).lim (-4194304) 4194304).c0, .int .i64 ((regAt s.rs 0).lim (-4194304) 4194304).c1, .int .i64 ((regAt s.rs 0).lim (-4194304) 4194304).c2, .int .i64 ((regAt s.rs 0).lim (-4194304) 4194304).c3]⟩, ⟨none, 0, tb, some 9, 29, #[.int .i64 0, .int .i64 0, .int .i64 0, .int .i64 0], #[.int .i64 ((regAt s.rs 1).lim 0 65536).c0, .int .i64 ((regAt s.rs 1).lim 0 65536).c1, .int .i64 ((regAt s.rs 1).lim 0 65536).c2, .int .i64 ((regAt s.rs 1).lim 0 65536).c3]⟩] _ (by kernel_rfl) (by kernel_rfl) (by kernel_rfl)
  case H =>
    intro x hx
    have hne : Nonempty (Wx x) := ⟨⟨x, Ext.refl x⟩⟩
    have q00 := fun (y : Wx x) => ((hS.calm hx (by simpa using ns)).ext y.ext).cell 0 (by omega)
    have q01 := fun (y : Wx x) => ((hS.calm hx (by simpa using ns)).ext y.ext).cell 1 (by omega)
    have q02 := fun (y : Wx x) => ((hS.calm hx (by simpa using ns)).ext y.ext).cell 2 (by omega)
    have q03 := fun (y : Wx x) => ((hS.calm hx (by simpa using ns)).ext y.ext).cell 3 (by omega)
    have q10 := fun (y : Wx x) => ((hS.calm hx (by simpa using ns)).ext y.ext).cell 4 (by omega)
    have q11 := fun (y : Wx x) => ((hS.calm hx (by simpa using ns)).ext y.ext).cell 5 (by omega)
    have q12 := fun (y : Wx x) => ((hS.calm hx (by simpa using ns)).ext y.ext).cell 6 (by omega)
    have q13 := fun (y : Wx x) => ((hS.calm hx (by simpa using ns)).ext y.ext).cell 7 (by omega)
    simp only [eraseM]
    repeat (go_big_quiet_step (first | (go_at_call 24; exact calm_of (within_p (regAt s.rs 0) b0 b1 b2 b3 _)) | (go_at_call 21; exact calm_of (colour_any (regAt s.rs 1) g0 g1 g2 g3 _))))
    exact wpQuiet_nil rfl
  case hok =>
    simp only [List.forall_mem_cons, List.not_mem_nil, false_implies, implies_true, and_true]
    exact ⟨tgt_mine (v := .agg #[.int .i64 ((regAt s.rs 0).lim (-4194304) 4194304).c0, .int .i64 ((regAt s.rs 0).lim (-4194304) 4194304).c1, .int .i64 ((regAt s.rs 0).lim (-4194304) 4194304).c2, .int .i64 ((regAt s.rs 0).lim (-4194304) 4194304).c3]) (off := 0) (by simp) hR rfl rfl rfl rfl rfl rfl (by kernel_rfl) (by kernel_rfl) (of_decide_eq_true (by kernel_rfl)) rfl, tgt_mine (v := .agg #[.int .i64 ((regAt s.rs 1).lim 0 65536).c0, .int .i64 ((regAt s.rs 1).lim 0 65536).c1, .int .i64 ((regAt s.rs 1).lim 0 65536).c2, .int .i64 ((regAt s.rs 1).lim 0 65536).c3]) (off := 0) (by simp) hT rfl rfl rfl rfl rfl rfl (by kernel_rfl) (by kernel_rfl) (of_decide_eq_true (by kernel_rfl)) rfl⟩
  case hdis =>
    intro k k' t t' hk hk' hkk ha ha'
    match k, k', hk, hk' with
    | 0, 0, _, _ => exact absurd rfl hkk
    | 0, 1, hk, hk' => cases hk; cases hk'; exact nrt
    | 1, 0, hk, hk' => cases hk; cases hk'; exact fun e => nrt e.symm
    | 1, 1, _, _ => exact absurd rfl hkk
    | k + 2, _, hk, _ => simp at hk
    | 0, k' + 2, _, hk' => simp at hk'
    | 1, k' + 2, _, hk' => simp at hk'
  rintro w2 f hw ⟨k0, l0, d0, u0, k1, l1, d1, u1, -⟩
  have e0 : f 0 = rb := k0
  have e1 : f 1 = tb := k1
  have d1' : Blk w2 (f 1) #[.int .i64 ((regAt s.rs 1).lim 0 65536).c0, .int .i64 ((regAt s.rs 1).lim 0 65536).c1, .int .i64 ((regAt s.rs 1).lim 0 65536).c2, .int .i64 ((regAt s.rs 1).lim 0 65536).c3] 29 := d1
  rw [e0] at d0
  rw [e1] at d1'
  exact HQ.out _ _ _ _ _ _ _ _ w2 ⟨d0, d1', hw⟩
set_option maxRecDepth 100000 in
set_option maxHeartbeats 2000000 in
theorem place_any (w : World) (vp : Value) (q : List In) (hP : PArr w vp q) (hok : ∀ x ∈ q, x.ok) (hlen : q.length ≤ 1000) (p c : V4) (m0 m1 m2 m3 : V4) (b0 : -9223372036854775808 ≤ p.c0 ∧ p.c0 ≤ 9223372036854775807) (b1 : -9223372036854775808 ≤ p.c1 ∧ p.c1 ≤ 9223372036854775807) (b2 : -9223372036854775808 ≤ p.c2 ∧ p.c2 ≤ 9223372036854775807) (b3 : -9223372036854775808 ≤ p.c3 ∧ p.c3 ≤ 9223372036854775807) (g0 : -9223372036854775808 ≤ c.c0 ∧ c.c0 ≤ 9223372036854775807) (g1 : -9223372036854775808 ≤ c.c1 ∧ c.c1 ≤ 9223372036854775807) (g2 : -9223372036854775808 ≤ c.c2 ∧ c.c2 ≤ 9223372036854775807) (g3 : -9223372036854775808 ≤ c.c3 ∧ c.c3 ≤ 9223372036854775807) (d00 : -9223372036854775808 ≤ m0.c0 ∧ m0.c0 ≤ 9223372036854775807) (d01 : -9223372036854775808 ≤ m0.c1 ∧ m0.c1 ≤ 9223372036854775807) (d02 : -9223372036854775808 ≤ m0.c2 ∧ m0.c2 ≤ 9223372036854775807) (d03 : -9223372036854775808 ≤ m0.c3 ∧ m0.c3 ≤ 9223372036854775807) (d10 : -9223372036854775808 ≤ m1.c0 ∧ m1.c0 ≤ 9223372036854775807) (d11 : -9223372036854775808 ≤ m1.c1 ∧ m1.c1 ≤ 9223372036854775807) (d12 : -9223372036854775808 ≤ m1.c2 ∧ m1.c2 ≤ 9223372036854775807) (d13 : -9223372036854775808 ≤ m1.c3 ∧ m1.c3 ≤ 9223372036854775807) (d20 : -9223372036854775808 ≤ m2.c0 ∧ m2.c0 ≤ 9223372036854775807) (d21 : -9223372036854775808 ≤ m2.c1 ∧ m2.c1 ≤ 9223372036854775807) (d22 : -9223372036854775808 ≤ m2.c2 ∧ m2.c2 ≤ 9223372036854775807) (d23 : -9223372036854775808 ≤ m2.c3 ∧ m2.c3 ≤ 9223372036854775807) (d30 : -9223372036854775808 ≤ m3.c0 ∧ m3.c0 ≤ 9223372036854775807) (d31 : -9223372036854775808 ≤ m3.c1 ∧ m3.c1 ≤ 9223372036854775807) (d32 : -9223372036854775808 ≤ m3.c2 ∧ m3.c2 ≤ 9223372036854775807) (d33 : -9223372036854775808 ≤ m3.c3 ∧ m3.c3 ≤ 9223372036854775807) :
    Calls Try.prog 17 #[vp, .agg #[.int .i64 m0.c0, .int .i64 m0.c1, .int .i64 m0.c2, .int .i64 m0.c3, .int .i64 m1.c0, .int .i64 m1.c1, .int .i64 m1.c2, .int .i64 m1.c3, .int .i64 m2.c0, .int .i64 m2.c1, .int .i64 m2.c2, .int .i64 m2.c3, .int .i64 m3.c0, .int .i64 m3.c1, .int .i64 m3.c2, .int .i64 m3.c3], .agg #[.int .i64 p.c0, .int .i64 p.c1, .int .i64 p.c2, .int .i64 p.c3], .agg #[.int .i64 c.c0, .int .i64 c.c1, .int .i64 c.c2, .int .i64 c.c3]] w fun e w' => e = .returned (.tuple #[.agg #[.int .i64 ((regAt (runV q (placeR p c m0 m1 m2 m3)).rs 0).lim (-4194304) 4194304).c0, .int .i64 ((regAt (runV q (placeR p c m0 m1 m2 m3)).rs 0).lim (-4194304) 4194304).c1, .int .i64 ((regAt (runV q (placeR p c m0 m1 m2 m3)).rs 0).lim (-4194304) 4194304).c2, .int .i64 ((regAt (runV q (placeR p c m0 m1 m2 m3)).rs 0).lim (-4194304) 4194304).c3], .agg #[.int .i64 ((regAt (runV q (placeR p c m0 m1 m2 m3)).rs 1).lim 0 65536).c0, .int .i64 ((regAt (runV q (placeR p c m0 m1 m2 m3)).rs 1).lim 0 65536).c1, .int .i64 ((regAt (runV q (placeR p c m0 m1 m2 m3)).rs 1).lim 0 65536).c2, .int .i64 ((regAt (runV q (placeR p c m0 m1 m2 m3)).rs 1).lim 0 65536).c3]]) ∧ Ext w w' := by
  obtain ⟨ao, cc, rfl, -, -⟩ := hP.slice
  have hrb := runV_rb hok (rs := placeR p c m0 m1 m2 m3) rfl
  obtain ⟨s1, hs1⟩ : ∃ s1, runV q (placeR p c m0 m1 m2 m3) = s1 := ⟨_, rfl⟩
  rw [hs1] at hrb ⊢
  have HS1 := Lib.hid hs1
  have HRB := Lib.hid hrb
  have HP := Lib.hid hP
  have HOK := Lib.hid hok
  have HBD := Lib.hid (placeR_bd p c m0 m1 m2 m3 b0 b1 b2 b3 g0 g1 g2 g3 d00 d01 d02 d03 d10 d11 d12 d13 d20 d21 d22 d23 d30 d31 d32 d33)
  have M0 := ((((Blk.new w #[.int .i64 m0.c0, .int .i64 m0.c1, .int .i64 m0.c2, .int .i64 m0.c3, .int .i64 m1.c0, .int .i64 m1.c1, .int .i64 m1.c2, .int .i64 m1.c3, .int .i64 m2.c0, .int .i64 m2.c1, .int .i64 m2.c2, .int .i64 m2.c3, .int .i64 m3.c0, .int .i64 m3.c1, .int .i64 m3.c2, .int .i64 m3.c3] 50).alloc (.cells #[.int .i64 p.c0, .int .i64 p.c1, .int .i64 p.c2, .int .i64 p.c3] 29)).alloc (.cells #[.int .i64 c.c0, .int .i64 c.c1, .int .i64 c.c2, .int .i64 c.c3] 29)).alloc (.cells #[.int .i64 0, .int .i64 0, .int .i64 0, .int .i64 0] 29)).alloc (.cells #[.int .i64 0, .int .i64 0, .int .i64 0, .int .i64 0] 29)
  have P0 := (((Blk.new' (w := w.alloc (.cells #[.int .i64 m0.c0, .int .i64 m0.c1, .int .i64 m0.c2, .int .i64 m0.c3, .int .i64 m1.c0, .int .i64 m1.c1, .int .i64 m1.c2, .int .i64 m1.c3, .int .i64 m2.c0, .int .i64 m2.c1, .int .i64 m2.c2, .int .i64 m2.c3, .int .i64 m3.c0, .int .i64 m3.c1, .int .i64 m3.c2, .int .i64 m3.c3] 50)) (b := w.heap.size + 1) (by simp) #[.int .i64 p.c0, .int .i64 p.c1, .int .i64 p.c2, .int .i64 p.c3] 29).alloc (.cells #[.int .i64 c.c0, .int .i64 c.c1, .int .i64 c.c2, .int .i64 c.c3] 29)).alloc (.cells #[.int .i64 0, .int .i64 0, .int .i64 0, .int .i64 0] 29)).alloc (.cells #[.int .i64 0, .int .i64 0, .int .i64 0, .int .i64 0] 29)
  have C0 := ((Blk.new' (w := (w.alloc (.cells #[.int .i64 m0.c0, .int .i64 m0.c1, .int .i64 m0.c2, .int .i64 m0.c3, .int .i64 m1.c0, .int .i64 m1.c1, .int .i64 m1.c2, .int .i64 m1.c3, .int .i64 m2.c0, .int .i64 m2.c1, .int .i64 m2.c2, .int .i64 m2.c3, .int .i64 m3.c0, .int .i64 m3.c1, .int .i64 m3.c2, .int .i64 m3.c3] 50)).alloc (.cells #[.int .i64 p.c0, .int .i64 p.c1, .int .i64 p.c2, .int .i64 p.c3] 29)) (b := w.heap.size + 1 + 1) (by simp) #[.int .i64 c.c0, .int .i64 c.c1, .int .i64 c.c2, .int .i64 c.c3] 29).alloc (.cells #[.int .i64 0, .int .i64 0, .int .i64 0, .int .i64 0] 29)).alloc (.cells #[.int .i64 0, .int .i64 0, .int .i64 0, .int .i64 0] 29)
  have R0 := (Blk.new' (w := ((w.alloc (.cells #[.int .i64 m0.c0, .int .i64 m0.c1, .int .i64 m0.c2, .int .i64 m0.c3, .int .i64 m1.c0, .int .i64 m1.c1, .int .i64 m1.c2, .int .i64 m1.c3, .int .i64 m2.c0, .int .i64 m2.c1, .int .i64 m2.c2, .int .i64 m2.c3, .int .i64 m3.c0, .int .i64 m3.c1, .int .i64 m3.c2, .int .i64 m3.c3] 50)).alloc (.cells #[.int .i64 p.c0, .int .i64 p.c1, .int .i64 p.c2, .int .i64 p.c3] 29)).alloc (.cells #[.int .i64 c.c0, .int .i64 c.c1, .int .i64 c.c2, .int .i64 c.c3] 29)) (b := w.heap.size + 1 + 1 + 1) (by simp) #[.int .i64 0, .int .i64 0, .int .i64 0, .int .i64 0] 29).alloc (.cells #[.int .i64 0, .int .i64 0, .int .i64 0, .int .i64 0] 29)
  have T0 := Blk.new' (w := (((w.alloc (.cells #[.int .i64 m0.c0, .int .i64 m0.c1, .int .i64 m0.c2, .int .i64 m0.c3, .int .i64 m1.c0, .int .i64 m1.c1, .int .i64 m1.c2, .int .i64 m1.c3, .int .i64 m2.c0, .int .i64 m2.c1, .int .i64 m2.c2, .int .i64 m2.c3, .int .i64 m3.c0, .int .i64 m3.c1, .int .i64 m3.c2, .int .i64 m3.c3] 50)).alloc (.cells #[.int .i64 p.c0, .int .i64 p.c1, .int .i64 p.c2, .int .i64 p.c3] 29)).alloc (.cells #[.int .i64 c.c0, .int .i64 c.c1, .int .i64 c.c2, .int .i64 c.c3] 29)).alloc (.cells #[.int .i64 0, .int .i64 0, .int .i64 0, .int .i64 0] 29)) (b := w.heap.size + 1 + 1 + 1 + 1) (by simp) #[.int .i64 0, .int .i64 0, .int .i64 0, .int .i64 0] 29
  have E0 := (((((Ext.refl w).alloc #[.int .i64 m0.c0, .int .i64 m0.c1, .int .i64 m0.c2, .int .i64 m0.c3, .int .i64 m1.c0, .int .i64 m1.c1, .int .i64 m1.c2, .int .i64 m1.c3, .int .i64 m2.c0, .int .i64 m2.c1, .int .i64 m2.c2, .int .i64 m2.c3, .int .i64 m3.c0, .int .i64 m3.c1, .int .i64 m3.c2, .int .i64 m3.c3] 50).alloc #[.int .i64 p.c0, .int .i64 p.c1, .int .i64 p.c2, .int .i64 p.c3] 29).alloc #[.int .i64 c.c0, .int .i64 c.c1, .int .i64 c.c2, .int .i64 c.c3] 29).alloc #[.int .i64 0, .int .i64 0, .int .i64 0, .int .i64 0] 29).alloc #[.int .i64 0, .int .i64 0, .int .i64 0, .int .i64 0] 29
  have HM0 := Lib.hid M0
  have HR0 := Lib.hid R0
  have HT0 := Lib.hid T0
  have HE0 := Lib.hid E0
  have HP0 := Lib.hid P0
  have HC0 := Lib.hid C0
  clear hs1 hrb hP hok M0 R0 T0 E0 P0 C0 d00 d01 d02 d03 d10 d11 d12 d13 d20 d21 d22 d23 d30 d31 d32 d33 b0 b1 b2 b3 g0 g1 g2 g3
  go_enter Try.func17, Try.ntmps17
  go_upto_region 1 with fail
  generalize ((((w.alloc (.cells #[.int .i64 m0.c0, .int .i64 m0.c1, .int .i64 m0.c2, .int .i64 m0.c3, .int .i64 m1.c0, .int .i64 m1.c1, .int .i64 m1.c2, .int .i64 m1.c3, .int .i64 m2.c0, .int .i64 m2.c1, .int .i64 m2.c2, .int .i64 m2.c3, .int .i64 m3.c0, .int .i64 m3.c1, .int .i64 m3.c2, .int .i64 m3.c3] 50)).alloc (.cells #[.int .i64 p.c0, .int .i64 p.c1, .int .i64 p.c2, .int .i64 p.c3] 29)).alloc (.cells #[.int .i64 c.c0, .int .i64 c.c1, .int .i64 c.c2, .int .i64 c.c3] 29)).alloc (.cells #[.int .i64 0, .int .i64 0, .int .i64 0, .int .i64 0] 29)).alloc (.cells #[.int .i64 0, .int .i64 0, .int .i64 0, .int .i64 0] 29) = w0 at *
  have cP := HP0.out.cell
  have cC := HC0.out.cell
  have G0 := Blk.new w0 #[.int .i64 0, .int .i64 0, .int .i64 0, .int .i64 0, .int .i64 0, .int .i64 0, .int .i64 0, .int .i64 0, .int .i64 0, .int .i64 0, .int .i64 0, .int .i64 0, .int .i64 0, .int .i64 0, .int .i64 0, .int .i64 0, .int .i64 0, .int .i64 0, .int .i64 0, .int .i64 0, .int .i64 0, .int .i64 0, .int .i64 0, .int .i64 0, .int .i64 0, .int .i64 0, .int .i64 0, .int .i64 0, .int .i64 0, .int .i64 0, .int .i64 0, .int .i64 0, .int .i64 0, .int .i64 0, .int .i64 0, .int .i64 0, .int .i64 0, .int .i64 0, .int .i64 0, .int .i64 0, .int .i64 0, .int .i64 0, .int .i64 0, .int .i64 0, .int .i64 0, .int .i64 0, .int .i64 0, .int .i64 0] 31
  have hz := HT0.out.lt
  generalize hwn : w.heap.size = n at *
  have HN := Lib.hid hwn
  clear hwn
  have hsz : (RL (placeR0 p c)).size = 48 := rfl
  have hone := RL.one (placeR0 p c)
  go_wp2_with (first
    | ((with_reducible refine wpList_store_blk (op := ⟨none, .store 31 (.tmp 10) (.tmp 14), _, _, _, _⟩) ?_ 31 (.tmp 10) (.tmp 14) ?_ w0.heap.size ?_ (cs := RL (placeR0 p c)) ?_ (T := 31) G0 ?_ ?_ ?_ ?_); rfl; rfl; rfl; rfl; (rw [hsz]; kernel_rfl); exact hone; rfl)
    | fail)
  have G1 := G0.setRow (RL (placeR0 p c))
  have E1 := Ext.setRow ((Ext.refl w0).alloc #[.int .i64 0, .int .i64 0, .int .i64 0, .int .i64 0, .int .i64 0, .int .i64 0, .int .i64 0, .int .i64 0, .int .i64 0, .int .i64 0, .int .i64 0, .int .i64 0, .int .i64 0, .int .i64 0, .int .i64 0, .int .i64 0, .int .i64 0, .int .i64 0, .int .i64 0, .int .i64 0, .int .i64 0, .int .i64 0, .int .i64 0, .int .i64 0, .int .i64 0, .int .i64 0, .int .i64 0, .int .i64 0, .int .i64 0, .int .i64 0, .int .i64 0, .int .i64 0, .int .i64 0, .int .i64 0, .int .i64 0, .int .i64 0, .int .i64 0, .int .i64 0, .int .i64 0, .int .i64 0, .int .i64 0, .int .i64 0, .int .i64 0, .int .i64 0, .int .i64 0, .int .i64 0, .int .i64 0, .int .i64 0] 31) (Nat.le_refl _) (RL (placeR0 p c))
  clear G0 hsz hone cP cC HP0 HC0
  generalize (w0.alloc (.cells #[.int .i64 0, .int .i64 0, .int .i64 0, .int .i64 0, .int .i64 0, .int .i64 0, .int .i64 0, .int .i64 0, .int .i64 0, .int .i64 0, .int .i64 0, .int .i64 0, .int .i64 0, .int .i64 0, .int .i64 0, .int .i64 0, .int .i64 0, .int .i64 0, .int .i64 0, .int .i64 0, .int .i64 0, .int .i64 0, .int .i64 0, .int .i64 0, .int .i64 0, .int .i64 0, .int .i64 0, .int .i64 0, .int .i64 0, .int .i64 0, .int .i64 0, .int .i64 0, .int .i64 0, .int .i64 0, .int .i64 0, .int .i64 0, .int .i64 0, .int .i64 0, .int .i64 0, .int .i64 0, .int .i64 0, .int .i64 0, .int .i64 0, .int .i64 0, .int .i64 0, .int .i64 0, .int .i64 0, .int .i64 0] 31)).setRow w0.heap.size (RL (placeR0 p c)) = w1 at *
  have HM1 := Lib.hid (fun j v hj => mat_src (HM0.out.ext E1) j v hj)
  have HM1' := Lib.hid (fun j v hj => mat_src ((HM0.out.ext E1).drew) j v hj)
  have HG1 := Lib.hid G1
  have HE1 := Lib.hid E1
  have HZ := Lib.hid hz
  have HO := Lib.hid (mat_one m0 m1 m2 m3)
  clear G1 E1 hz
  go_region_law (refine step_copy_wide rfl (.tmp 15) (.tmp 16) 86 86 rfl 29 4 (by kernel_rfl) (by kernel_rfl) w0.heap.size 16 8 8 ⟨n, 0, none⟩ 4 4 (by simp [Act.eval, Act.put]) (by simp [Act.eval, Act.put]) (RL (placeR0 p c)) 31 (by first | exact HG1.out | exact HG1.out.drew) (matC4 m0 m1 m2 m3) rfl (by first | exact HM1.out | exact HM1'.out) (show 16 + 16 ≤ 48 by omega) HO.out (RL (placeR p c m0 m1 m2 m3)) rfl ?_)
  have G2 := HG1.out.drew.setRow (RL (placeR p c m0 m1 m2 m3))
  have E2 := Ext.setRow HE1.out.drew (Nat.le_refl _) (RL (placeR p c m0 m1 m2 m3))
  generalize w1.drew.setRow w0.heap.size (RL (placeR p c m0 m1 m2 m3)) = w2 at *
  have hsz : (RL (placeR p c m0 m1 m2 m3)).size = 48 := rfl
  have HE2 := Lib.hid E2
  have HW2 := Lib.hid (HE0.out.trans E2)
  clear HM1 HM1' HG1 HE1 HO E2
  go_wp2_with (first
    | ((with_reducible refine wpList_load_blk (op := ⟨some 19, _, _, _, _, _⟩) ?_ 31 (.tmp 10) ?_ w0.heap.size ?_ (z := RL (placeR p c m0 m1 m2 m3)) (T := 31) G2 Try.underlying31 ?_ ?_ ?_); rfl; rfl; rfl; rfl; (rw [hsz]; kernel_rfl))
    | fail)
  refine (vrun_any w2 _ q (HP.out.ext HW2.out) HOK.out hlen (placeR p c m0 m1 m2 m3) rfl HBD.out).mono ?_
  rintro e w3 ⟨rfl, x3⟩
  rw [HS1.out]
  have HR3 := Lib.hid ((HR0.out.ext HE2.out).ext x3)
  have HT3 := Lib.hid ((HT0.out.ext HE2.out).ext x3)
  have HE3 := Lib.hid (HW2.out.trans x3)
  have Z3 := Blk.new w3 #[.int .i64 0, .int .i64 0, .int .i64 0, .int .i64 0, .int .i64 0, .int .i64 0, .int .i64 0, .int .i64 0, .int .i64 0, .int .i64 0, .int .i64 0, .int .i64 0, .int .i64 0, .int .i64 0, .int .i64 0, .int .i64 0, .int .i64 0, .int .i64 0, .int .i64 0, .int .i64 0, .int .i64 0, .int .i64 0, .int .i64 0, .int .i64 0, .int .i64 0, .int .i64 0, .int .i64 0, .int .i64 0, .int .i64 0, .int .i64 0, .int .i64 0, .int .i64 0, .int .i64 0, .int .i64 0, .int .i64 0, .int .i64 0, .int .i64 0, .int .i64 0, .int .i64 0, .int .i64 0, .int .i64 0, .int .i64 0, .int .i64 0, .int .i64 0, .int .i64 0, .int .i64 0, .int .i64 0, .int .i64 0, .bool false, .int .i64 0] 42
  have hry : (resL s1).toArray.size = 50 := by simp [resL, HRB.out.1]
  have hro := resL_one s1
  clear x3 G2 hsz HE2 HW2 HR0 HT0 HM0
  go_wp2_with (first
    | ((with_reducible refine wpList_store_blk (op := ⟨none, .store 42 (.tmp 11) (.tmp 20), _, _, _, _⟩) ?_ 42 (.tmp 11) (.tmp 20) ?_ w3.heap.size ?_ (cs := (resL s1).toArray) ?_ (T := 42) Z3 ?_ ?_ ?_ ?_); rfl; rfl; rfl; rfl; (rw [hry]; kernel_rfl); exact hro; (rw [hry]; rfl))
    | fail)
  have S4 : RAt _ w3.heap.size s1 := ⟨Z3.setRow _, HRB.out.1⟩
  have E4 := Ext.setRow ((Ext.refl w3).alloc #[.int .i64 0, .int .i64 0, .int .i64 0, .int .i64 0, .int .i64 0, .int .i64 0, .int .i64 0, .int .i64 0, .int .i64 0, .int .i64 0, .int .i64 0, .int .i64 0, .int .i64 0, .int .i64 0, .int .i64 0, .int .i64 0, .int .i64 0, .int .i64 0, .int .i64 0, .int .i64 0, .int .i64 0, .int .i64 0, .int .i64 0, .int .i64 0, .int .i64 0, .int .i64 0, .int .i64 0, .int .i64 0, .int .i64 0, .int .i64 0, .int .i64 0, .int .i64 0, .int .i64 0, .int .i64 0, .int .i64 0, .int .i64 0, .int .i64 0, .int .i64 0, .int .i64 0, .int .i64 0, .int .i64 0, .int .i64 0, .int .i64 0, .int .i64 0, .int .i64 0, .int .i64 0, .int .i64 0, .int .i64 0, .bool false, .int .i64 0] 42) (Nat.le_refl _) (resL s1).toArray
  generalize (w3.alloc (.cells #[.int .i64 0, .int .i64 0, .int .i64 0, .int .i64 0, .int .i64 0, .int .i64 0, .int .i64 0, .int .i64 0, .int .i64 0, .int .i64 0, .int .i64 0, .int .i64 0, .int .i64 0, .int .i64 0, .int .i64 0, .int .i64 0, .int .i64 0, .int .i64 0, .int .i64 0, .int .i64 0, .int .i64 0, .int .i64 0, .int .i64 0, .int .i64 0, .int .i64 0, .int .i64 0, .int .i64 0, .int .i64 0, .int .i64 0, .int .i64 0, .int .i64 0, .int .i64 0, .int .i64 0, .int .i64 0, .int .i64 0, .int .i64 0, .int .i64 0, .int .i64 0, .int .i64 0, .int .i64 0, .int .i64 0, .int .i64 0, .int .i64 0, .int .i64 0, .int .i64 0, .int .i64 0, .int .i64 0, .int .i64 0, .bool false, .int .i64 0] 42)).setRow w3.heap.size (resL s1).toArray = w4 at *
  have HE4 := Lib.hid (HE3.out.trans E4)
  have hz3 := HT3.out.lt
  have hn := HN.out
  refine place_r4 _ _ _ _ _ _ _ _ _ _ _ _ _ _ _ _ _ _ _ _ _ _ _ _ _ _ w3.heap.size (n + 1 + 1 + 1) (n + 1 + 1 + 1 + 1) s1 HRB.out w4 S4 (HR3.out.ext E4) (HT3.out.ext E4) (by omega) (by omega) ?_
  rintro g0 g1 g2 g3 g4 g5 g6 g7 w5 ⟨R5, T5, k5⟩
  have E5 := Ext.calm_trans HE4.out k5 (fun g hg => by simp at hg; omega)
  have c5 := R5.cell
  have t5 := T5.cell
  go_wp2
  exact bodyPost_ret (v := .tuple #[.agg #[.int .i64 ((regAt s1.rs 0).lim (-4194304) 4194304).c0, .int .i64 ((regAt s1.rs 0).lim (-4194304) 4194304).c1, .int .i64 ((regAt s1.rs 0).lim (-4194304) 4194304).c2, .int .i64 ((regAt s1.rs 0).lim (-4194304) 4194304).c3], .agg #[.int .i64 ((regAt s1.rs 1).lim 0 65536).c0, .int .i64 ((regAt s1.rs 1).lim 0 65536).c1, .int .i64 ((regAt s1.rs 1).lim 0 65536).c2, .int .i64 ((regAt s1.rs 1).lim 0 65536).c3]]) (by simp [results, Try.results17, go_sem, c5, t5]) rfl ⟨rfl, E5⟩
end Go.Proofs.Ytellfhnfifgpoaa

namespace Go.Proofs.Ytellfhnfifgpoaa
open Go.RowKit
set_option linter.unusedVariables false
theorem parr_none (w : World) : PArr w (.slice none 0 0) [] := ⟨none, 0, rfl, fun h => absurd rfl h⟩
theorem awake_run : (runV [⟨2, 0, 0, 0, 256⟩] (List.replicate 48 0)).rs.getD 2 0 = 65536 ∧ (runV [⟨2, 0, 0, 0, 256⟩] (List.replicate 48 0)).steps = 1 := by decide +kernel
theorem awake_shade : (regAt (runV [] (shadeR ⟨1, 2, 3, 4⟩ 0 0 0)).rs 0).lim 0 65536 = ⟨1, 2, 3, 4⟩ ∧ (runV [] (shadeR ⟨1, 2, 3, 4⟩ 0 0 0)).gone = false := ⟨rfl, rfl⟩
set_option maxRecDepth 100000 in
set_option maxHeartbeats 2000000 in
theorem awake8_any (w : World) : Calls Try.prog 9 #[] w fun e w' => e = .returned (.bool true) ∧ Ext w w' := by
  go_enter Try.func9, Try.ntmps9
  go_wp2_with fail
  refine (shade_any w _ [] (parr_none w) (fun x hx => by cases hx) (by simp) ⟨1, 2, 3, 4⟩ (by simp) (by simp) (by simp) (by simp) 0 0 0 (by omega) (by omega) (by omega)).mono ?_
  rintro e w1 ⟨rfl, x1⟩
  rw [awake_shade.1, awake_shade.2]
  have A1 := Blk.new w1 #[.int .i64 1, .int .i64 2, .int .i64 3, .int .i64 4] 29
  have L2 := lit_own (w1.alloc (.cells #[.int .i64 1, .int .i64 2, .int .i64 3, .int .i64 4] 29)) ⟨2, 0, 0, 0, 256⟩
  have z2 : (w1.alloc (.cells #[.int .i64 1, .int .i64 2, .int .i64 3, .int .i64 4] 29)).heap.size = w1.heap.size + 1 := by simp
  rw [z2] at L2
  have A2 := A1.alloc (.cells #[.int .u8 2, .int .u8 0, .int .u8 0, .int .u8 0, .int .i16 256] 70)
  have E2 := (x1.alloc #[.int .i64 1, .int .i64 2, .int .i64 3, .int .i64 4] 29).alloc #[.int .u8 2, .int .u8 0, .int .u8 0, .int .u8 0, .int .i16 256] 70
  have HL := Lib.hid L2
  have HA := Lib.hid A2
  have HE := Lib.hid E2
  clear A1 L2 z2 A2 E2 x1
  go_wp2_with fail
  show Calls Try.prog _ #[_, .agg (RL (List.replicate 48 0))] _ _
  refine (vrun_any _ _ [⟨2, 0, 0, 0, 256⟩] HL.out.parr (fun x hx => by simp at hx; subst hx; simp [In.ok]) (by simp) (List.replicate 48 0) rfl (fun n hn => by rw [(List.mem_replicate.1 hn).2]; omega)).mono ?_
  rintro e w3 ⟨rfl, x3⟩
  have hrb := runV_rb (p := [⟨2, 0, 0, 0, 256⟩]) (fun x hx => by simp at hx; subst hx; simp [In.ok]) (rs := List.replicate 48 0) rfl
  obtain ⟨r1, r2⟩ := awake_run
  generalize runV [⟨2, 0, 0, 0, 256⟩] (List.replicate 48 0) = s1 at *
  have A3 := HA.out.ext x3
  have E3 := HE.out.trans x3
  have Z3 := Blk.new w3 #[  .int .i64 0, .int .i64 0, .int .i64 0, .int .i64 0, .int .i64 0, .int .i64 0, .int .i64 0, .int .i64 0, .int .i64 0, .int .i64 0, .int .i64 0, .int .i64 0, .int .i64 0, .int .i64 0, .int .i64 0, .int .i64 0, .int .i64 0, .int .i64 0, .int .i64 0, .int .i64 0, .int .i64 0, .int .i64 0, .int .i64 0, .int .i64 0, .int .i64 0, .int .i64 0, .int .i64 0, .int .i64 0, .int .i64 0, .int .i64 0, .int .i64 0, .int .i64 0, .int .i64 0, .int .i64 0, .int .i64 0, .int .i64 0, .int .i64 0, .int .i64 0, .int .i64 0, .int .i64 0, .int .i64 0, .int .i64 0, .int .i64 0, .int .i64 0, .int .i64 0, .int .i64 0, .int .i64 0, .int .i64 0, .bool false, .int .i64 0] 42
  have hry : (resL s1).toArray.size = 50 := by simp [resL, hrb.1]
  have hro := resL_one s1
  have HE3 := Lib.hid E3
  have HA3 := Lib.hid A3
  have HRB := Lib.hid hrb
  have HR1 := Lib.hid r1
  have HR2 := Lib.hid r2
  clear x3 HL HA HE A3 E3 hrb r1 r2
  go_upto_region 3 with (first
    | ((with_reducible refine wpList_store_blk (op := ⟨none, .store 42 (.tmp 4) (.tmp 14), _, _, _, _⟩) ?_ 42 (.tmp 4) (.tmp 14) ?_ w3.heap.size ?_ (cs := (resL s1).toArray) ?_ (T := 42) Z3 ?_ ?_ ?_ ?_); rfl; rfl; rfl; rfl; (rw [hry]; kernel_rfl); exact hro; (rw [hry]; rfl))
    | fail)
  have S4 : RAt _ w3.heap.size s1 := ⟨Z3.setRow _, HRB.out.1⟩
  have E4 := Ext.setRow ((Ext.refl w3).alloc #[  .int .i64 0, .int .i64 0, .int .i64 0, .int .i64 0, .int .i64 0, .int .i64 0, .int .i64 0, .int .i64 0, .int .i64 0, .int .i64 0, .int .i64 0, .int .i64 0, .int .i64 0, .int .i64 0, .int .i64 0, .int .i64 0, .int .i64 0, .int .i64 0, .int .i64 0, .int .i64 0, .int .i64 0, .int .i64 0, .int .i64 0, .int .i64 0, .int .i64 0, .int .i64 0, .int .i64 0, .int .i64 0, .int .i64 0, .int .i64 0, .int .i64 0, .int .i64 0, .int .i64 0, .int .i64 0, .int .i64 0, .int .i64 0, .int .i64 0, .int .i64 0, .int .i64 0, .int .i64 0, .int .i64 0, .int .i64 0, .int .i64 0, .int .i64 0, .int .i64 0, .int .i64 0, .int .i64 0, .int .i64 0, .bool false, .int .i64 0] 42) (Nat.le_refl _) (resL s1).toArray
  generalize (w3.alloc (.cells #[  .int .i64 0, .int .i64 0, .int .i64 0, .int .i64 0, .int .i64 0, .int .i64 0, .int .i64 0, .int .i64 0, .int .i64 0, .int .i64 0, .int .i64 0, .int .i64 0, .int .i64 0, .int .i64 0, .int .i64 0, .int .i64 0, .int .i64 0, .int .i64 0, .int .i64 0, .int .i64 0, .int .i64 0, .int .i64 0, .int .i64 0, .int .i64 0, .int .i64 0, .int .i64 0, .int .i64 0, .int .i64 0, .int .i64 0, .int .i64 0, .int .i64 0, .int .i64 0, .int .i64 0, .int .i64 0, .int .i64 0, .int .i64 0, .int .i64 0, .int .i64 0, .int .i64 0, .int .i64 0, .int .i64 0, .int .i64 0, .int .i64 0, .int .i64 0, .int .i64 0, .int .i64 0, .int .i64 0, .int .i64 0, .bool false, .int .i64 0] 42)).setRow w3.heap.size (resL s1).toArray = w4 at *
  have c1 := (HA3.out.ext E4).cell
  have c2 := S4.cell 2 (by omega)
  have c3 := S4.steps
  rw [HR1.out] at c2
  rw [HR2.out] at c3
  clear Z3 S4 hry hro HRB
  have hE := eqV
  go_wp2
  go_ret
  exact ⟨rfl, HE3.out.trans E4⟩
end Go.Proofs.Ytellfhnfifgpoaa

namespace Go.Proofs.Ytellfhnfifgpoaa
open Go.RowKit
set_option linter.unusedVariables false
theorem regs8_rl (w : World) (v : Value) (l : List Int) (h : Arr w .i32 v l) (hl : l.length ≤ 100) (raw : V4) : Calls Try.prog 11 #[v, .agg #[.int .i64 raw.c0, .int .i64 raw.c1, .int .i64 raw.c2, .int .i64 raw.c3]] w fun e w' => e = .returned (.agg (RL (regsOf l raw))) ∧ Ext w w' := regs8_any w v l h hl raw
theorem regsOf_len (l : List Int) (raw : V4) : (regsOf l raw).length = 48 := by simp [regsOf, regPut, rowL]
theorem regsOf_bd {l : List Int} {raw : V4} (hl : ∀ n ∈ l, -9223372036854775808 ≤ n ∧ n ≤ 9223372036854775807) (h0 : -9223372036854775808 ≤ raw.c0 ∧ raw.c0 ≤ 9223372036854775807) (h1 : -9223372036854775808 ≤ raw.c1 ∧ raw.c1 ≤ 9223372036854775807) (h2 : -9223372036854775808 ≤ raw.c2 ∧ raw.c2 ≤ 9223372036854775807) (h3 : -9223372036854775808 ≤ raw.c3 ∧ raw.c3 ≤ 9223372036854775807) : ∀ n ∈ regsOf l raw, -9223372036854775808 ≤ n ∧ n ≤ 9223372036854775807 := by
  have hr : ∀ n ∈ rowL l, -9223372036854775808 ≤ n ∧ n ≤ 9223372036854775807 := by
    intro n hn
    obtain ⟨m, hm, rfl⟩ := List.mem_map.1 hn
    split
    · omega
    · rename_i h
      have hlt : m % l.length < l.length := Nat.mod_lt _ (by omega)
      have : l.getD (m % l.length) 0 = l[m % l.length] := by simp [List.getD, hlt]
      rw [this]
      exact hl _ (List.getElem_mem hlt)
  intro n hn
  unfold regsOf regPut at hn
  rcases List.mem_or_eq_of_mem_set hn with h | rfl
  · rcases List.mem_or_eq_of_mem_set h with h | rfl
    · rcases List.mem_or_eq_of_mem_set h with h | rfl
      · rcases List.mem_or_eq_of_mem_set h with h | rfl
        · exact hr n h
        · exact h0
      · exact h1
    · exact h2
  · exact h3
theorem arr_wide {w : World} {v : Value} {l : List Int} (h : Arr w .i32 v l) : ∀ n ∈ l, -9223372036854775808 ≤ n ∧ n ≤ 9223372036854775807 := by
  intro n hn
  have := bounds_i32 (h.wf n hn)
  omega
end Go.Proofs.Ytellfhnfifgpoaa

