/-
  DERIVED. Layer 11 (script): Check's small functions. · Layer 11 (script): whether there are too many, whether numbers are in their ranges (made by mkscrchk.py). · Layer 11 (script): the programs, the draws: the first error of each (made by mkscrchk.py). · Layer 11 (script): Check (made by mkscrchk.py). · Layer 11 (script): a script's bytes: how many they are, that they are bytes (made by mkscrput.py).
-/
import Derived.Test.YtbbfmlehddfneaaPkAt
import Derived.Test.YtbbfmlehddfneaaPkVecW
import Derived.Test.YtbbfmlehddfneaaPkFix
import Derived.Deep.MidRow
import Derived.Deep.LoopGhost
import Derived.Test.YtbbfmlehddfneaaPkWire
import Derived.Test.YtbbfmlehddfneaaPkIsaT
import Derived.Test.YtbbfmlehddfneaaPkState
namespace Go.Proofs.Ytbbfmlehddfneaa
open Go.RowKit
set_option linter.unusedVariables false

set_option maxRecDepth 100000 in
theorem isSide_any (n : Int) (w : World) : Calls Try.prog 24 #[.int .i64 n] w fun e w' => e = .returned (.bool (decide (1 ≤ n ∧ n ≤ 64))) ∧ w = w' := by
  go_enter Try.func24, Try.ntmps24
  by_cases h1 : 1 ≤ n
  · by_cases h2 : n ≤ 64
    · go_wp2
      go_ret
      exact ⟨by simp [h1, h2], rfl⟩
    · go_wp2
      go_ret
      exact ⟨by simp; omega, rfl⟩
  · go_wp2
    go_ret
    exact ⟨by simp; omega, rfl⟩
set_option maxRecDepth 100000 in
theorem isIndex_any (i n : Int) (w : World) : Calls Try.prog 65 #[.int .i64 i, .int .i64 n] w fun e w' => e = .returned (.bool (decide (0 ≤ i ∧ i < n))) ∧ w = w' := by
  go_enter Try.func65, Try.ntmps65
  by_cases h1 : 0 ≤ i
  · by_cases h2 : i < n
    · go_wp2
      go_ret
      exact ⟨by simp [h1, h2], rfl⟩
    · go_wp2
      go_ret
      exact ⟨by simp; omega, rfl⟩
  · go_wp2
    go_ret
    exact ⟨by simp; omega, rfl⟩
theorem eqB4 (a0 a1 a2 a3 b0 b1 b2 b3 : Int) (w : World) : (Op.equalIn 10000 35 (.agg #[.int .i64 a0, .int .i64 a1, .int .i64 a2, .int .i64 a3]) (.agg #[.int .i64 b0, .int .i64 b1, .int .i64 b2, .int .i64 b3])).run Try.prog w = .ok (decide (a0 = b0 ∧ a1 = b1 ∧ a2 = b2 ∧ a3 = b3)) w := by
  unfold Op.equalIn
  simp [run_underlying Try.underlying35, go_sem, part, List.range', List.forIn_cons]
  by_cases h0 : a0 = b0 <;> by_cases h1 : a1 = b1 <;> by_cases h2 : a2 = b2 <;> by_cases h3 : a3 = b3 <;> simp [h0, h1, h2, h3]
set_option maxRecDepth 100000 in
set_option maxHeartbeats 1000000 in
theorem isWithin_any (a0 a1 a2 a3 n : Int) (h0 : I64 a0) (h1 : I64 a1) (h2 : I64 a2) (h3 : I64 a3) (hn : 0 ≤ n ∧ n ≤ 9223372036854775807) (w : World) :
    Calls Try.prog 43 #[.agg #[.int .i64 a0, .int .i64 a1, .int .i64 a2, .int .i64 a3], .int .i64 n] w fun e w' => e = .returned (.bool ([a0, a1, a2, a3].all (inB n))) ∧ Ext w w' := by
  have hr : decide (a0 = withinW a0 n ∧ a1 = withinW a1 n ∧ a2 = withinW a2 n ∧ a3 = withinW a3 n) = [a0, a1, a2, a3].all (inB n) := by
    have k : ∀ a, (a = withinW a n) ↔ inB n a = true := fun a => by
      rw [eq_comm, withinW_iff hn.1 hn.2]
      simp [inB]
    rw [Bool.eq_iff_iff]
    simp [k]
  have hq := fun u => eqB4 a0 a1 a2 a3 (withinW a0 n) (withinW a1 n) (withinW a2 n) (withinW a3 n) u
  have x1 := (Ext.refl w).alloc #[.int .i64 a0, .int .i64 a1, .int .i64 a2, .int .i64 a3] 35
  have B1 := Blk.new w #[.int .i64 a0, .int .i64 a1, .int .i64 a2, .int .i64 a3] 35
  go_enter Try.func43, Try.ntmps43
  go_wp2_with fail
  generalize w.alloc (.cells #[.int .i64 a0, .int .i64 a1, .int .i64 a2, .int .i64 a3] 35) = w1 at *
  generalize w.heap.size = b0 at *
  obtain ⟨r, hgr⟩ : ∃ r, [a0, a1, a2, a3].all (inB n) = r := ⟨_, rfl⟩
  rw [hr, hgr] at hq
  have HG := Lib.hid hgr
  clear hgr hr
  apply wp_region_reads2 _ (by kernel_rfl) (by kernel_rfl)
  case H =>
    intro x hx
    have hne : Nonempty (Wx x) := ⟨⟨x, Ext.refl x⟩⟩
    have q0 := fun (y : Wx x) => ((B1.ext hx).ext y.ext).cell
    repeat (go_big_quiet_step ((go_at_call 60; exact calm_of (vec_within a0 a1 a2 a3 n h0 h1 h2 h3 ⟨by omega, hn.2⟩ _))))
    exact wpQuiet_nil rfl
  intro w3 hx3
  go_wp2
  go_ret
  exact ⟨by rw [HG.out]; rfl, x1.trans hx3⟩
set_option maxRecDepth 100000 in
set_option maxHeartbeats 1000000 in
theorem clrCheck_any (c : Clr) (w : World) : Calls Try.prog 64 #[.agg c.l.toArray] w fun e w' => e = .returned (.int .i64 (chkC c)) ∧ Ext w w' := by
  obtain ⟨r, g, b, a, dep, sten, want⟩ := c
  have x1 := (Ext.refl w).alloc #[.int .u8 r, .int .u8 g, .int .u8 b, .int .u8 a, .int .i64 dep, .int .u8 sten, .int .u8 want] 63
  have B1 := Blk.new w #[.int .u8 r, .int .u8 g, .int .u8 b, .int .u8 a, .int .i64 dep, .int .u8 sten, .int .u8 want] 63
  go_enter Try.func64, Try.ntmps64
  go_upto_region 1 with fail
  generalize w.alloc (.cells #[.int .u8 r, .int .u8 g, .int .u8 b, .int .u8 a, .int .i64 dep, .int .u8 sten, .int .u8 want] 63) = w1 at *
  have cB := B1.cell
  generalize w.heap.size = b0 at *
  by_cases h1 : dep < 0
  · go_wp2
    go_ret
    exact ⟨by simp [chkC, h1], x1⟩
  · by_cases h2 : 65535 < dep
    · go_wp2
      go_ret
      exact ⟨by simp [chkC, h2], x1⟩
    · by_cases h3 : 7 < want
      · go_wp2
        go_ret
        exact ⟨by simp [chkC, h3], x1⟩
      · go_wp2
        go_ret
        exact ⟨by simp [chkC, h1, h2, h3], x1⟩
/-- integers that lie in a row, whatever they are -/
def Cells (w : World) (v : Value) (l : List Int) : Prop := ∃ ao cap, v = .slice ao l.length cap ∧ (l ≠ [] → ∃ b off, ao = some ⟨b, off, none⟩ ∧ ∀ j, j < l.length → w.cell? ⟨b, off + j, none⟩ = some (.int .i64 (l.getD j 0)))
theorem Cells.ext {w w' : World} {v : Value} {l : List Int} (h : Cells w v l) (x : Ext w w') : Cells w' v l := by
  obtain ⟨ao, c, e, h1⟩ := h
  refine ⟨ao, c, e, fun hne => ?_⟩
  obtain ⟨b, off, e2, hc⟩ := h1 hne
  exact ⟨b, off, e2, fun j hj => x.old (hc j hj)⟩
theorem lit_cells (w : World) (T : TypeId) (L : List Int) : Cells (w.alloc (.cells (L.map (Value.int .i64)).toArray T)) (.slice (some ⟨w.heap.size, 0, none⟩) L.length L.length) L := by
  refine ⟨_, _, rfl, fun _ => ⟨w.heap.size, 0, rfl, fun j hj => ?_⟩⟩
  rw [Nat.zero_add, (Blk.new w _ _).cell]
  simp [List.getD, hj]
set_option maxRecDepth 100000 in
set_option maxHeartbeats 1000000 in
theorem cmpOr_cells (w : World) (v : Value) (l : List Int) (h : Cells w v l) (hl : l.length ≤ 100) : Calls Try.prog 22 #[v] w fun e w' => e = .returned (.int .i64 (firstE l)) ∧ Ext w w' := by
  obtain ⟨ao, c, rfl, hat⟩ := h
  have hlI : (l.length : Int) ≤ 100 := by omega
  go_enter Try.func22, Try.ntmps22
  go_wp2_with fail
  go_loopg [8] l.length (fun n0 iv wx => ∃ (j : Nat), j + n0 = l.length ∧ iv = .int .i64 j ∧ firstE (l.take j) = 0 ∧ Ext w wx)
  case atStart => exact ⟨0, by omega, by simp, by simp [firstE], Ext.refl _⟩
  case round =>
    obtain ⟨j, hjk, rfl, hz, e1⟩ := hrel
    by_cases hj : j < l.length
    · have hjI : (j : Int) < (l.length : Int) := by omega
      obtain ⟨g, off, rfl, hc⟩ := hat (fun h => by simp [h] at hj)
      have c0 := e1.old (hc j hj)
      have hlj : l[j]? = some (l.getD j 0) := by simp [List.getD, hj]
      generalize l.getD j 0 = y at *
      have HZ := Lib.hid hz
      have HJ := Lib.hid hlj
      clear hz hlj hc
      by_cases hy : y = 0
      · subst hy
        go_wp2
        go_roundg (gk - 1)
        case measure => omega
        case rel => exact ⟨j + 1, by omega, by simp, firstE_next HZ.out HJ.out, e1⟩
      · go_wp2
        go_ret
        exact ⟨by rw [firstE_at HZ.out HJ.out hy]; rfl, e1⟩
    · obtain rfl : j = l.length := by omega
      rw [List.take_length] at hz
      have HZ := Lib.hid hz
      clear hz
      go_wp2
      go_ret
      exact ⟨by rw [HZ.out]; rfl, e1⟩
theorem cmpOr_any (w : World) (v : Value) (l : List Int) (h : Arr w .i64 v l) (hl : l.length ≤ 100) : Calls Try.prog 22 #[v] w fun e w' => e = .returned (.int .i64 (firstE l)) ∧ Ext w w' := by
  obtain ⟨⟨ao, c, rfl, _, hat, -⟩, -, -⟩ := h
  exact cmpOr_cells w _ l ⟨ao, c, rfl, hat⟩ hl
end Go.Proofs.Ytbbfmlehddfneaa

namespace Go.Proofs.Ytbbfmlehddfneaa
open Go.RowKit
set_option linter.unusedVariables false
theorem allBad {α : Type} {p : α → Bool} {l : List α} {j : Nat} {x : α} (h : l[j]? = some x) (hp : p x = false) : l.all p = false := by
  rw [List.all_eq_false]
  exact ⟨x, List.mem_of_getElem? h, by simp [hp]⟩
theorem allNext {α : Type} {p : α → Bool} {l : List α} {j : Nat} {x : α} (h : l[j]? = some x) : (l.take (j + 1)).all p = ((l.take j).all p && p x) := by
  rw [List.take_add_one, h, List.all_append]
  simp
theorem Blk.mid {w : World} {b : Nat} {z : Array Value} {T : TypeId} (h : Blk w b z T) (o : Nat) (cs : List Value) (hcs : (z.toList.drop o).take cs.length = cs) : w.rangeAt b o cs := fun j v hv => by
  rw [h.cell]
  rw [← hcs, List.getElem?_take] at hv
  split at hv
  · rw [List.getElem?_drop] at hv
    simpa using hv
  · cases hv
set_option maxRecDepth 100000 in
set_option maxHeartbeats 1000000 in
theorem tooMany_any (W H m0 m1 m2 m3 m4 m5 m6 m7 m8 m9 m10 m11 m12 m13 m14 m15 : Int) (va sa pa da : Option Addr) (vn vc sn sc pn pc dn dc : Nat) (w : World) : Calls Try.prog 25 #[.agg #[.int .i64 W, .int .i64 H, .int .i64 m0, .int .i64 m1, .int .i64 m2, .int .i64 m3, .int .i64 m4, .int .i64 m5, .int .i64 m6, .int .i64 m7, .int .i64 m8, .int .i64 m9, .int .i64 m10, .int .i64 m11, .int .i64 m12, .int .i64 m13, .int .i64 m14, .int .i64 m15, .slice va vn vc, .slice sa sn sc, .slice pa pn pc, .slice da dn dc]] w fun e w' => e = .returned (.bool (decide (64 < vn ∨ 32 < dn ∨ 4 < sn ∨ 4 < pn))) ∧ Ext w w' := by
  have x1 := (Ext.refl w).alloc #[.int .i64 W, .int .i64 H, .int .i64 m0, .int .i64 m1, .int .i64 m2, .int .i64 m3, .int .i64 m4, .int .i64 m5, .int .i64 m6, .int .i64 m7, .int .i64 m8, .int .i64 m9, .int .i64 m10, .int .i64 m11, .int .i64 m12, .int .i64 m13, .int .i64 m14, .int .i64 m15, .slice va vn vc, .slice sa sn sc, .slice pa pn pc, .slice da dn dc] 42
  have B1 := Blk.new w #[.int .i64 W, .int .i64 H, .int .i64 m0, .int .i64 m1, .int .i64 m2, .int .i64 m3, .int .i64 m4, .int .i64 m5, .int .i64 m6, .int .i64 m7, .int .i64 m8, .int .i64 m9, .int .i64 m10, .int .i64 m11, .int .i64 m12, .int .i64 m13, .int .i64 m14, .int .i64 m15, .slice va vn vc, .slice sa sn sc, .slice pa pn pc, .slice da dn dc] 42
  go_enter Try.func25, Try.ntmps25
  go_upto_region 1 with fail
  generalize w.alloc (.cells #[.int .i64 W, .int .i64 H, .int .i64 m0, .int .i64 m1, .int .i64 m2, .int .i64 m3, .int .i64 m4, .int .i64 m5, .int .i64 m6, .int .i64 m7, .int .i64 m8, .int .i64 m9, .int .i64 m10, .int .i64 m11, .int .i64 m12, .int .i64 m13, .int .i64 m14, .int .i64 m15, .slice va vn vc, .slice sa sn sc, .slice pa pn pc, .slice da dn dc] 42) = w1 at *
  have cB := B1.cell
  generalize w.heap.size = b0 at *
  by_cases h1 : (64 : Int) < (vn : Int)
  · go_wp2
    go_ret
    exact ⟨by simp; omega, x1⟩
  · by_cases h2 : (32 : Int) < (dn : Int)
    · go_wp2
      go_ret
      exact ⟨by simp; omega, x1⟩
    · by_cases h3 : (4 : Int) < (sn : Int)
      · go_wp2
        go_ret
        exact ⟨by simp; omega, x1⟩
      · by_cases h4 : (4 : Int) < (pn : Int)
        · go_wp2
          go_ret
          exact ⟨by simp; omega, x1⟩
        · go_wp2
          go_ret
          exact ⟨by simp; omega, x1⟩
set_option maxRecDepth 100000 in
set_option maxHeartbeats 2000000 in
theorem hasNumbers_any (W H m0 m1 m2 m3 m4 m5 m6 m7 m8 m9 m10 m11 m12 m13 m14 m15 : Int) (va sa pa da : Option Addr) (vc sn sc pn pc dn dc : Nat) (V : List V8) (w : World) (hV : PArrG LV w (.slice va V.length vc) V) (hm : ∀ y ∈ [m0, m1, m2, m3, m4, m5, m6, m7, m8, m9, m10, m11, m12, m13, m14, m15], I64 y) (hv : ∀ v ∈ V, v.fit) (hvl : V.length ≤ 1000000) : Calls Try.prog 26 #[.agg #[.int .i64 W, .int .i64 H, .int .i64 m0, .int .i64 m1, .int .i64 m2, .int .i64 m3, .int .i64 m4, .int .i64 m5, .int .i64 m6, .int .i64 m7, .int .i64 m8, .int .i64 m9, .int .i64 m10, .int .i64 m11, .int .i64 m12, .int .i64 m13, .int .i64 m14, .int .i64 m15, .slice va V.length vc, .slice sa sn sc, .slice pa pn pc, .slice da dn dc]] w fun e w' => e = .returned (.bool ([m0, m1, m2, m3, m4, m5, m6, m7, m8, m9, m10, m11, m12, m13, m14, m15].all (inB 2147483647) && V.all V8.inB)) ∧ Ext w w' := by
  have Q := hV
  have hlI : (V.length : Int) ≤ 1000000 := by omega
  have x1 := (Ext.refl w).alloc #[.int .i64 W, .int .i64 H, .int .i64 m0, .int .i64 m1, .int .i64 m2, .int .i64 m3, .int .i64 m4, .int .i64 m5, .int .i64 m6, .int .i64 m7, .int .i64 m8, .int .i64 m9, .int .i64 m10, .int .i64 m11, .int .i64 m12, .int .i64 m13, .int .i64 m14, .int .i64 m15, .slice va V.length vc, .slice sa sn sc, .slice pa pn pc, .slice da dn dc] 42
  have B1 := Blk.new w #[.int .i64 W, .int .i64 H, .int .i64 m0, .int .i64 m1, .int .i64 m2, .int .i64 m3, .int .i64 m4, .int .i64 m5, .int .i64 m6, .int .i64 m7, .int .i64 m8, .int .i64 m9, .int .i64 m10, .int .i64 m11, .int .i64 m12, .int .i64 m13, .int .i64 m14, .int .i64 m15, .slice va V.length vc, .slice sa sn sc, .slice pa pn pc, .slice da dn dc] 42
  have R1 := B1.mid 2 [.int .i64 m0, .int .i64 m1, .int .i64 m2, .int .i64 m3, .int .i64 m4, .int .i64 m5, .int .i64 m6, .int .i64 m7, .int .i64 m8, .int .i64 m9, .int .i64 m10, .int .i64 m11, .int .i64 m12, .int .i64 m13, .int .i64 m14, .int .i64 m15] rfl
  have hix := fun u => idxM (.int .i64 m0) (.int .i64 m1) (.int .i64 m2) (.int .i64 m3) (.int .i64 m4) (.int .i64 m5) (.int .i64 m6) (.int .i64 m7) (.int .i64 m8) (.int .i64 m9) (.int .i64 m10) (.int .i64 m11) (.int .i64 m12) (.int .i64 m13) (.int .i64 m14) (.int .i64 m15) u
  have HM := Lib.hid hm
  have HS := Lib.hid (show [m0, m1, m2, m3, m4, m5, m6, m7, m8, m9, m10, m11, m12, m13, m14, m15].all (inB 2147483647) = ([m0, m1, m2, m3].all (inB 2147483647) && ([m4, m5, m6, m7].all (inB 2147483647) && ([m8, m9, m10, m11].all (inB 2147483647) && [m12, m13, m14, m15].all (inB 2147483647)))) by simp [Bool.and_assoc])
  clear hm
  go_enter Try.func26, Try.ntmps26
  go_upto_region 1 with fail
  generalize w.alloc (.cells #[.int .i64 W, .int .i64 H, .int .i64 m0, .int .i64 m1, .int .i64 m2, .int .i64 m3, .int .i64 m4, .int .i64 m5, .int .i64 m6, .int .i64 m7, .int .i64 m8, .int .i64 m9, .int .i64 m10, .int .i64 m11, .int .i64 m12, .int .i64 m13, .int .i64 m14, .int .i64 m15, .slice va V.length vc, .slice sa sn sc, .slice pa pn pc, .slice da dn dc] 42) = w1 at *
  generalize hb0 : w.heap.size = b0 at *
  have hbw : b0 < w1.heap.size := B1.lt
  have E1 := Ext.refl w1
  have cB := B1.cell
  go_wp2_with (first
    | refine wpList_load_mid rfl 37 (.tmp 7) rfl b0 2 rfl [.int .i64 m0, .int .i64 m1, .int .i64 m2, .int .i64 m3, .int .i64 m4, .int .i64 m5, .int .i64 m6, .int .i64 m7, .int .i64 m8, .int .i64 m9, .int .i64 m10, .int .i64 m11, .int .i64 m12, .int .i64 m13, .int .i64 m14, .int .i64 m15] _ R1 Try.underlying37 rfl (by kernel_rfl) ?_
    | fail)
  refine wp_loop_rounds 5 ?_
  rw [rounds_succ]
  go_wp2_with fail
  refine (isWithin_any m0 m1 m2 m3 2147483647 (HM.out _ (by simp)) (HM.out _ (by simp)) (HM.out _ (by simp)) (HM.out _ (by simp)) (by omega) _).mono ?_
  rintro e w2 ⟨rfl, x2⟩
  have E2 : Ext w1 w2 := Ext.trans (by repeat (first | exact E1 | (refine Ext.setCell ?_ (by have := E1.size; simp only; omega) _) | apply Ext.alloc)) x2
  clear x2
  cases h0 : [m0, m1, m2, m3].all (inB 2147483647)
  · have HF := Lib.hid h0
    clear h0
    go_wp2
    go_ret
    exact ⟨by rw [HS.out, HF.out]; simp, x1.trans E2⟩
  · have G0 := Lib.hid h0
    clear h0
    go_wp2
    rw [rounds_succ]
    go_wp2_with fail
    refine (isWithin_any m4 m5 m6 m7 2147483647 (HM.out _ (by simp)) (HM.out _ (by simp)) (HM.out _ (by simp)) (HM.out _ (by simp)) (by omega) _).mono ?_
    rintro e w3 ⟨rfl, x3⟩
    have E3 : Ext w1 w3 := Ext.trans (by repeat (first | exact E2 | (refine Ext.setCell ?_ (by have := E2.size; simp only; omega) _) | apply Ext.alloc)) x3
    clear x3
    cases h1 : [m4, m5, m6, m7].all (inB 2147483647)
    · have HF := Lib.hid h1
      clear h1
      go_wp2
      go_ret
      exact ⟨by rw [HS.out, HF.out]; simp, x1.trans E3⟩
    · have G1 := Lib.hid h1
      clear h1
      go_wp2
      rw [rounds_succ]
      go_wp2_with fail
      refine (isWithin_any m8 m9 m10 m11 2147483647 (HM.out _ (by simp)) (HM.out _ (by simp)) (HM.out _ (by simp)) (HM.out _ (by simp)) (by omega) _).mono ?_
      rintro e w4 ⟨rfl, x4⟩
      have E4 : Ext w1 w4 := Ext.trans (by repeat (first | exact E3 | (refine Ext.setCell ?_ (by have := E3.size; simp only; omega) _) | apply Ext.alloc)) x4
      clear x4
      cases h2 : [m8, m9, m10, m11].all (inB 2147483647)
      · have HF := Lib.hid h2
        clear h2
        go_wp2
        go_ret
        exact ⟨by rw [HS.out, HF.out]; simp, x1.trans E4⟩
      · have G2 := Lib.hid h2
        clear h2
        go_wp2
        rw [rounds_succ]
        go_wp2_with fail
        refine (isWithin_any m12 m13 m14 m15 2147483647 (HM.out _ (by simp)) (HM.out _ (by simp)) (HM.out _ (by simp)) (HM.out _ (by simp)) (by omega) _).mono ?_
        rintro e w5 ⟨rfl, x5⟩
        have E5 : Ext w1 w5 := Ext.trans (by repeat (first | exact E4 | (refine Ext.setCell ?_ (by have := E4.size; simp only; omega) _) | apply Ext.alloc)) x5
        clear x5
        cases h3 : [m12, m13, m14, m15].all (inB 2147483647)
        · have HF := Lib.hid h3
          clear h3
          go_wp2
          go_ret
          exact ⟨by rw [HS.out, HF.out]; simp, x1.trans E5⟩
        · have G3 := Lib.hid h3
          clear h3
          go_wp2
          rw [rounds_succ]
          have B5 := B1.ext E5
          have cB5 := B5.cell
          have e5 := x1.trans E5
          have HG := Lib.hid (show [m0, m1, m2, m3, m4, m5, m6, m7, m8, m9, m10, m11, m12, m13, m14, m15].all (inB 2147483647) = true by rw [HS.out, G0.out, G1.out, G2.out, G3.out]; rfl)
          clear B1 cB G0 G1 G2 G3 HS HM R1 hix
          go_wp2_with fail
          go_loopg [19] V.length (fun n0 iv wx => ∃ (j : Nat), j + n0 = V.length ∧ iv = .int .i64 j ∧ (V.take j).all V8.inB = true ∧ Ext w wx)
          case atStart => exact ⟨0, by omega, by simp, by simp, e5⟩
          case round =>
            clear e5 cB5 B5
            obtain ⟨j, hjk, rfl, hz, e1⟩ := hrel
            have HZ := Lib.hid hz
            clear hz
            by_cases hj : j < V.length
            · have hjI : (j : Int) < (V.length : Int) := by omega
              obtain ⟨g, off, x, e0, -, hx, hc⟩ := (Q.ext e1).nth j hj
              cases e0
              have hf := hv x (List.mem_of_getElem? hx)
              have HX := Lib.hid hx
              have R3 : wr.rangeAt g (off + j * 8) x.l := hc
              have Bz := Blk.new wr #[.int .i64 0, .int .i64 0, .int .i64 0, .int .i64 0, .int .i64 0, .int .i64 0, .int .i64 0, .int .i64 0] 69
              have Bs := Bz.setRow x.l.toArray
              have e2 : Ext w ((wr.alloc (.cells #[.int .i64 0, .int .i64 0, .int .i64 0, .int .i64 0, .int .i64 0, .int .i64 0, .int .i64 0, .int .i64 0] 69)).setRow wr.heap.size x.l.toArray) := (e1.alloc _ _).setRow e1.size _
              have hone : x.l.toArray.all (·.oneCell') = true := by
                simp only [List.all_toArray, List.all_eq_true]
                exact LV.one _
              have hzl : x.l.length = 8 := rfl
              clear hc hx
              go_upto_region 10 with (first
                | refine wpList_load_mid rfl 69 (.tmp 21) rfl g (off + j * 8) rfl x.l _ R3 Try.underlying69 rfl (by kernel_rfl) ?_
                | ((with_reducible refine wpList_store_blk (op := ⟨none, .store 69 (.tmp 6) (.tmp 22), _, _, _, _⟩) ?_ 69 (.tmp 6) (.tmp 22) ?_ wr.heap.size ?_ (cs := x.l.toArray) ?_ (z := #[.int .i64 0, .int .i64 0, .int .i64 0, .int .i64 0, .int .i64 0, .int .i64 0, .int .i64 0, .int .i64 0]) (T := 69) ?_ ?_ ?_ ?_ ?_); rfl; rfl; rfl; rfl; exact Bz; (rw [List.size_toArray, hzl]; kernel_rfl); exact hone; (simp [hzl]))
                | fail)
              clear R3 Bz hone hzl e1
              generalize (wr.alloc (.cells #[.int .i64 0, .int .i64 0, .int .i64 0, .int .i64 0, .int .i64 0, .int .i64 0, .int .i64 0, .int .i64 0] 69)).setRow wr.heap.size x.l.toArray = w6 at *
              generalize wr.heap.size = b6 at *
              obtain ⟨p0, p1, p2, p3, c0, c1, c2, c3⟩ := x
              obtain ⟨⟨f0, f1, f2, f3⟩, f4, f5, f6, f7⟩ := hf
              simp only at f0 f1 f2 f3 f4 f5 f6 f7
              have cB6 := Bs.cell
              go_wp2_with fail
              refine (isWithin_any p0 p1 p2 p3 4194304 f0 f1 f2 f3 (by omega) _).mono ?_
              rintro e w7 ⟨rfl, x7⟩
              have cB7 := (Bs.ext x7).cell
              have e7 := e2.trans x7
              cases hp : [p0, p1, p2, p3].all (inB 4194304)
              · have HF := Lib.hid hp
                clear hp
                go_wp2
                go_ret
                exact ⟨by rw [HG.out, allBad HX.out (by unfold V8.inB; rw [HF.out]; rfl)]; rfl, e7⟩
              · have HF := Lib.hid hp
                clear hp
                go_wp2_with fail
                refine (isWithin_any c0 c1 c2 c3 4194304 f4 f5 f6 f7 (by omega) _).mono ?_
                rintro e w8 ⟨rfl, x8⟩
                have e8 := e7.trans x8
                cases hc : [c0, c1, c2, c3].all (inB 4194304)
                · have HC := Lib.hid hc
                  clear hc
                  go_wp2
                  go_ret
                  exact ⟨by rw [HG.out, allBad HX.out (by unfold V8.inB; rw [HF.out, HC.out]; rfl)]; rfl, e8⟩
                · have HC := Lib.hid hc
                  clear hc
                  go_wp2
                  go_roundg (gk - 1)
                  case measure => omega
                  case rel => exact ⟨j + 1, by omega, by simp, by rw [allNext HX.out, HZ.out]; unfold V8.inB; rw [HF.out, HC.out]; rfl, e8⟩
            · obtain rfl : j = V.length := by omega
              have HA := HZ.out
              rw [List.take_length] at HA
              have HB := Lib.hid HA
              clear HA
              go_wp2
              go_ret
              exact ⟨by rw [HG.out, HB.out]; rfl, e1⟩

end Go.Proofs.Ytbbfmlehddfneaa

namespace Go.Proofs.Ytbbfmlehddfneaa
open Go.RowKit
set_option linter.unusedVariables false
set_option maxRecDepth 100000 in
set_option maxHeartbeats 1000000 in
theorem checkPrograms_any (d : Bool) (v : Value) (P : List (List In)) (w : World) (hP : PRd w v P) (hok : ∀ p ∈ P, p.length ≤ 1000000 ∧ ∀ i ∈ p, i.ok) (hl : P.length ≤ 1000000) : Calls Try.prog 27 #[v, .bool d] w fun e w' => e = .returned (.int .i64 (firstE (P.map (chk d)))) ∧ Ext w w' := by
  obtain ⟨svs, h1, h2, h3⟩ := hP
  have Q := h1
  obtain ⟨ao, cc, rfl, -, -⟩ := h1.slice
  have hlI : (svs.length : Int) ≤ 1000000 := by omega
  have H2 := Lib.hid h2
  clear h2
  go_enter Try.func27, Try.ntmps27
  go_wp2_with fail
  go_loopg [10] svs.length (fun n0 iv wx => ∃ (j : Nat), j + n0 = svs.length ∧ iv = .int .i64 j ∧ firstE ((P.map (chk d)).take j) = 0 ∧ Ext w wx)
  case atStart => exact ⟨0, by omega, by simp, by simp [firstE], Ext.refl _⟩
  case round =>
    obtain ⟨j, hjk, rfl, hz, e1⟩ := hrel
    have HZ := Lib.hid hz
    clear hz
    by_cases hj : j < svs.length
    · have hjI : (j : Int) < (svs.length : Int) := by omega
      obtain ⟨g, off, x, e0, -, hx, hc⟩ := (Q.ext e1).nth j hj
      cases e0
      have c0 := hc 0 _ rfl
      obtain ⟨xs, hPx, hA, -⟩ := h3 j x hx
      have hxo := hok xs (List.mem_of_getElem? hPx)
      have HJ := Lib.hid (show (P.map (chk d))[j]? = some (chk d xs) by rw [List.getElem?_map, hPx]; rfl)
      obtain ⟨xa, xn, xc⟩ := x
      simp only [LP, SlV.v, Nat.mul_one, Nat.add_zero] at c0
      clear hc hx hPx
      go_wp2_with fail
      refine (checkP_any d _ _ xs (hA.ext e1) hxo.2 hxo.1).mono ?_
      rintro e w3 ⟨rfl, x3⟩
      have e3 := e1.trans x3
      generalize chk d xs = y at *
      by_cases hy : y = 0
      · subst hy
        go_wp2
        go_roundg (gk - 1)
        case measure => omega
        case rel => exact ⟨j + 1, by omega, by simp, firstE_next HZ.out HJ.out, e3⟩
      · go_wp2
        go_ret
        exact ⟨by rw [firstE_at HZ.out HJ.out hy]; rfl, e3⟩
    · obtain rfl : j = svs.length := by omega
      have HA := HZ.out
      rw [List.take_of_length_le (by simp [H2.out])] at HA
      have HB := Lib.hid HA
      clear HA
      go_wp2
      go_ret
      exact ⟨by rw [HB.out]; rfl, e1⟩
set_option maxRecDepth 100000 in
set_option maxHeartbeats 2000000 in
theorem checkDraw_any (W H m0 m1 m2 m3 m4 m5 m6 m7 m8 m9 m10 m11 m12 m13 m14 m15 : Int) (va sa pa da : Option Addr) (vn vc sn sc pn pc dn dc : Nat) (m : DrM) (d : Dr) (w : World) (hm : m.is d) (hA : Arr w .i64 m.ix.v d.idx) (hl : d.idx.length ≤ 1000000) : Calls Try.prog 45 #[.agg #[.int .i64 W, .int .i64 H, .int .i64 m0, .int .i64 m1, .int .i64 m2, .int .i64 m3, .int .i64 m4, .int .i64 m5, .int .i64 m6, .int .i64 m7, .int .i64 m8, .int .i64 m9, .int .i64 m10, .int .i64 m11, .int .i64 m12, .int .i64 m13, .int .i64 m14, .int .i64 m15, .slice va vn vc, .slice sa sn sc, .slice pa pn pc, .slice da dn dc], .agg m.l.toArray] w fun e w' => e = .returned (.int .i64 (chkD sn pn vn d)) ∧ Ext w w' := by
  obtain ⟨⟨dep, wr, ste, ref, msk, fai, hid, pas, ble, cha, cul, x0, y0, x1, y1⟩, clears, ⟨r, g, b, a, cdep, sten, want⟩, vx, fr, kind, ⟨xa, xn, xc⟩⟩ := m
  obtain ⟨st, clears', cl, vx', fr', kind', idx⟩ := d
  obtain ⟨h1, h2, h3, h4, h5, h6⟩ := hm
  simp only at h1 h2 h3 h4 h5 h6 hA hl
  subst h1 h2 h3 h4 h5 h6
  change Calls Try.prog 45 #[.agg #[.int .i64 W, .int .i64 H, .int .i64 m0, .int .i64 m1, .int .i64 m2, .int .i64 m3, .int .i64 m4, .int .i64 m5, .int .i64 m6, .int .i64 m7, .int .i64 m8, .int .i64 m9, .int .i64 m10, .int .i64 m11, .int .i64 m12, .int .i64 m13, .int .i64 m14, .int .i64 m15, .slice va vn vc, .slice sa sn sc, .slice pa pn pc, .slice da dn dc], .agg #[.int .u8 dep, .bool wr, .int .u8 ste, .int .u8 ref, .int .u8 msk, .int .u8 fai, .int .u8 hid, .int .u8 pas, .int .u8 ble, .int .u8 cha, .int .u8 cul, .int .i64 x0, .int .i64 y0, .int .i64 x1, .int .i64 y1, .bool clears, .int .u8 r, .int .u8 g, .int .u8 b, .int .u8 a, .int .i64 cdep, .int .u8 sten, .int .u8 want, .int .i64 vx, .int .i64 fr, .int .u8 kind, .slice xa xn xc]] w _
  have hx1 := ((Ext.refl w).alloc #[.int .i64 W, .int .i64 H, .int .i64 m0, .int .i64 m1, .int .i64 m2, .int .i64 m3, .int .i64 m4, .int .i64 m5, .int .i64 m6, .int .i64 m7, .int .i64 m8, .int .i64 m9, .int .i64 m10, .int .i64 m11, .int .i64 m12, .int .i64 m13, .int .i64 m14, .int .i64 m15, .slice va vn vc, .slice sa sn sc, .slice pa pn pc, .slice da dn dc] 42).alloc #[.int .u8 dep, .bool wr, .int .u8 ste, .int .u8 ref, .int .u8 msk, .int .u8 fai, .int .u8 hid, .int .u8 pas, .int .u8 ble, .int .u8 cha, .int .u8 cul, .int .i64 x0, .int .i64 y0, .int .i64 x1, .int .i64 y1, .bool clears, .int .u8 r, .int .u8 g, .int .u8 b, .int .u8 a, .int .i64 cdep, .int .u8 sten, .int .u8 want, .int .i64 vx, .int .i64 fr, .int .u8 kind, .slice xa xn xc] 67
  have B1 := (Blk.new w #[.int .i64 W, .int .i64 H, .int .i64 m0, .int .i64 m1, .int .i64 m2, .int .i64 m3, .int .i64 m4, .int .i64 m5, .int .i64 m6, .int .i64 m7, .int .i64 m8, .int .i64 m9, .int .i64 m10, .int .i64 m11, .int .i64 m12, .int .i64 m13, .int .i64 m14, .int .i64 m15, .slice va vn vc, .slice sa sn sc, .slice pa pn pc, .slice da dn dc] 42).alloc (.cells #[.int .u8 dep, .bool wr, .int .u8 ste, .int .u8 ref, .int .u8 msk, .int .u8 fai, .int .u8 hid, .int .u8 pas, .int .u8 ble, .int .u8 cha, .int .u8 cul, .int .i64 x0, .int .i64 y0, .int .i64 x1, .int .i64 y1, .bool clears, .int .u8 r, .int .u8 g, .int .u8 b, .int .u8 a, .int .i64 cdep, .int .u8 sten, .int .u8 want, .int .i64 vx, .int .i64 fr, .int .u8 kind, .slice xa xn xc] 67)
  have B2 := Blk.new' (w := w.alloc (.cells #[.int .i64 W, .int .i64 H, .int .i64 m0, .int .i64 m1, .int .i64 m2, .int .i64 m3, .int .i64 m4, .int .i64 m5, .int .i64 m6, .int .i64 m7, .int .i64 m8, .int .i64 m9, .int .i64 m10, .int .i64 m11, .int .i64 m12, .int .i64 m13, .int .i64 m14, .int .i64 m15, .slice va vn vc, .slice sa sn sc, .slice pa pn pc, .slice da dn dc] 42)) (b := w.heap.size + 1) (by simp) #[.int .u8 dep, .bool wr, .int .u8 ste, .int .u8 ref, .int .u8 msk, .int .u8 fai, .int .u8 hid, .int .u8 pas, .int .u8 ble, .int .u8 cha, .int .u8 cul, .int .i64 x0, .int .i64 y0, .int .i64 x1, .int .i64 y1, .bool clears, .int .u8 r, .int .u8 g, .int .u8 b, .int .u8 a, .int .i64 cdep, .int .u8 sten, .int .u8 want, .int .i64 vx, .int .i64 fr, .int .u8 kind, .slice xa xn xc] 67
  have R1 := B2.mid 0 [.int .u8 dep, .bool wr, .int .u8 ste, .int .u8 ref, .int .u8 msk, .int .u8 fai, .int .u8 hid, .int .u8 pas, .int .u8 ble, .int .u8 cha, .int .u8 cul, .int .i64 x0, .int .i64 y0, .int .i64 x1, .int .i64 y1] rfl
  have R2 := B2.mid 16 [.int .u8 r, .int .u8 g, .int .u8 b, .int .u8 a, .int .i64 cdep, .int .u8 sten, .int .u8 want] rfl
  go_enter Try.func45, Try.ntmps45
  go_upto_region 1 with fail
  generalize (w.alloc (.cells #[.int .i64 W, .int .i64 H, .int .i64 m0, .int .i64 m1, .int .i64 m2, .int .i64 m3, .int .i64 m4, .int .i64 m5, .int .i64 m6, .int .i64 m7, .int .i64 m8, .int .i64 m9, .int .i64 m10, .int .i64 m11, .int .i64 m12, .int .i64 m13, .int .i64 m14, .int .i64 m15, .slice va vn vc, .slice sa sn sc, .slice pa pn pc, .slice da dn dc] 42)).alloc (.cells #[.int .u8 dep, .bool wr, .int .u8 ste, .int .u8 ref, .int .u8 msk, .int .u8 fai, .int .u8 hid, .int .u8 pas, .int .u8 ble, .int .u8 cha, .int .u8 cul, .int .i64 x0, .int .i64 y0, .int .i64 x1, .int .i64 y1, .bool clears, .int .u8 r, .int .u8 g, .int .u8 b, .int .u8 a, .int .i64 cdep, .int .u8 sten, .int .u8 want, .int .i64 vx, .int .i64 fr, .int .u8 kind, .slice xa xn xc] 67) = w1 at *
  generalize hb0 : w.heap.size = b0 at *
  go_wp2_with (first
    | refine wpList_load_mid rfl 57 (.tmp 6) rfl (b0 + 1) 0 rfl [.int .u8 dep, .bool wr, .int .u8 ste, .int .u8 ref, .int .u8 msk, .int .u8 fai, .int .u8 hid, .int .u8 pas, .int .u8 ble, .int .u8 cha, .int .u8 cul, .int .i64 x0, .int .i64 y0, .int .i64 x1, .int .i64 y1] _ R1 Try.underlying57 rfl (by kernel_rfl) ?_
    | fail)
  refine (scheck_any ⟨dep, wr, ste, ref, msk, fai, hid, pas, ble, cha, cul, x0, y0, x1, y1⟩ _).mono ?_
  rintro e w3 ⟨rfl, x3⟩
  have e3 := hx1.trans x3
  have B3 := B1.ext x3
  have D3 := B2.ext x3
  have cB3 := B3.cell
  have cD3 := D3.cell
  have R3 := D3.mid 16 [.int .u8 r, .int .u8 g, .int .u8 b, .int .u8 a, .int .i64 cdep, .int .u8 sten, .int .u8 want] rfl
  clear R1 R2 B1 B2 hx1 x3
  generalize hst : Stt.chk ⟨dep, wr, ste, ref, msk, fai, hid, pas, ble, cha, cul, x0, y0, x1, y1⟩ = cs at *
  by_cases hcs : cs = 0
  · have HE := Lib.hid (hst.trans hcs)
    subst hcs
    clear hst
    cases clears
    · by_cases k1 : 0 ≤ vx ∧ vx < (sn : Int)
      · by_cases k2 : 0 ≤ fr ∧ fr < (pn : Int)
        · have HK := Lib.hid (show chkD sn pn vn ⟨⟨dep, wr, ste, ref, msk, fai, hid, pas, ble, cha, cul, x0, y0, x1, y1⟩, false, ⟨r, g, b, a, cdep, sten, want⟩, vx, fr, kind, idx⟩ = chkM kind idx vn by unfold chkD; rw [if_neg (by simp only [HE.out]; simp)]; simp [k1, k2])
          have d1 : decide (0 ≤ vx ∧ vx < (sn : Int)) = true := by simp [k1]
          have d2 : decide (0 ≤ fr ∧ fr < (pn : Int)) = true := by simp [k2]
          clear k1 k2
          go_wp2_with fail
          refine (isIndex_any _ _ _).mono ?_
          rintro e w4 ⟨rfl, rfl⟩
          rw [d1]
          go_wp2_with fail
          refine (isIndex_any _ _ _).mono ?_
          rintro e w4 ⟨rfl, rfl⟩
          rw [d2]
          go_wp2_with fail
          refine (checkM_any _ kind _ idx (hA.ext e3) hl vn).mono ?_
          rintro e w4 ⟨rfl, rfl⟩
          go_wp2
          go_ret
          exact ⟨by rw [HK.out]; rfl, e3⟩
        · have HK := Lib.hid (show chkD sn pn vn ⟨⟨dep, wr, ste, ref, msk, fai, hid, pas, ble, cha, cul, x0, y0, x1, y1⟩, false, ⟨r, g, b, a, cdep, sten, want⟩, vx, fr, kind, idx⟩ = 9 by unfold chkD; rw [if_neg (by simp only [HE.out]; simp)]; simp only [Bool.false_eq_true, if_false]; rw [if_neg (fun h => k2 h.2)])
          have d1 : decide (0 ≤ vx ∧ vx < (sn : Int)) = true := by simp [k1]
          have d2 : decide (0 ≤ fr ∧ fr < (pn : Int)) = false := by simpa using k2
          clear k1 k2
          go_wp2_with fail
          refine (isIndex_any _ _ _).mono ?_
          rintro e w4 ⟨rfl, rfl⟩
          rw [d1]
          go_wp2_with fail
          refine (isIndex_any _ _ _).mono ?_
          rintro e w4 ⟨rfl, rfl⟩
          rw [d2]
          go_wp2
          go_ret
          exact ⟨by rw [HK.out]; rfl, e3⟩
      · have HK := Lib.hid (show chkD sn pn vn ⟨⟨dep, wr, ste, ref, msk, fai, hid, pas, ble, cha, cul, x0, y0, x1, y1⟩, false, ⟨r, g, b, a, cdep, sten, want⟩, vx, fr, kind, idx⟩ = 9 by unfold chkD; rw [if_neg (by simp only [HE.out]; simp)]; simp only [Bool.false_eq_true, if_false]; rw [if_neg (fun h => k1 h.1)])
        have d1 : decide (0 ≤ vx ∧ vx < (sn : Int)) = false := by simpa using k1
        clear k1
        go_wp2_with fail
        refine (isIndex_any _ _ _).mono ?_
        rintro e w4 ⟨rfl, rfl⟩
        rw [d1]
        go_wp2
        go_ret
        exact ⟨by rw [HK.out]; rfl, e3⟩
    · have HK := Lib.hid (show chkD sn pn vn ⟨⟨dep, wr, ste, ref, msk, fai, hid, pas, ble, cha, cul, x0, y0, x1, y1⟩, true, ⟨r, g, b, a, cdep, sten, want⟩, vx, fr, kind, idx⟩ = chkC ⟨r, g, b, a, cdep, sten, want⟩ by unfold chkD; rw [if_neg (by simp only [HE.out]; simp)]; simp)
      go_wp2_with (first
        | refine wpList_load_mid rfl 63 (.tmp 14) rfl (b0 + 1) 16 rfl [.int .u8 r, .int .u8 g, .int .u8 b, .int .u8 a, .int .i64 cdep, .int .u8 sten, .int .u8 want] _ R3 Try.underlying63 rfl (by kernel_rfl) ?_
        | fail)
      refine (clrCheck_any ⟨r, g, b, a, cdep, sten, want⟩ _).mono ?_
      rintro e w4 ⟨rfl, x4⟩
      go_wp2
      go_ret
      exact ⟨by rw [HK.out]; rfl, e3.trans x4⟩
  · have HK := Lib.hid (show chkD sn pn vn ⟨⟨dep, wr, ste, ref, msk, fai, hid, pas, ble, cha, cul, x0, y0, x1, y1⟩, clears, ⟨r, g, b, a, cdep, sten, want⟩, vx, fr, kind, idx⟩ = cs by unfold chkD; simp only [hst]; rw [if_pos hcs])
    clear hst
    go_wp2
    go_ret
    exact ⟨by rw [HK.out]; rfl, e3⟩
set_option maxRecDepth 100000 in
set_option maxHeartbeats 2000000 in
theorem checkDraws_any (W H m0 m1 m2 m3 m4 m5 m6 m7 m8 m9 m10 m11 m12 m13 m14 m15 : Int) (va sa pa da : Option Addr) (vn vc sn sc pn pc dc : Nat) (dms : List DrM) (Ds : List Dr) (w : World) (hD : PArrG LD w (.slice da dms.length dc) dms) (hDl : dms.length = Ds.length) (hDi : ∀ (i : Nat) (m : DrM), dms[i]? = some m → ∃ d, Ds[i]? = some d ∧ m.is d ∧ Arr w .i64 m.ix.v d.idx) (hf : ∀ d ∈ Ds, d.idx.length ≤ 1000000) (hl : Ds.length ≤ 1000000) : Calls Try.prog 28 #[.agg #[.int .i64 W, .int .i64 H, .int .i64 m0, .int .i64 m1, .int .i64 m2, .int .i64 m3, .int .i64 m4, .int .i64 m5, .int .i64 m6, .int .i64 m7, .int .i64 m8, .int .i64 m9, .int .i64 m10, .int .i64 m11, .int .i64 m12, .int .i64 m13, .int .i64 m14, .int .i64 m15, .slice va vn vc, .slice sa sn sc, .slice pa pn pc, .slice da dms.length dc]] w fun e w' => e = .returned (.int .i64 (firstE (Ds.map (chkD sn pn vn)))) ∧ Ext w w' := by
  have hlI : (dms.length : Int) ≤ 1000000 := by omega
  have HDl := Lib.hid hDl
  clear hDl
  have x1 := (Ext.refl w).alloc #[.int .i64 W, .int .i64 H, .int .i64 m0, .int .i64 m1, .int .i64 m2, .int .i64 m3, .int .i64 m4, .int .i64 m5, .int .i64 m6, .int .i64 m7, .int .i64 m8, .int .i64 m9, .int .i64 m10, .int .i64 m11, .int .i64 m12, .int .i64 m13, .int .i64 m14, .int .i64 m15, .slice va vn vc, .slice sa sn sc, .slice pa pn pc, .slice da dms.length dc] 42
  have B1 := Blk.new w #[.int .i64 W, .int .i64 H, .int .i64 m0, .int .i64 m1, .int .i64 m2, .int .i64 m3, .int .i64 m4, .int .i64 m5, .int .i64 m6, .int .i64 m7, .int .i64 m8, .int .i64 m9, .int .i64 m10, .int .i64 m11, .int .i64 m12, .int .i64 m13, .int .i64 m14, .int .i64 m15, .slice va vn vc, .slice sa sn sc, .slice pa pn pc, .slice da dms.length dc] 42
  go_enter Try.func28, Try.ntmps28
  go_upto_region 1 with fail
  generalize w.alloc (.cells #[.int .i64 W, .int .i64 H, .int .i64 m0, .int .i64 m1, .int .i64 m2, .int .i64 m3, .int .i64 m4, .int .i64 m5, .int .i64 m6, .int .i64 m7, .int .i64 m8, .int .i64 m9, .int .i64 m10, .int .i64 m11, .int .i64 m12, .int .i64 m13, .int .i64 m14, .int .i64 m15, .slice va vn vc, .slice sa sn sc, .slice pa pn pc, .slice da dms.length dc] 42) = w1 at *
  generalize hb0 : w.heap.size = b0 at *
  have cB := B1.cell
  go_wp2_with fail
  go_loopg [9] dms.length (fun n0 iv wx => ∃ (j : Nat), j + n0 = dms.length ∧ iv = .int .i64 j ∧ firstE ((Ds.map (chkD sn pn vn)).take j) = 0 ∧ Ext w1 wx)
  case atStart => exact ⟨0, by omega, by simp, by simp [firstE], Ext.refl _⟩
  case round =>
    obtain ⟨j, hjk, rfl, hz, e1⟩ := hrel
    have HZ := Lib.hid hz
    clear hz cB
    by_cases hj : j < dms.length
    · have hjI : (j : Int) < (dms.length : Int) := by omega
      obtain ⟨g, off, x, e0, -, hx, hc⟩ := (hD.ext (x1.trans e1)).nth j hj
      cases e0
      obtain ⟨d, hdx, hmd, hA⟩ := hDi j x hx
      have hdl := hf d (List.mem_of_getElem? hdx)
      have HJ := Lib.hid (show (Ds.map (chkD sn pn vn))[j]? = some (chkD sn pn vn d) by rw [List.getElem?_map, hdx]; rfl)
      have R3 : wr.rangeAt g (off + j * 27) x.l := hc
      have Bz := Blk.new wr #[.int .u8 0, .bool false, .int .u8 0, .int .u8 0, .int .u8 0, .int .u8 0, .int .u8 0, .int .u8 0, .int .u8 0, .int .u8 0, .int .u8 0, .int .i64 0, .int .i64 0, .int .i64 0, .int .i64 0, .bool false, .int .u8 0, .int .u8 0, .int .u8 0, .int .u8 0, .int .i64 0, .int .u8 0, .int .u8 0, .int .i64 0, .int .i64 0, .int .u8 0, .slice none 0 0] 67
      have Bs := Bz.setRow x.l.toArray
      have e2 : Ext w1 ((wr.alloc (.cells #[.int .u8 0, .bool false, .int .u8 0, .int .u8 0, .int .u8 0, .int .u8 0, .int .u8 0, .int .u8 0, .int .u8 0, .int .u8 0, .int .u8 0, .int .i64 0, .int .i64 0, .int .i64 0, .int .i64 0, .bool false, .int .u8 0, .int .u8 0, .int .u8 0, .int .u8 0, .int .i64 0, .int .u8 0, .int .u8 0, .int .i64 0, .int .i64 0, .int .u8 0, .slice none 0 0] 67)).setRow wr.heap.size x.l.toArray) := (e1.alloc _ _).setRow e1.size _
      have hone : x.l.toArray.all (·.oneCell') = true := by
        simp only [List.all_toArray, List.all_eq_true]
        exact LD.one _
      have hzl : x.l.length = 27 := rfl
      have B2 := B1.ext e2
      clear hc hx hdx
      go_wp2_with (first
        | refine wpList_load_mid rfl 67 (.tmp 11) rfl g (off + j * 27) rfl x.l _ R3 Try.underlying67 rfl (by kernel_rfl) ?_
        | ((with_reducible refine wpList_store_blk (op := ⟨none, .store 67 (.tmp 4) (.tmp 12), _, _, _, _⟩) ?_ 67 (.tmp 4) (.tmp 12) ?_ wr.heap.size ?_ (cs := x.l.toArray) ?_ (z := #[.int .u8 0, .bool false, .int .u8 0, .int .u8 0, .int .u8 0, .int .u8 0, .int .u8 0, .int .u8 0, .int .u8 0, .int .u8 0, .int .u8 0, .int .i64 0, .int .i64 0, .int .i64 0, .int .i64 0, .bool false, .int .u8 0, .int .u8 0, .int .u8 0, .int .u8 0, .int .i64 0, .int .u8 0, .int .u8 0, .int .i64 0, .int .i64 0, .int .u8 0, .slice none 0 0]) (T := 67) ?_ ?_ ?_ ?_ ?_); rfl; rfl; rfl; rfl; exact Bz; (rw [List.size_toArray, hzl]; kernel_rfl); exact hone; rfl)
        | ((with_reducible refine wpList_load_blk (op := ⟨some 13, _, _, _, _, _⟩) ?_ 42 (.tmp 1) ?_ b0 ?_ (z := _) (T := 42) B2 Try.underlying42 ?_ ?_ ?_); rfl; rfl; rfl; rfl; kernel_rfl)
        | ((with_reducible refine wpList_load_blk (op := ⟨some 14, _, _, _, _, _⟩) ?_ 67 (.tmp 4) ?_ wr.heap.size ?_ (z := x.l.toArray) (T := 67) Bs Try.underlying67 ?_ ?_ ?_); rfl; rfl; rfl; rfl; (rw [List.size_toArray, hzl]; kernel_rfl))
        | fail)
      refine (checkDraw_any W H m0 m1 m2 m3 m4 m5 m6 m7 m8 m9 m10 m11 m12 m13 m14 m15 va sa pa _ vn vc sn sc pn pc dms.length dc x d _ hmd (hA.ext (x1.trans e2)) hdl).mono ?_
      rintro e w3 ⟨rfl, x3⟩
      have e3 := e2.trans x3
      clear e2 x3 Bs Bz R3 hone hzl B2
      generalize chkD sn pn vn d = y at *
      by_cases hy : y = 0
      · subst hy
        go_wp2
        go_roundg (gk - 1)
        case measure => omega
        case rel => exact ⟨j + 1, by omega, by simp, firstE_next HZ.out HJ.out, e3⟩
      · go_wp2
        go_ret
        exact ⟨by rw [firstE_at HZ.out HJ.out hy]; rfl, x1.trans e3⟩
    · obtain rfl : j = dms.length := by omega
      have HA := HZ.out
      rw [List.take_of_length_le (by simp [HDl.out])] at HA
      have HB := Lib.hid HA
      clear HA
      go_wp2
      go_ret
      exact ⟨by rw [HB.out]; rfl, x1.trans e1⟩
end Go.Proofs.Ytbbfmlehddfneaa

namespace Go.Proofs.Ytbbfmlehddfneaa
open Go.RowKit
set_option linter.unusedVariables false
theorem lit_i64 (w : World) (T : TypeId) (L : List Int) (hw : ∀ y ∈ L, (Lit.int .i64 y).wf = true) (hl : L.length ≤ 1000) : Arr (w.alloc (.cells (L.map (Value.int .i64)).toArray T)) .i64 (.slice (some ⟨w.heap.size, 0, none⟩) L.length L.length) L := by
  refine ⟨⟨_, _, rfl, Nat.le_refl _, fun _ => ⟨w.heap.size, 0, rfl, fun j hj => ?_⟩, fun h => by cases h⟩, by simp only [maxLen]; omega, hw⟩
  rw [Nat.zero_add, (Blk.new w _ _).cell]
  simp [List.getD, hj]
theorem firstE_bd {l : List Int} (h : ∀ e ∈ l, 0 ≤ e ∧ e ≤ 100) : 0 ≤ firstE l ∧ firstE l ≤ 100 := by
  induction l with
  | nil => simp [firstE]
  | cons e r ih =>
    unfold firstE
    split
    · exact h e (by simp)
    · exact ih (fun x hx => h x (by simp [hx]))
theorem chkD_bd (ns np nv : Nat) (d : Dr) : 0 ≤ chkD ns np nv d ∧ chkD ns np nv d ≤ 100 := by
  unfold chkD Stt.chk chkC chkM chk0
  repeat' split
  all_goals omega
/-- what Check's parts come to is small -/
theorem errs_bd (x : Scr) : I64 (firstE (x.sh.map (chk false))) ∧ I64 (firstE (x.pa.map (chk true))) ∧ I64 (firstE (x.draws.map (chkD x.sh.length x.pa.length x.verts.length))) := by
  have k : ∀ l : List Int, (∀ e ∈ l, 0 ≤ e ∧ e ≤ 100) → I64 (firstE l) := fun l hl => by have := firstE_bd hl; unfold I64; omega
  refine ⟨k _ fun e he => ?_, k _ fun e he => ?_, k _ fun e he => ?_⟩
  · obtain ⟨p, -, rfl⟩ := List.mem_map.1 he
    exact (chk_bd false p).imp id (fun h => by omega)
  · obtain ⟨p, -, rfl⟩ := List.mem_map.1 he
    exact (chk_bd true p).imp id (fun h => by omega)
  · obtain ⟨p, -, rfl⟩ := List.mem_map.1 he
    exact chkD_bd _ _ _ p
theorem wf64 {n : Int} (h : I64 n) : (Lit.int .i64 n).wf = true := WalkArith.wf_i64 h
set_option maxRecDepth 100000 in
set_option maxHeartbeats 4000000 in
theorem checkS_any (s : ScrM) (x : Scr) (w : World) (hR : ScrR w s x) (hf : x.fit) : Calls Try.prog 11 #[.agg s.l.toArray] w fun e w' => e = .returned (.int .i64 (chkS x)) ∧ Ext w w' := by
  obtain ⟨W, H, m, ⟨va, V.length, vc⟩, ⟨sa, sn, sc⟩, ⟨pa, pn, pc⟩, ⟨da, dn, dc⟩⟩ := s
  obtain ⟨W', H', m', V, Sh, Pa, Ds⟩ := x
  obtain ⟨e1, e2, e3, QV, QS, QP, QD⟩ := hR
  simp only at e1 e2 e3 QV QS QP QD
  subst e1 e2 e3
  obtain ⟨fW, fH, f16, fm, fv, fvl, fs, fsl, fp, fpl, fd, fdl⟩ := hf
  simp only at fW fH f16 fm fv fvl fs fsl fp fpl fd fdl
  obtain ⟨m0, m1, m2, m3, m4, m5, m6, m7, m8, m9, m10, m11, m12, m13, m14, m15, rfl⟩ := sixteen m f16
  obtain ⟨_, _, e, -, -⟩ := QV.slice
  cases e
  obtain ⟨_, _, e⟩ := QS.slice
  cases e
  obtain ⟨_, _, e⟩ := QP.slice
  cases e
  obtain ⟨_, _, e⟩ := QD.slice
  cases e
  have QD0 := QD
  obtain ⟨dms, D1, D2, D3⟩ := QD0
  change Calls Try.prog 11 #[.agg #[.int .i64 W, .int .i64 H, .int .i64 m0, .int .i64 m1, .int .i64 m2, .int .i64 m3, .int .i64 m4, .int .i64 m5, .int .i64 m6, .int .i64 m7, .int .i64 m8, .int .i64 m9, .int .i64 m10, .int .i64 m11, .int .i64 m12, .int .i64 m13, .int .i64 m14, .int .i64 m15, .slice va V.length vc, .slice sa Sh.length sc, .slice pa Pa.length pc, .slice da Ds.length dc]] w _
  have HC := Lib.hid (rfl : chkS ⟨W, H, [m0, m1, m2, m3, m4, m5, m6, m7, m8, m9, m10, m11, m12, m13, m14, m15], V, Sh, Pa, Ds⟩ = chkS ⟨W, H, [m0, m1, m2, m3, m4, m5, m6, m7, m8, m9, m10, m11, m12, m13, m14, m15], V, Sh, Pa, Ds⟩)
  have x1 := (Ext.refl w).alloc #[.int .i64 W, .int .i64 H, .int .i64 m0, .int .i64 m1, .int .i64 m2, .int .i64 m3, .int .i64 m4, .int .i64 m5, .int .i64 m6, .int .i64 m7, .int .i64 m8, .int .i64 m9, .int .i64 m10, .int .i64 m11, .int .i64 m12, .int .i64 m13, .int .i64 m14, .int .i64 m15, .slice va V.length vc, .slice sa Sh.length sc, .slice pa Pa.length pc, .slice da Ds.length dc] 42
  have B1 := Blk.new w #[.int .i64 W, .int .i64 H, .int .i64 m0, .int .i64 m1, .int .i64 m2, .int .i64 m3, .int .i64 m4, .int .i64 m5, .int .i64 m6, .int .i64 m7, .int .i64 m8, .int .i64 m9, .int .i64 m10, .int .i64 m11, .int .i64 m12, .int .i64 m13, .int .i64 m14, .int .i64 m15, .slice va V.length vc, .slice sa Sh.length sc, .slice pa Pa.length pc, .slice da Ds.length dc] 42
  go_enter Try.func11, Try.ntmps11
  go_upto_region 1 with fail
  generalize w.alloc (.cells #[.int .i64 W, .int .i64 H, .int .i64 m0, .int .i64 m1, .int .i64 m2, .int .i64 m3, .int .i64 m4, .int .i64 m5, .int .i64 m6, .int .i64 m7, .int .i64 m8, .int .i64 m9, .int .i64 m10, .int .i64 m11, .int .i64 m12, .int .i64 m13, .int .i64 m14, .int .i64 m15, .slice va V.length vc, .slice sa Sh.length sc, .slice pa Pa.length pc, .slice da Ds.length dc] 42) = w1 at *
  generalize hb0 : w.heap.size = b0 at *
  have cB := B1.cell
  have HfS := Lib.hid fs
  have HfP := Lib.hid fp
  have HfD := Lib.hid fd
  have HfV := Lib.hid fv
  have HfM := Lib.hid fm
  have HD2 := Lib.hid D2
  have HD3 := Lib.hid D3
  clear fs fp fd fv fm D2 D3
  have hE := errs_bd ⟨W, H, [m0, m1, m2, m3, m4, m5, m6, m7, m8, m9, m10, m11, m12, m13, m14, m15], V, Sh, Pa, Ds⟩
  by_cases a1 : 1 ≤ W ∧ W ≤ 64
  · have d1 : decide (1 ≤ W ∧ W ≤ 64) = true := by simp [a1]
    by_cases a2 : 1 ≤ H ∧ H ≤ 64
    · have d2 : decide (1 ≤ H ∧ H ≤ 64) = true := by simp [a2]
      have A12 := Lib.hid (And.intro a1 a2)
      clear a1 a2
      go_wp2_with fail
      refine (isSide_any _ _).mono ?_
      rintro e w2 ⟨rfl, rfl⟩
      rw [d1]
      go_wp2_with fail
      refine (isSide_any _ _).mono ?_
      rintro e w2 ⟨rfl, rfl⟩
      rw [d2]
      clear d1 d2
      go_wp2_with (first
        | ((with_reducible refine wpList_load_blk (op := ⟨some 15, _, _, _, _, _⟩) ?_ 42 (.tmp 1) ?_ b0 ?_ (z := _) (T := 42) B1 Try.underlying42 ?_ ?_ ?_); rfl; rfl; rfl; rfl; kernel_rfl)
        | fail)
      refine (tooMany_any W H m0 m1 m2 m3 m4 m5 m6 m7 m8 m9 m10 m11 m12 m13 m14 m15 va sa pa da V.length vc Sh.length sc Pa.length pc Ds.length dc _).mono ?_
      rintro e w2 ⟨rfl, x2⟩
      have B2 := B1.ext x2
      have E2 := x1.trans x2
      clear B1 x1 x2 cB
      by_cases a3 : 64 < V.length ∨ 32 < Ds.length ∨ 4 < Sh.length ∨ 4 < Pa.length
      · have d3 : decide (64 < V.length ∨ 32 < Ds.length ∨ 4 < Sh.length ∨ 4 < Pa.length) = true := by simpa using a3
        have HK := Lib.hid (show chkS ⟨W, H, [m0, m1, m2, m3, m4, m5, m6, m7, m8, m9, m10, m11, m12, m13, m14, m15], V, Sh, Pa, Ds⟩ = 7 by unfold chkS; rw [if_neg (fun h => h A12.out), if_pos a3])
        clear a3
        rw [d3]
        go_wp2
        go_ret
        exact ⟨by rw [HK.out]; rfl, E2⟩
      · have d3 : decide (64 < V.length ∨ 32 < Ds.length ∨ 4 < Sh.length ∨ 4 < Pa.length) = false := by simpa using a3
        have A3 := Lib.hid a3
        clear a3
        rw [d3]
        go_wp2_with (first
          | ((with_reducible refine wpList_load_blk (op := ⟨some 18, _, _, _, _, _⟩) ?_ 42 (.tmp 1) ?_ b0 ?_ (z := _) (T := 42) B2 Try.underlying42 ?_ ?_ ?_); rfl; rfl; rfl; rfl; kernel_rfl)
          | fail)
        refine (hasNumbers_any W H m0 m1 m2 m3 m4 m5 m6 m7 m8 m9 m10 m11 m12 m13 m14 m15 va sa pa da vc Sh.length sc Pa.length pc Ds.length dc V _ (QV.ext E2) HfM.out HfV.out fvl).mono ?_
        rintro e w3 ⟨rfl, x3⟩
        have B3 := B2.ext x3
        have E3 := E2.trans x3
        clear B2 E2 x3 d3
        obtain ⟨r, hr⟩ : ∃ r, ([m0, m1, m2, m3, m4, m5, m6, m7, m8, m9, m10, m11, m12, m13, m14, m15].all (inB 2147483647) && V.all V8.inB) = r := ⟨_, rfl⟩
        rw [hr]
        have HN := Lib.hid hr
        clear hr
        cases r
        · have HK := Lib.hid (show chkS ⟨W, H, [m0, m1, m2, m3, m4, m5, m6, m7, m8, m9, m10, m11, m12, m13, m14, m15], V, Sh, Pa, Ds⟩ = 2 by unfold chkS; rw [if_neg (fun h => h A12.out), if_neg A3.out, if_pos (by unfold chkN; exact HN.out)])
          go_wp2
          go_ret
          exact ⟨by rw [HK.out]; rfl, E3⟩
        · have HK := Lib.hid (show chkS ⟨W, H, [m0, m1, m2, m3, m4, m5, m6, m7, m8, m9, m10, m11, m12, m13, m14, m15], V, Sh, Pa, Ds⟩ = firstE [firstE (Sh.map (chk false)), firstE (Pa.map (chk true)), firstE (Ds.map (chkD Sh.length Pa.length V.length))] by unfold chkS; rw [if_neg (fun h => h A12.out), if_neg A3.out, if_neg (by unfold chkN; rw [HN.out]; simp)])
          have qS := fun u (hu : Ext w u) => checkPrograms_any false _ Sh u (QS.ext hu) HfS.out fsl
          have qP := fun u (hu : Ext w u) => checkPrograms_any true _ Pa u (QP.ext hu) HfP.out fpl
          have qD := fun u (hu : Ext w u) => checkDraws_any W H m0 m1 m2 m3 m4 m5 m6 m7 m8 m9 m10 m11 m12 m13 m14 m15 va sa pa da V.length vc Sh.length sc Pa.length pc dc dms Ds u (by have := D1.ext hu; rw [← HD2.out] at this; exact this) HD2.out (fun i m hm => by obtain ⟨d, k1, k2, k3⟩ := HD3.out i m hm; exact ⟨d, k1, k2, k3.ext hu⟩) (fun d hd => (HfD.out d hd).most) fdl
          rw [HD2.out] at qD
          obtain ⟨hE1, hE2, hE3⟩ := hE
          generalize firstE (Sh.map (chk false)) = f1 at *
          generalize firstE (Pa.map (chk true)) = f2 at *
          generalize firstE (Ds.map (chkD Sh.length Pa.length V.length)) = f3 at *
          clear HfS HfP HfD HfV HfM D1 HD3 HN A3 A12
          go_upto_region 7 with fail
          apply wp_region_tail 3 [false, false, false, false, false, false, false, false, true, true, true] [29, 30, 2] [] _ (by kernel_rfl) (by kernel_rfl) (by kernel_rfl)
          case H =>
            intro x hx
            have hne : Nonempty (Wx x) := ⟨⟨x, Ext.refl x⟩⟩
            have qB := fun (y : Wx x) => (B3.calm hx (by simp)).ext y.ext
            have q0 := fun (y : Wx x) => (qB y).cell
            have E4 := fun (y : Wx x) => (E3.trans hx.ext).trans y.ext
            simp only [eraseM]
            repeat (first
              | (go_big_quiet_want; (with_reducible refine quiet_load_blk (op := ⟨some 27, _, _, _, _, _⟩) 42 (.tmp 1) ?_ b0 ?_ (z := #[.int .i64 W, .int .i64 H, .int .i64 m0, .int .i64 m1, .int .i64 m2, .int .i64 m3, .int .i64 m4, .int .i64 m5, .int .i64 m6, .int .i64 m7, .int .i64 m8, .int .i64 m9, .int .i64 m10, .int .i64 m11, .int .i64 m12, .int .i64 m13, .int .i64 m14, .int .i64 m15, .slice va V.length vc, .slice sa Sh.length sc, .slice pa Pa.length pc, .slice da Ds.length dc]) (T := 42) ?_ Try.underlying42 ?_ ?_ ?_); rfl; rfl; exact (fun u hu => by obtain ⟨y, rfl⟩ := hu; exact qB y); rfl; kernel_rfl; simp only [Act.put, List.setIfInBounds_toArray, List.set_cons_succ, List.set_cons_zero]; go_big_quiet_on)
              | go_big_quiet_step ((first | (go_at_call 27; with_reducible exact calm_of (qS _ (E4 _))) | (go_at_call 27; with_reducible exact calm_of (qP _ (E4 _))) | (go_at_call 28; with_reducible exact calm_of (qD _ (E4 _))))))
            exact wpQuiet_nil rfl
          case hF => rfl
          case T =>
            change tailW _ _ _ _ [_, _, _] _ _
            refine fun u x hc => ?_
            have A := lit_i64 u 32 [f1, f2, f3] (by intro y hy; simp at hy; rcases hy with rfl | rfl | rfl; exact wf64 hE1; exact wf64 hE2; exact wf64 hE3) (by simp)
            refine gives_value (u' := u.alloc (.cells ([f1, f2, f3].map (Value.int .i64)).toArray 32)) (v := .slice (some ⟨u.heap.size, 0, none⟩) 3 3) ?_ ⟨hc.trans (((Ext.refl u).alloc _ _).calm []), fun u2 x2' hc2 => ?_⟩
            · simp [go_sem]
            · refine gives_enter (f := 22) (args := #[.slice (some ⟨u.heap.size, 0, none⟩) 3 3]) (by simp [go_sem]) (cmpOr_any u2 _ [f1, f2, f3] (A.ext x2') (by simp)) ?_
              rintro e w' ⟨rfl, x4⟩
              refine ⟨_, rfl, hc2.trans (x4.calm []), fun u3 x3 hc3 => ?_⟩
              refine gives_value (u' := u3) (v := .int .i64 (firstE [f1, f2, f3])) (by simp [go_sem]) ⟨hc3, fun u4 x4' hc4 => ?_⟩
              go_wp2
              go_ret
              exact ⟨by rw [HK.out]; rfl, E3.trans hc4.ext⟩
    · have HK := Lib.hid (show chkS ⟨W, H, [m0, m1, m2, m3, m4, m5, m6, m7, m8, m9, m10, m11, m12, m13, m14, m15], V, Sh, Pa, Ds⟩ = 6 by unfold chkS; rw [if_pos (fun h => a2 h.2)])
      have d2 : decide (1 ≤ H ∧ H ≤ 64) = false := by simpa using a2
      clear a1 a2
      go_wp2_with fail
      refine (isSide_any _ _).mono ?_
      rintro e w2 ⟨rfl, rfl⟩
      rw [d1]
      go_wp2_with fail
      refine (isSide_any _ _).mono ?_
      rintro e w2 ⟨rfl, rfl⟩
      rw [d2]
      go_wp2
      go_ret
      exact ⟨by rw [HK.out]; rfl, x1⟩
  · have HK := Lib.hid (show chkS ⟨W, H, [m0, m1, m2, m3, m4, m5, m6, m7, m8, m9, m10, m11, m12, m13, m14, m15], V, Sh, Pa, Ds⟩ = 6 by unfold chkS; rw [if_pos (fun h => a1 h.1)])
    have d1 : decide (1 ≤ W ∧ W ≤ 64) = false := by simpa using a1
    clear a1
    go_wp2_with fail
    refine (isSide_any _ _).mono ?_
    rintro e w2 ⟨rfl, rfl⟩
    rw [d1]
    go_wp2
    go_ret
    exact ⟨by rw [HK.out]; rfl, x1⟩
end Go.Proofs.Ytbbfmlehddfneaa

namespace Go.Proofs.Ytbbfmlehddfneaa
open Go.RowKit
set_option linter.unusedVariables false
theorem flat_len {α : Type} {e : α → List Int} {b : Nat} {l : List α} (h : ∀ x ∈ l, (e x).length ≤ b) : (l.flatMap e).length ≤ b * l.length := by
  induction l with
  | nil => simp
  | cons x r ih =>
    have h1 := h x (by simp)
    have h2 := ih fun y hy => h y (by simp [hy])
    simp only [List.flatMap_cons, List.length_append, List.length_cons, Nat.mul_add, Nat.mul_one]
    omega
theorem encZ_len {n : Int} (h : I64 n) : (encZ n).length ≤ 10 := leb_len10 (zig_lt h)
theorem encN_len {n : Int} (h : I64 n) : (encN n).length ≤ 10 := leb_len10 (by obtain ⟨h1, h2⟩ := h; omega)
theorem enc_len {xs : List In} (hl : xs.length ≤ 24) (h : ∀ x ∈ xs, x.ok) : (enc xs).length ≤ 346 := by
  rw [enc_seqE, seqE, List.length_append]
  have h1 : (leb xs.length).length ≤ 10 := leb_len10 (by omega)
  have h2 := flat_len (e := encI) (b := 14) (fun x hx => Nat.le_trans (encI_len (h x hx)) (by omega))
  omega
/-- what a script that may be has -/
structure Dr.good (d : Dr) : Prop where
  st : d.st.chk = 0
  len : d.clears = false → d.idx.length ≤ 96
theorem encD_len {d : Dr} (hf : d.fit) (hg : d.good) (hi : ∀ y ∈ d.idx, I64 y) : (encD d).length ≤ 1006 := by
  have hs : d.st.enc.length = 15 := by simp [Stt.enc]
  unfold encD
  rw [List.length_append, hs]
  split
  · have := encN_len hf.dep
    simp only [List.length_append, List.length_cons, List.length_nil]
    omega
  · rename_i hc
    have h0 := hg.len (by simpa using hc)
    have h1 := encN_len hf.vx
    have h2 := encN_len hf.fr
    have h3 : (leb d.idx.length).length ≤ 10 := leb_len10 (by omega)
    have h4 := flat_len (e := encN) (b := 10) (l := d.idx) (fun y hy => encN_len (hi y hy))
    simp only [List.length_append, List.length_cons, seqE]
    omega
theorem encV_len {v : V8} (h : v.fit) : (encV v).length ≤ 80 := by
  obtain ⟨⟨h0, h1, h2, h3⟩, h4, h5, h6, h7⟩ := h
  have := flat_len (e := encZ) (b := 10) (l := [v.p0, v.p1, v.p2, v.p3, v.c0, v.c1, v.c2, v.c3]) (by intro y hy; simp at hy; rcases hy with rfl | rfl | rfl | rfl | rfl | rfl | rfl | rfl <;> exact encZ_len (by assumption))
  unfold encV
  simpa using this
theorem byte_leb (n : Nat) : ∀ y ∈ leb n, 0 ≤ y ∧ y ≤ 255 := (shape_leb n).1.bytes
theorem byte_encN (n : Int) : ∀ y ∈ encN n, 0 ≤ y ∧ y ≤ 255 := byte_leb _
theorem byte_encZ (n : Int) : ∀ y ∈ encZ n, 0 ≤ y ∧ y ≤ 255 := byte_leb _
theorem byte_flat {α : Type} {e : α → List Int} {l : List α} (h : ∀ x ∈ l, ∀ y ∈ e x, 0 ≤ y ∧ y ≤ 255) : ∀ y ∈ l.flatMap e, 0 ≤ y ∧ y ≤ 255 := fun y hy => by
  obtain ⟨x, hx, hyx⟩ := List.mem_flatMap.1 hy
  exact h x hx y hyx
theorem byte_app {a b : List Int} (h1 : ∀ y ∈ a, 0 ≤ y ∧ y ≤ 255) (h2 : ∀ y ∈ b, 0 ≤ y ∧ y ≤ 255) : ∀ y ∈ a ++ b, 0 ≤ y ∧ y ≤ 255 := fun y hy => (List.mem_append.1 hy).elim (h1 y) (h2 y)
theorem byte_seq {α : Type} {e : α → List Int} {l : List α} (h : ∀ x ∈ l, ∀ y ∈ e x, 0 ≤ y ∧ y ≤ 255) : ∀ y ∈ seqE e l, 0 ≤ y ∧ y ≤ 255 := byte_app (byte_leb _) (byte_flat h)
theorem byte_encI {x : In} (h : x.ok) : ∀ y ∈ encI x, 0 ≤ y ∧ y ≤ 255 := by
  obtain ⟨h1, h2, h3, h4, h5⟩ := h
  unfold encI
  refine byte_app (fun y hy => ?_) (byte_leb _)
  simp at hy
  rcases hy with rfl | rfl | rfl | rfl <;> assumption
theorem byte_encD {d : Dr} (hf : d.fit) (hg : d.good) : ∀ y ∈ encD d, 0 ≤ y ∧ y ≤ 255 := by
  unfold encD
  refine byte_app (Stt.enc_bd hf.st (Stt.chk_box hg.st)) ?_
  split
  · refine byte_app (fun y hy => ?_) (byte_encN _)
    obtain ⟨h1, h2, h3, h4, h5, h6⟩ := hf.cl
    simp at hy
    rcases hy with rfl | rfl | rfl | rfl | rfl | rfl | rfl <;> first | assumption | omega
  · intro y hy
    rcases List.mem_cons.1 hy with rfl | hy
    · exact hf.kind
    · exact byte_app (byte_encN _) (byte_app (byte_encN _) (byte_seq (fun x _ => byte_encN x))) y hy
theorem chkM_len {k v : Int} {l : List Int} (h : chkM k l v = 0) : l.length ≤ 96 := by
  unfold chkM chk0 at h
  by_cases h2 : 2 < k
  · simp [h2] at h
  · by_cases h96 : 96 < l.length
    · simp [h2, h96] at h
    · omega
theorem chkD_good {ns np nv : Nat} {d : Dr} (h : chkD ns np nv d = 0) : d.good := by
  unfold chkD at h
  split at h
  · rename_i h1
    exact absurd h h1
  · rename_i h1
    refine ⟨by simpa using h1, fun hc => ?_⟩
    rw [hc] at h
    simp only [Bool.false_eq_true, if_false] at h
    split at h
    · exact chkM_len h
    · cases h
/-- what Check says of a script that may be -/
structure Scr.good (x : Scr) : Prop where
  W : 1 ≤ x.W ∧ x.W ≤ 64
  H : 1 ≤ x.H ∧ x.H ≤ 64
  v : x.verts.length ≤ 64
  d : x.draws.length ≤ 32
  s : x.sh.length ≤ 4
  p : x.pa.length ≤ 4
  sp : ∀ p ∈ x.sh, chk false p = 0
  pp : ∀ p ∈ x.pa, chk true p = 0
  dd : ∀ d ∈ x.draws, chkD x.sh.length x.pa.length x.verts.length d = 0
theorem chkS_good {x : Scr} (h : chkS x = 0) : x.good := by
  unfold chkS at h
  split at h
  · cases h
  · rename_i h1
    split at h
    · cases h
    · rename_i h2
      split at h
      · cases h
      · have h3 := firstE_zero.1 h
        have k := fun (l : List Int) (hl : firstE l = 0) => firstE_zero.1 hl
        have a := k _ (h3 _ (by simp : firstE (x.sh.map (chk false)) ∈ _))
        have b := k _ (h3 _ (by simp : firstE (x.pa.map (chk true)) ∈ _))
        have c := k _ (h3 _ (by simp : firstE (x.draws.map (chkD x.sh.length x.pa.length x.verts.length)) ∈ _))
        exact ⟨by omega, by omega, by omega, by omega, by omega, by omega, fun p hp => a _ (List.mem_map_of_mem hp), fun p hp => b _ (List.mem_map_of_mem hp), fun p hp => c _ (List.mem_map_of_mem hp)⟩
theorem progs_len {P : List (List In)} {d : Bool} (h4 : P.length ≤ 4) (hok : ∀ p ∈ P, ∀ i ∈ p, i.ok) (hc : ∀ p ∈ P, chk d p = 0) (j : Nat) : ((P.take j).flatMap enc).length ≤ 1384 := by
  have := flat_len (e := enc) (b := 346) (l := P.take j) (fun x hx => enc_len (chk_zero (hc x (List.mem_of_mem_take hx))).1 (hok x (List.mem_of_mem_take hx)))
  have h2 : (P.take j).length ≤ 4 := by simp; omega
  omega
theorem encS_len {x : Scr} (hf : x.fit) (hg : x.good) (hi : ∀ d ∈ x.draws, ∀ y ∈ d.idx, I64 y) : (encS x).length < 100000 := by
  have k1 := encN_len hf.W
  have k2 := encN_len hf.H
  have k3 := flat_len (e := encZ) (b := 10) (l := x.m) (fun y hy => encZ_len (hf.m y hy))
  have k4 : (leb x.verts.length).length ≤ 10 := leb_len10 (by have := hf.vl; omega)
  have k5 := flat_len (e := encV) (b := 80) (l := x.verts) (fun y hy => encV_len (hf.v y hy))
  have k6 : (leb x.sh.length).length ≤ 10 := leb_len10 (by have := hf.sl; omega)
  have k7 := progs_len hg.s (fun p hp => (hf.s p hp).2) hg.sp x.sh.length
  have k8 : (leb x.pa.length).length ≤ 10 := leb_len10 (by have := hf.pl; omega)
  have k9 := progs_len hg.p (fun p hp => (hf.p p hp).2) hg.pp x.pa.length
  have k10 : (leb x.draws.length).length ≤ 10 := leb_len10 (by have := hf.dl; omega)
  have k11 := flat_len (e := encD) (b := 1006) (l := x.draws) (fun d hd => encD_len (hf.d d hd) (chkD_good (hg.dd d hd)) (hi d hd))
  rw [List.take_length] at k7 k9
  have h16 := hf.m16
  have g1 := hg.v
  have g2 := hg.d
  simp only [encS, seqE, List.length_cons, List.length_append]
  omega
theorem encS_bytes {x : Scr} (hf : x.fit) (hg : x.good) : ∀ y ∈ encS x, 0 ≤ y ∧ y ≤ 255 := by
  unfold encS
  intro y hy
  rcases List.mem_cons.1 hy with rfl | hy
  · omega
  rcases List.mem_cons.1 hy with rfl | hy
  · omega
  refine byte_app (byte_encN _) (byte_app (byte_encN _) (byte_app (byte_flat fun x _ => byte_encZ x) (byte_app (byte_seq fun v _ => byte_flat fun n _ => byte_encZ n) (byte_app (byte_seq fun p hp => ?_) (byte_app (byte_seq fun p hp => ?_) (byte_seq fun d hd => byte_encD (hf.d d hd) (chkD_good (hg.dd d hd)))))))) y hy
  · rw [enc_seqE]
    exact byte_seq fun i hi => byte_encI ((hf.s p hp).2 i hi)
  · rw [enc_seqE]
    exact byte_seq fun i hi => byte_encI ((hf.p p hp).2 i hi)
end Go.Proofs.Ytbbfmlehddfneaa

