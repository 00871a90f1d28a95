/-
  DERIVED. The landed setup's between, limited, Middle (made by mksetreal.py). · The landed setup's ranges (made by mksetreal.py). · The landed setup's Check (made by mksetreal.py).
-/
import Derived.Test.YtglehnmkdapnpaaPkPlain
import Derived.Test.YtglehnmkdapnpaaPkClip
import Derived.Test.YtglehnmkdapnpaaPkEdge
import Derived.Test.YtglehnmkdapnpaaPkRef2
import Derived.Test.YtglehnmkdapnpaaPkFix
import Derived.Laws.StructEq
import Derived.Test.YtglehnmkdapnpaaPkGs
namespace Go.Proofs.Ytglehnmkdapnpaa
open Go.RowKit
set_option linter.unusedVariables false
set_option maxRecDepth 100000 in
set_option maxHeartbeats 4000000 in
theorem sbet_any (lo n hi : Int) (hlo : -9223372036854775808 ≤ lo ∧ lo ≤ 9223372036854775807) (hn : -9223372036854775808 ≤ n ∧ n ≤ 9223372036854775807) (hhi : -9223372036854775808 ≤ hi ∧ hi ≤ 9223372036854775807) (w : World) : Calls Try.prog 34 #[.int .i64 lo, .int .i64 n, .int .i64 hi] w fun e w' => e = .returned (.int .i64 (bdI n lo hi)) ∧ Ext w w' := by
  go_enter Try.func34, Try.ntmps34
  go_wp2
  all_goals (go_ret; exact ⟨ret_int (by unfold bdI; omega), Ext.refl _⟩)
set_option maxRecDepth 100000 in
set_option maxHeartbeats 4000000 in
theorem smid_any (x : Int) (hx : -9223372036854775808 ≤ x ∧ x ≤ 9223372036854775807) (w : World) : Calls Try.prog 44 #[.int .i64 x] w fun e w' => e = .returned (.int .i64 (midI x)) ∧ Ext w w' := by
  have hb := fun u => sbet_any (-1) x 64 (by omega) hx (by omega) u
  have bb := bdI_bd x (lo := -1) (hi := 64) (by omega)
  unfold midI
  generalize bdI x (-1) 64 = m at *
  have HB := Lib.hid hb
  clear hb
  go_enter Try.func44, Try.ntmps44
  go_wp2_with fail
  refine (HB.out _).mono ?_
  rintro e w2 ⟨rfl, x2⟩
  go_wp2
  go_ret
  exact ⟨by first | rfl | (simp; omega), x2⟩
set_option maxRecDepth 100000 in
set_option maxHeartbeats 4000000 in
theorem middle_any (x y : Int) (hx : I64 x) (hy : I64 y) (w : World) : Calls Try.prog 21 #[.int .i64 x, .int .i64 y] w fun e w' => e = .returned (.agg #[.int .i64 (midI x), .int .i64 (midI y)]) ∧ Ext w w' := by
  have ha := fun u => smid_any x hx u
  have hb := fun u => smid_any y hy u
  generalize midI x = mx at *
  generalize midI y = my at *
  have HA := Lib.hid ha
  have HB := Lib.hid hb
  clear ha hb
  have xx : Ext w (w.alloc (.cells #[.int .i64 0, .int .i64 0] 50)) := (Ext.refl w).alloc _ _
  have B4 := Blk.new w #[.int .i64 0, .int .i64 0] 50
  go_enter Try.func21, Try.ntmps21
  go_upto_region 1 with fail
  generalize (w.alloc (.cells #[.int .i64 0, .int .i64 0] 50)) = w1 at *
  go_wp2_with fail
  refine (HA.out _).mono ?_
  rintro e w2 ⟨rfl, x2⟩
  have xx := xx.trans x2
  have B4 := B4.ext x2
  clear x2
  go_wp2_with fail
  refine (HB.out _).mono ?_
  rintro e w3 ⟨rfl, x3⟩
  have xx := xx.trans x3
  have B4 := B4.ext x3
  clear x3
  have Bf := B4.setRow #[.int .i64 mx, .int .i64 my]
  have Ef := xx.setRow (g := w.heap.size) (by omega) #[.int .i64 mx, .int .i64 my]
  go_wp2_with (first
    | ((with_reducible refine wpList_store_blk (op := ⟨none, .store 50 (.tmp 4) (.tmp 9), _, _, _, _⟩) ?_ 50 (.tmp 4) (.tmp 9) ?_ (w.heap.size) ?_ (cs := #[.int .i64 mx, .int .i64 my]) ?_ (z := #[.int .i64 0, .int .i64 0]) (T := 50) ?_ ?_ ?_ ?_ ?_); rfl; rfl; rfl; rfl; exact B4; kernel_rfl; kernel_rfl; kernel_rfl)
    | fail)
  exact bodyPost_ret (v := .agg #[.int .i64 mx, .int .i64 my]) (results_blk (b := w.heap.size) (t := 4) (ty := 50) rfl rfl Bf Try.underlying50 rfl (by kernel_rfl)) rfl ⟨rfl, Ef⟩
set_option maxRecDepth 100000 in
set_option maxHeartbeats 4000000 in
theorem limited_main13 (x y d fr c0 c1 c2 c3 X Y D F r0 r1 r2 r3 : Int) (hF : maxI fr 1 = F)
    (hX : ∀ u : World, Calls Try.prog 53 #[.int .i64 x, .int .i64 16384] u fun e w' => e = .returned (.int .i64 X) ∧ Ext u w') (hY : ∀ u : World, Calls Try.prog 53 #[.int .i64 y, .int .i64 16384] u fun e w' => e = .returned (.int .i64 Y) ∧ Ext u w')
    (hD : ∀ u : World, Calls Try.prog 34 #[.int .i64 0, .int .i64 d, .int .i64 65535] u fun e w' => e = .returned (.int .i64 D) ∧ Ext u w')
    (hC : ∀ u : World, Calls Try.prog 54 #[.agg #[.int .i64 c0, .int .i64 c1, .int .i64 c2, .int .i64 c3]] u fun e w' => e = .returned (.agg #[.int .i64 r0, .int .i64 r1, .int .i64 r2, .int .i64 r3]) ∧ Ext u w') (w : World) :
    Calls Try.prog 32 #[.agg #[.int .i64 x, .int .i64 y, .int .i64 d, .int .i64 fr, .int .i64 c0, .int .i64 c1, .int .i64 c2, .int .i64 c3]] w fun e w' => e = .returned (.agg #[.int .i64 X, .int .i64 Y, .int .i64 D, .int .i64 F, .int .i64 r0, .int .i64 r1, .int .i64 r2, .int .i64 r3]) ∧ Ext w w' := by
  subst hF
  have HX := Lib.hid hX
  have HY := Lib.hid hY
  have HD := Lib.hid hD
  have HC := Lib.hid hC
  clear hX hY hD hC
  have xx : Ext w ((w.alloc (.cells #[.int .i64 x, .int .i64 y, .int .i64 d, .int .i64 fr, .int .i64 c0, .int .i64 c1, .int .i64 c2, .int .i64 c3] 59)).alloc (.cells #[.int .i64 0, .int .i64 0, .int .i64 0, .int .i64 0, .int .i64 0, .int .i64 0, .int .i64 0, .int .i64 0] 59)) := ((Ext.refl w).alloc _ _).alloc _ _
  have B1 := (Blk.new w #[.int .i64 x, .int .i64 y, .int .i64 d, .int .i64 fr, .int .i64 c0, .int .i64 c1, .int .i64 c2, .int .i64 c3] 59).alloc (.cells #[.int .i64 0, .int .i64 0, .int .i64 0, .int .i64 0, .int .i64 0, .int .i64 0, .int .i64 0, .int .i64 0] 59)
  have B2 := Blk.new (w.alloc (.cells #[.int .i64 x, .int .i64 y, .int .i64 d, .int .i64 fr, .int .i64 c0, .int .i64 c1, .int .i64 c2, .int .i64 c3] 59)) #[.int .i64 0, .int .i64 0, .int .i64 0, .int .i64 0, .int .i64 0, .int .i64 0, .int .i64 0, .int .i64 0] 59
  go_enter Try.func32, Try.ntmps32
  go_upto_region 1 with fail
  simp only [World.size_alloc] at B2
  generalize ((w.alloc (.cells #[.int .i64 x, .int .i64 y, .int .i64 d, .int .i64 fr, .int .i64 c0, .int .i64 c1, .int .i64 c2, .int .i64 c3] 59)).alloc (.cells #[.int .i64 0, .int .i64 0, .int .i64 0, .int .i64 0, .int .i64 0, .int .i64 0, .int .i64 0, .int .i64 0] 59)) = w1 at *
  have hmx := maxI_fold
  apply wp_region_vars [false, false, false, false, false, false, false, false, false, false, false, false, false, false, false, false, false, false, false, true] [w.heap.size + 1] [⟨none, 0, w.heap.size + 1, some 19, 59, #[.int .i64 0, .int .i64 0, .int .i64 0, .int .i64 0, .int .i64 0, .int .i64 0, .int .i64 0, .int .i64 0], #[.int .i64 X, .int .i64 Y, .int .i64 D, .int .i64 (maxI fr 1), .int .i64 r0, .int .i64 r1, .int .i64 r2, .int .i64 r3]⟩] _ (by kernel_rfl) (by kernel_rfl) (by kernel_rfl)
  case H =>
    intro x0 hx
    have hne : Nonempty (Wx x0) := ⟨⟨x0, Ext.refl x0⟩⟩
    have qB1 := fun (y : Wx x0) => ((B1.calm hx (by simp <;> omega)).ext y.ext).cell
    simp only [eraseM]
    repeat (go_big_quiet_step (first | (go_at_call 53; with_reducible exact calm_of (HX.out _)) | (go_at_call 53; with_reducible exact calm_of (HY.out _)) | (go_at_call 34; with_reducible exact calm_of (HD.out _)) | (go_at_call 54; with_reducible exact calm_of (HC.out _))))
    exact wpQuiet_nil rfl
  case hok =>
    simp only [List.forall_mem_cons, List.not_mem_nil, false_implies, implies_true, and_true]
    exact tgt_mine (v := .agg #[.int .i64 X, .int .i64 Y, .int .i64 D, .int .i64 (maxI fr 1), .int .i64 r0, .int .i64 r1, .int .i64 r2, .int .i64 r3]) (off := 0) (by simp) B2 rfl rfl rfl rfl rfl rfl (by kernel_rfl) (by kernel_rfl) (of_decide_eq_true (by kernel_rfl)) rfl
  case hdis =>
    intro k k' t t' hk hk' hkk ha ha'
    exfalso
    have h1 : k < 1 := (List.getElem?_eq_some_iff.1 hk).1
    have h2 : k' < 1 := (List.getElem?_eq_some_iff.1 hk').1
    omega
  rintro w2 f hw ⟨k0, l0, d0, u0, -⟩
  have e0' : f 0 = w.heap.size + 1 := k0
  rw [e0'] at d0
  simp only [pairs, putAll, Option.isSome_none, Bool.false_eq_true, if_false]
  have Ef := Ext.calm_trans xx hw (by simp)
  clear k0 l0 u0 e0' hw
  go_wp2_with fail
  exact bodyPost_ret (v := .agg #[.int .i64 X, .int .i64 Y, .int .i64 D, .int .i64 (maxI fr 1), .int .i64 r0, .int .i64 r1, .int .i64 r2, .int .i64 r3]) (results_blk (b := w.heap.size + 1) (t := 2) (ty := 59) rfl rfl d0 Try.underlying59 rfl (by kernel_rfl)) rfl ⟨rfl, Ef⟩
/-- a corner, limited -/
def Cn.lim (c : Cn) : Cn := ⟨nr c.x, nr c.y, dep c.d, farB c.f, limC c.c0, limC c.c1, limC c.c2, limC c.c3⟩
theorem slim_any (c : Cn) (hc : c.in64) (w : World) : Calls Try.prog 32 #[.agg c.l.toArray] w fun e w' => e = .returned (.agg c.lim.l.toArray) ∧ Ext w w' := by
  obtain ⟨h0, h1, h2, h3, h4, h5, h6, h7⟩ := hc
  exact limited_main13 _ _ _ _ _ _ _ _ _ _ _ _ _ _ _ _ (maxI_eq _ _) (fun u => (within_nr c.x u h0).mono (fun e w' hh => ⟨hh.1, hh.2 ▸ Ext.refl _⟩)) (fun u => (within_nr c.y u h1).mono (fun e w' hh => ⟨hh.1, hh.2 ▸ Ext.refl _⟩)) (fun u => sbet_any 0 c.d 65535 (by omega) h2 (by omega) u) (fun u => colour_lim c.c0 c.c1 c.c2 c.c3 h4 h5 h6 h7 u) w
end Go.Proofs.Ytglehnmkdapnpaa

namespace Go.Proofs.Ytglehnmkdapnpaa
open Go.RowKit
set_option linter.unusedVariables false
set_option maxRecDepth 100000 in
set_option maxHeartbeats 4000000 in
theorem eqPt2 (d : Nat) (a0 a1 b0 b1 : Int) (w : World) : (Op.equalIn (d + 2) 50 (.agg #[.int .i64 a0, .int .i64 a1]) (.agg #[.int .i64 b0, .int .i64 b1])).run Try.prog w = .ok (decide (a0 = b0 ∧ a1 = b1)) w := by
  unfold Op.equalIn
  simp [run_underlying Try.underlying50, go_sem, part, List.forIn_cons]
  by_cases h0 : a0 = b0 <;> by_cases h1 : a1 = b1 <;> simp [h0, h1]
set_option maxRecDepth 100000 in
set_option maxHeartbeats 4000000 in
theorem eqV42 (d : Nat) (a0 a1 a2 a3 b0 b1 b2 b3 : Int) (w : World) : (Op.equalIn (d + 2) 30 (.agg #[.int .i64 a0, .int .i64 a1, .int .i64 a2, .int .i64 a3]) (.agg #[.int .i64 b0, .int .i64 b1, .int .i64 b2, .int .i64 b3])).run Try.prog w = .ok (decide (a0 = b0 ∧ a1 = b1 ∧ a2 = b2 ∧ a3 = b3)) w := by
  unfold Op.equalIn
  simp [run_underlying Try.underlying30, go_sem, part, List.range', List.forIn_cons]
  by_cases h0 : a0 = b0 <;> by_cases h1 : a1 = b1 <;> by_cases h2 : a2 = b2 <;> by_cases h3 : a3 = b3 <;> simp [h0, h1, h2, h3]
set_option maxRecDepth 100000 in
set_option maxHeartbeats 4000000 in
theorem eqCn2 (a0 a1 a2 a3 a4 a5 a6 a7 b0 b1 b2 b3 b4 b5 b6 b7 : Int) (w : World) : (Op.equalIn 10000 59 (.agg #[.int .i64 a0, .int .i64 a1, .int .i64 a2, .int .i64 a3, .int .i64 a4, .int .i64 a5, .int .i64 a6, .int .i64 a7]) (.agg #[.int .i64 b0, .int .i64 b1, .int .i64 b2, .int .i64 b3, .int .i64 b4, .int .i64 b5, .int .i64 b6, .int .i64 b7])).run Try.prog w = .ok (decide (a0 = b0 ∧ a1 = b1 ∧ a2 = b2 ∧ a3 = b3 ∧ a4 = b4 ∧ a5 = b5 ∧ a6 = b6 ∧ a7 = b7)) w := by
  have hp := eqPt2 9997
  have hv := eqV42 9997
  unfold Op.equalIn
  simp [run_underlying Try.underlying59, go_sem, part, List.forIn_cons, hp, hv]
  repeat' split
  all_goals simp_all
theorem mkCnr (u : World) : (Instr.alloc 59 true (.tuple #[])).run Try.prog u = .ok (.pointer (some ⟨u.heap.size, 0, none⟩)) (u.alloc (.cells #[.int .i64 0, .int .i64 0, .int .i64 0, .int .i64 0, .int .i64 0, .int .i64 0, .int .i64 0, .int .i64 0] 59)) := by
  simp [go_sem]
set_option maxRecDepth 100000 in
set_option maxHeartbeats 4000000 in
theorem rng_eq0 (g0 g1 g2 g3 g4 g5 e0 e1 e2 n0 n1 n2 a0 a1 a2 a3 b0 b1 b2 b3 c0 c1 c2 c3 : Int) (hL : ∀ u : World, Calls Try.prog 32 #[.agg #[.int .i64 g0, .int .i64 g1, .int .i64 e0, .int .i64 n0, .int .i64 a0, .int .i64 a1, .int .i64 a2, .int .i64 a3]] u fun e w' => e = .returned (.agg #[.int .i64 g0, .int .i64 g1, .int .i64 e0, .int .i64 n0, .int .i64 a0, .int .i64 a1, .int .i64 a2, .int .i64 a3]) ∧ Ext u w')  (w : World) :
    Calls Try.prog 36 #[.agg #[.int .i64 g0, .int .i64 g1, .int .i64 g2, .int .i64 g3, .int .i64 g4, .int .i64 g5, .int .i64 e0, .int .i64 e1, .int .i64 e2, .int .i64 n0, .int .i64 n1, .int .i64 n2, .int .i64 a0, .int .i64 a1, .int .i64 a2, .int .i64 a3, .int .i64 b0, .int .i64 b1, .int .i64 b2, .int .i64 b3, .int .i64 c0, .int .i64 c1, .int .i64 c2, .int .i64 c3], .int .i64 0] w fun e w' => e = .returned (.bool (decide (n0 ≤ 1024))) ∧ Ext w w' := by
  have HL := Lib.hid hL
  clear hL
  have hE : ∀ u : World, (Op.equalIn 10000 59 (.agg #[.int .i64 g0, .int .i64 g1, .int .i64 e0, .int .i64 n0, .int .i64 a0, .int .i64 a1, .int .i64 a2, .int .i64 a3]) (.agg #[.int .i64 g0, .int .i64 g1, .int .i64 e0, .int .i64 n0, .int .i64 a0, .int .i64 a1, .int .i64 a2, .int .i64 a3])).run Try.prog u = .ok true u := by
    intro u
    rw [eqCn2]
    simp
  have xx : Ext w (w.alloc (.cells #[.int .i64 g0, .int .i64 g1, .int .i64 g2, .int .i64 g3, .int .i64 g4, .int .i64 g5, .int .i64 e0, .int .i64 e1, .int .i64 e2, .int .i64 n0, .int .i64 n1, .int .i64 n2, .int .i64 a0, .int .i64 a1, .int .i64 a2, .int .i64 a3, .int .i64 b0, .int .i64 b1, .int .i64 b2, .int .i64 b3, .int .i64 c0, .int .i64 c1, .int .i64 c2, .int .i64 c3] 55)) := (Ext.refl w).alloc _ _
  have B2 := Blk.new w #[.int .i64 g0, .int .i64 g1, .int .i64 g2, .int .i64 g3, .int .i64 g4, .int .i64 g5, .int .i64 e0, .int .i64 e1, .int .i64 e2, .int .i64 n0, .int .i64 n1, .int .i64 n2, .int .i64 a0, .int .i64 a1, .int .i64 a2, .int .i64 a3, .int .i64 b0, .int .i64 b1, .int .i64 b2, .int .i64 b3, .int .i64 c0, .int .i64 c1, .int .i64 c2, .int .i64 c3] 55
  go_enter Try.func36, Try.ntmps36
  go_upto_region 1 with fail
  generalize (w.alloc (.cells #[.int .i64 g0, .int .i64 g1, .int .i64 g2, .int .i64 g3, .int .i64 g4, .int .i64 g5, .int .i64 e0, .int .i64 e1, .int .i64 e2, .int .i64 n0, .int .i64 n1, .int .i64 n2, .int .i64 a0, .int .i64 a1, .int .i64 a2, .int .i64 a3, .int .i64 b0, .int .i64 b1, .int .i64 b2, .int .i64 b3, .int .i64 c0, .int .i64 c1, .int .i64 c2, .int .i64 c3] 55)) = w1 at *
  apply wp_region_vars [false, false, false, false, false, false, false, false, false, false, false, false, false, false, false, false, false, true, true] [] [⟨some 17, 5, 0, some 18, 59, #[.int .i64 0, .int .i64 0, .int .i64 0, .int .i64 0, .int .i64 0, .int .i64 0, .int .i64 0, .int .i64 0], #[.int .i64 g0, .int .i64 g1, .int .i64 e0, .int .i64 n0, .int .i64 a0, .int .i64 a1, .int .i64 a2, .int .i64 a3]⟩] _ (by kernel_rfl) (by kernel_rfl) (by kernel_rfl)
  case H =>
    intro y0 hy0
    have hne : Nonempty (Wx y0) := ⟨⟨y0, Ext.refl y0⟩⟩
    have qB := fun (t : Wx y0) => ((B2.calm hy0 (by simp)).ext t.ext).cell
    simp only [eraseM]
    repeat (go_big_quiet_step (fail))
    exact wpQuiet_nil rfl
  case hok =>
    simp only [List.forall_mem_cons, List.not_mem_nil, false_implies, implies_true, and_true]
    exact tgt_fresh (by simp) rfl rfl mkCnr rfl rfl rfl rfl (by kernel_rfl) (by kernel_rfl) rfl
  case hdis =>
    intro k k' t t' hk hk' hkk ha ha'
    exfalso
    have h1 : k < 1 := (List.getElem?_eq_some_iff.1 hk).1
    have h2 : k' < 1 := (List.getElem?_eq_some_iff.1 hk').1
    omega
  rintro w2 f hw ⟨k0, l0, d0, u0, -⟩
  have xx := xx.trans hw.ext
  have B2 := B2.calm hw (by simp)
  simp only [pairs, putAll, Option.isSome_some, if_true, Act.put, List.setIfInBounds_toArray, List.set_cons_succ, List.set_cons_zero]
  generalize f 0 = z5 at *
  have B5 : Blk w2 z5 #[.int .i64 g0, .int .i64 g1, .int .i64 e0, .int .i64 n0, .int .i64 a0, .int .i64 a1, .int .i64 a2, .int .i64 a3] 59 := d0
  clear k0 l0 d0 u0 hw
  go_upto_region 2 with fail
  apply wp_region_reads2 _ (by kernel_rfl) (by kernel_rfl)
  case H =>
    intro y0 hy0
    have hne : Nonempty (Wx y0) := ⟨⟨y0, Ext.refl y0⟩⟩
    have qB := fun (t : Wx y0) => (B2.ext (hy0.trans t.ext)).cell
    have q5 := fun (t : Wx y0) => (B5.ext (hy0.trans t.ext)).cell
    repeat (go_big_quiet_step ((go_at_call 32; with_reducible exact calm_of (HL.out _))))
    exact wpQuiet_nil rfl
  intro w3 x3
  have xx := xx.trans x3
  clear x3 B2 B5
  go_wp2
  go_ret
  exact ⟨by first | rfl | simp, xx⟩
set_option maxRecDepth 100000 in
set_option maxHeartbeats 4000000 in
theorem rng_ne0 (g0 g1 g2 g3 g4 g5 e0 e1 e2 n0 n1 n2 a0 a1 a2 a3 b0 b1 b2 b3 c0 c1 c2 c3 q0 q1 q2 q3 q4 q5 q6 q7 : Int) (hL : ∀ u : World, Calls Try.prog 32 #[.agg #[.int .i64 g0, .int .i64 g1, .int .i64 e0, .int .i64 n0, .int .i64 a0, .int .i64 a1, .int .i64 a2, .int .i64 a3]] u fun e w' => e = .returned (.agg #[.int .i64 q0, .int .i64 q1, .int .i64 q2, .int .i64 q3, .int .i64 q4, .int .i64 q5, .int .i64 q6, .int .i64 q7]) ∧ Ext u w') (hne : ¬ (g0 = q0 ∧ g1 = q1 ∧ e0 = q2 ∧ n0 = q3 ∧ a0 = q4 ∧ a1 = q5 ∧ a2 = q6 ∧ a3 = q7)) (w : World) :
    Calls Try.prog 36 #[.agg #[.int .i64 g0, .int .i64 g1, .int .i64 g2, .int .i64 g3, .int .i64 g4, .int .i64 g5, .int .i64 e0, .int .i64 e1, .int .i64 e2, .int .i64 n0, .int .i64 n1, .int .i64 n2, .int .i64 a0, .int .i64 a1, .int .i64 a2, .int .i64 a3, .int .i64 b0, .int .i64 b1, .int .i64 b2, .int .i64 b3, .int .i64 c0, .int .i64 c1, .int .i64 c2, .int .i64 c3], .int .i64 0] w fun e w' => e = .returned (.bool false) ∧ Ext w w' := by
  have HL := Lib.hid hL
  clear hL
  have hE : ∀ u : World, (Op.equalIn 10000 59 (.agg #[.int .i64 g0, .int .i64 g1, .int .i64 e0, .int .i64 n0, .int .i64 a0, .int .i64 a1, .int .i64 a2, .int .i64 a3]) (.agg #[.int .i64 q0, .int .i64 q1, .int .i64 q2, .int .i64 q3, .int .i64 q4, .int .i64 q5, .int .i64 q6, .int .i64 q7])).run Try.prog u = .ok false u := by
    intro u
    rw [eqCn2]
    rw [decide_eq_false hne]
  have xx : Ext w (w.alloc (.cells #[.int .i64 g0, .int .i64 g1, .int .i64 g2, .int .i64 g3, .int .i64 g4, .int .i64 g5, .int .i64 e0, .int .i64 e1, .int .i64 e2, .int .i64 n0, .int .i64 n1, .int .i64 n2, .int .i64 a0, .int .i64 a1, .int .i64 a2, .int .i64 a3, .int .i64 b0, .int .i64 b1, .int .i64 b2, .int .i64 b3, .int .i64 c0, .int .i64 c1, .int .i64 c2, .int .i64 c3] 55)) := (Ext.refl w).alloc _ _
  have B2 := Blk.new w #[.int .i64 g0, .int .i64 g1, .int .i64 g2, .int .i64 g3, .int .i64 g4, .int .i64 g5, .int .i64 e0, .int .i64 e1, .int .i64 e2, .int .i64 n0, .int .i64 n1, .int .i64 n2, .int .i64 a0, .int .i64 a1, .int .i64 a2, .int .i64 a3, .int .i64 b0, .int .i64 b1, .int .i64 b2, .int .i64 b3, .int .i64 c0, .int .i64 c1, .int .i64 c2, .int .i64 c3] 55
  go_enter Try.func36, Try.ntmps36
  go_upto_region 1 with fail
  generalize (w.alloc (.cells #[.int .i64 g0, .int .i64 g1, .int .i64 g2, .int .i64 g3, .int .i64 g4, .int .i64 g5, .int .i64 e0, .int .i64 e1, .int .i64 e2, .int .i64 n0, .int .i64 n1, .int .i64 n2, .int .i64 a0, .int .i64 a1, .int .i64 a2, .int .i64 a3, .int .i64 b0, .int .i64 b1, .int .i64 b2, .int .i64 b3, .int .i64 c0, .int .i64 c1, .int .i64 c2, .int .i64 c3] 55)) = w1 at *
  apply wp_region_vars [false, false, false, false, false, false, false, false, false, false, false, false, false, false, false, false, false, true, true] [] [⟨some 17, 5, 0, some 18, 59, #[.int .i64 0, .int .i64 0, .int .i64 0, .int .i64 0, .int .i64 0, .int .i64 0, .int .i64 0, .int .i64 0], #[.int .i64 g0, .int .i64 g1, .int .i64 e0, .int .i64 n0, .int .i64 a0, .int .i64 a1, .int .i64 a2, .int .i64 a3]⟩] _ (by kernel_rfl) (by kernel_rfl) (by kernel_rfl)
  case H =>
    intro y0 hy0
    have hne : Nonempty (Wx y0) := ⟨⟨y0, Ext.refl y0⟩⟩
    have qB := fun (t : Wx y0) => ((B2.calm hy0 (by simp)).ext t.ext).cell
    simp only [eraseM]
    repeat (go_big_quiet_step (fail))
    exact wpQuiet_nil rfl
  case hok =>
    simp only [List.forall_mem_cons, List.not_mem_nil, false_implies, implies_true, and_true]
    exact tgt_fresh (by simp) rfl rfl mkCnr rfl rfl rfl rfl (by kernel_rfl) (by kernel_rfl) rfl
  case hdis =>
    intro k k' t t' hk hk' hkk ha ha'
    exfalso
    have h1 : k < 1 := (List.getElem?_eq_some_iff.1 hk).1
    have h2 : k' < 1 := (List.getElem?_eq_some_iff.1 hk').1
    omega
  rintro w2 f hw ⟨k0, l0, d0, u0, -⟩
  have xx := xx.trans hw.ext
  have B2 := B2.calm hw (by simp)
  simp only [pairs, putAll, Option.isSome_some, if_true, Act.put, List.setIfInBounds_toArray, List.set_cons_succ, List.set_cons_zero]
  generalize f 0 = z5 at *
  have B5 : Blk w2 z5 #[.int .i64 g0, .int .i64 g1, .int .i64 e0, .int .i64 n0, .int .i64 a0, .int .i64 a1, .int .i64 a2, .int .i64 a3] 59 := d0
  clear k0 l0 d0 u0 hw
  go_upto_region 2 with fail
  apply wp_region_reads2 _ (by kernel_rfl) (by kernel_rfl)
  case H =>
    intro y0 hy0
    have hne : Nonempty (Wx y0) := ⟨⟨y0, Ext.refl y0⟩⟩
    have qB := fun (t : Wx y0) => (B2.ext (hy0.trans t.ext)).cell
    have q5 := fun (t : Wx y0) => (B5.ext (hy0.trans t.ext)).cell
    repeat (go_big_quiet_step ((go_at_call 32; with_reducible exact calm_of (HL.out _))))
    exact wpQuiet_nil rfl
  intro w3 x3
  have xx := xx.trans x3
  clear x3 B2 B5
  go_wp2
  go_ret
  exact ⟨by first | rfl | simp, xx⟩
set_option maxRecDepth 100000 in
set_option maxHeartbeats 4000000 in
theorem rng_eq1 (g0 g1 g2 g3 g4 g5 e0 e1 e2 n0 n1 n2 a0 a1 a2 a3 b0 b1 b2 b3 c0 c1 c2 c3 : Int) (hL : ∀ u : World, Calls Try.prog 32 #[.agg #[.int .i64 g2, .int .i64 g3, .int .i64 e1, .int .i64 n1, .int .i64 b0, .int .i64 b1, .int .i64 b2, .int .i64 b3]] u fun e w' => e = .returned (.agg #[.int .i64 g2, .int .i64 g3, .int .i64 e1, .int .i64 n1, .int .i64 b0, .int .i64 b1, .int .i64 b2, .int .i64 b3]) ∧ Ext u w')  (w : World) :
    Calls Try.prog 36 #[.agg #[.int .i64 g0, .int .i64 g1, .int .i64 g2, .int .i64 g3, .int .i64 g4, .int .i64 g5, .int .i64 e0, .int .i64 e1, .int .i64 e2, .int .i64 n0, .int .i64 n1, .int .i64 n2, .int .i64 a0, .int .i64 a1, .int .i64 a2, .int .i64 a3, .int .i64 b0, .int .i64 b1, .int .i64 b2, .int .i64 b3, .int .i64 c0, .int .i64 c1, .int .i64 c2, .int .i64 c3], .int .i64 1] w fun e w' => e = .returned (.bool (decide (n1 ≤ 1024))) ∧ Ext w w' := by
  have HL := Lib.hid hL
  clear hL
  have hE : ∀ u : World, (Op.equalIn 10000 59 (.agg #[.int .i64 g2, .int .i64 g3, .int .i64 e1, .int .i64 n1, .int .i64 b0, .int .i64 b1, .int .i64 b2, .int .i64 b3]) (.agg #[.int .i64 g2, .int .i64 g3, .int .i64 e1, .int .i64 n1, .int .i64 b0, .int .i64 b1, .int .i64 b2, .int .i64 b3])).run Try.prog u = .ok true u := by
    intro u
    rw [eqCn2]
    simp
  have xx : Ext w (w.alloc (.cells #[.int .i64 g0, .int .i64 g1, .int .i64 g2, .int .i64 g3, .int .i64 g4, .int .i64 g5, .int .i64 e0, .int .i64 e1, .int .i64 e2, .int .i64 n0, .int .i64 n1, .int .i64 n2, .int .i64 a0, .int .i64 a1, .int .i64 a2, .int .i64 a3, .int .i64 b0, .int .i64 b1, .int .i64 b2, .int .i64 b3, .int .i64 c0, .int .i64 c1, .int .i64 c2, .int .i64 c3] 55)) := (Ext.refl w).alloc _ _
  have B2 := Blk.new w #[.int .i64 g0, .int .i64 g1, .int .i64 g2, .int .i64 g3, .int .i64 g4, .int .i64 g5, .int .i64 e0, .int .i64 e1, .int .i64 e2, .int .i64 n0, .int .i64 n1, .int .i64 n2, .int .i64 a0, .int .i64 a1, .int .i64 a2, .int .i64 a3, .int .i64 b0, .int .i64 b1, .int .i64 b2, .int .i64 b3, .int .i64 c0, .int .i64 c1, .int .i64 c2, .int .i64 c3] 55
  go_enter Try.func36, Try.ntmps36
  go_upto_region 1 with fail
  generalize (w.alloc (.cells #[.int .i64 g0, .int .i64 g1, .int .i64 g2, .int .i64 g3, .int .i64 g4, .int .i64 g5, .int .i64 e0, .int .i64 e1, .int .i64 e2, .int .i64 n0, .int .i64 n1, .int .i64 n2, .int .i64 a0, .int .i64 a1, .int .i64 a2, .int .i64 a3, .int .i64 b0, .int .i64 b1, .int .i64 b2, .int .i64 b3, .int .i64 c0, .int .i64 c1, .int .i64 c2, .int .i64 c3] 55)) = w1 at *
  apply wp_region_vars [false, false, false, false, false, false, false, false, false, false, false, false, false, false, false, false, false, true, true] [] [⟨some 17, 5, 0, some 18, 59, #[.int .i64 0, .int .i64 0, .int .i64 0, .int .i64 0, .int .i64 0, .int .i64 0, .int .i64 0, .int .i64 0], #[.int .i64 g2, .int .i64 g3, .int .i64 e1, .int .i64 n1, .int .i64 b0, .int .i64 b1, .int .i64 b2, .int .i64 b3]⟩] _ (by kernel_rfl) (by kernel_rfl) (by kernel_rfl)
  case H =>
    intro y0 hy0
    have hne : Nonempty (Wx y0) := ⟨⟨y0, Ext.refl y0⟩⟩
    have qB := fun (t : Wx y0) => ((B2.calm hy0 (by simp)).ext t.ext).cell
    simp only [eraseM]
    repeat (go_big_quiet_step (fail))
    exact wpQuiet_nil rfl
  case hok =>
    simp only [List.forall_mem_cons, List.not_mem_nil, false_implies, implies_true, and_true]
    exact tgt_fresh (by simp) rfl rfl mkCnr rfl rfl rfl rfl (by kernel_rfl) (by kernel_rfl) rfl
  case hdis =>
    intro k k' t t' hk hk' hkk ha ha'
    exfalso
    have h1 : k < 1 := (List.getElem?_eq_some_iff.1 hk).1
    have h2 : k' < 1 := (List.getElem?_eq_some_iff.1 hk').1
    omega
  rintro w2 f hw ⟨k0, l0, d0, u0, -⟩
  have xx := xx.trans hw.ext
  have B2 := B2.calm hw (by simp)
  simp only [pairs, putAll, Option.isSome_some, if_true, Act.put, List.setIfInBounds_toArray, List.set_cons_succ, List.set_cons_zero]
  generalize f 0 = z5 at *
  have B5 : Blk w2 z5 #[.int .i64 g2, .int .i64 g3, .int .i64 e1, .int .i64 n1, .int .i64 b0, .int .i64 b1, .int .i64 b2, .int .i64 b3] 59 := d0
  clear k0 l0 d0 u0 hw
  go_upto_region 2 with fail
  apply wp_region_reads2 _ (by kernel_rfl) (by kernel_rfl)
  case H =>
    intro y0 hy0
    have hne : Nonempty (Wx y0) := ⟨⟨y0, Ext.refl y0⟩⟩
    have qB := fun (t : Wx y0) => (B2.ext (hy0.trans t.ext)).cell
    have q5 := fun (t : Wx y0) => (B5.ext (hy0.trans t.ext)).cell
    repeat (go_big_quiet_step ((go_at_call 32; with_reducible exact calm_of (HL.out _))))
    exact wpQuiet_nil rfl
  intro w3 x3
  have xx := xx.trans x3
  clear x3 B2 B5
  go_wp2
  go_ret
  exact ⟨by first | rfl | simp, xx⟩
set_option maxRecDepth 100000 in
set_option maxHeartbeats 4000000 in
theorem rng_ne1 (g0 g1 g2 g3 g4 g5 e0 e1 e2 n0 n1 n2 a0 a1 a2 a3 b0 b1 b2 b3 c0 c1 c2 c3 q0 q1 q2 q3 q4 q5 q6 q7 : Int) (hL : ∀ u : World, Calls Try.prog 32 #[.agg #[.int .i64 g2, .int .i64 g3, .int .i64 e1, .int .i64 n1, .int .i64 b0, .int .i64 b1, .int .i64 b2, .int .i64 b3]] u fun e w' => e = .returned (.agg #[.int .i64 q0, .int .i64 q1, .int .i64 q2, .int .i64 q3, .int .i64 q4, .int .i64 q5, .int .i64 q6, .int .i64 q7]) ∧ Ext u w') (hne : ¬ (g2 = q0 ∧ g3 = q1 ∧ e1 = q2 ∧ n1 = q3 ∧ b0 = q4 ∧ b1 = q5 ∧ b2 = q6 ∧ b3 = q7)) (w : World) :
    Calls Try.prog 36 #[.agg #[.int .i64 g0, .int .i64 g1, .int .i64 g2, .int .i64 g3, .int .i64 g4, .int .i64 g5, .int .i64 e0, .int .i64 e1, .int .i64 e2, .int .i64 n0, .int .i64 n1, .int .i64 n2, .int .i64 a0, .int .i64 a1, .int .i64 a2, .int .i64 a3, .int .i64 b0, .int .i64 b1, .int .i64 b2, .int .i64 b3, .int .i64 c0, .int .i64 c1, .int .i64 c2, .int .i64 c3], .int .i64 1] w fun e w' => e = .returned (.bool false) ∧ Ext w w' := by
  have HL := Lib.hid hL
  clear hL
  have hE : ∀ u : World, (Op.equalIn 10000 59 (.agg #[.int .i64 g2, .int .i64 g3, .int .i64 e1, .int .i64 n1, .int .i64 b0, .int .i64 b1, .int .i64 b2, .int .i64 b3]) (.agg #[.int .i64 q0, .int .i64 q1, .int .i64 q2, .int .i64 q3, .int .i64 q4, .int .i64 q5, .int .i64 q6, .int .i64 q7])).run Try.prog u = .ok false u := by
    intro u
    rw [eqCn2]
    rw [decide_eq_false hne]
  have xx : Ext w (w.alloc (.cells #[.int .i64 g0, .int .i64 g1, .int .i64 g2, .int .i64 g3, .int .i64 g4, .int .i64 g5, .int .i64 e0, .int .i64 e1, .int .i64 e2, .int .i64 n0, .int .i64 n1, .int .i64 n2, .int .i64 a0, .int .i64 a1, .int .i64 a2, .int .i64 a3, .int .i64 b0, .int .i64 b1, .int .i64 b2, .int .i64 b3, .int .i64 c0, .int .i64 c1, .int .i64 c2, .int .i64 c3] 55)) := (Ext.refl w).alloc _ _
  have B2 := Blk.new w #[.int .i64 g0, .int .i64 g1, .int .i64 g2, .int .i64 g3, .int .i64 g4, .int .i64 g5, .int .i64 e0, .int .i64 e1, .int .i64 e2, .int .i64 n0, .int .i64 n1, .int .i64 n2, .int .i64 a0, .int .i64 a1, .int .i64 a2, .int .i64 a3, .int .i64 b0, .int .i64 b1, .int .i64 b2, .int .i64 b3, .int .i64 c0, .int .i64 c1, .int .i64 c2, .int .i64 c3] 55
  go_enter Try.func36, Try.ntmps36
  go_upto_region 1 with fail
  generalize (w.alloc (.cells #[.int .i64 g0, .int .i64 g1, .int .i64 g2, .int .i64 g3, .int .i64 g4, .int .i64 g5, .int .i64 e0, .int .i64 e1, .int .i64 e2, .int .i64 n0, .int .i64 n1, .int .i64 n2, .int .i64 a0, .int .i64 a1, .int .i64 a2, .int .i64 a3, .int .i64 b0, .int .i64 b1, .int .i64 b2, .int .i64 b3, .int .i64 c0, .int .i64 c1, .int .i64 c2, .int .i64 c3] 55)) = w1 at *
  apply wp_region_vars [false, false, false, false, false, false, false, false, false, false, false, false, false, false, false, false, false, true, true] [] [⟨some 17, 5, 0, some 18, 59, #[.int .i64 0, .int .i64 0, .int .i64 0, .int .i64 0, .int .i64 0, .int .i64 0, .int .i64 0, .int .i64 0], #[.int .i64 g2, .int .i64 g3, .int .i64 e1, .int .i64 n1, .int .i64 b0, .int .i64 b1, .int .i64 b2, .int .i64 b3]⟩] _ (by kernel_rfl) (by kernel_rfl) (by kernel_rfl)
  case H =>
    intro y0 hy0
    have hne : Nonempty (Wx y0) := ⟨⟨y0, Ext.refl y0⟩⟩
    have qB := fun (t : Wx y0) => ((B2.calm hy0 (by simp)).ext t.ext).cell
    simp only [eraseM]
    repeat (go_big_quiet_step (fail))
    exact wpQuiet_nil rfl
  case hok =>
    simp only [List.forall_mem_cons, List.not_mem_nil, false_implies, implies_true, and_true]
    exact tgt_fresh (by simp) rfl rfl mkCnr rfl rfl rfl rfl (by kernel_rfl) (by kernel_rfl) rfl
  case hdis =>
    intro k k' t t' hk hk' hkk ha ha'
    exfalso
    have h1 : k < 1 := (List.getElem?_eq_some_iff.1 hk).1
    have h2 : k' < 1 := (List.getElem?_eq_some_iff.1 hk').1
    omega
  rintro w2 f hw ⟨k0, l0, d0, u0, -⟩
  have xx := xx.trans hw.ext
  have B2 := B2.calm hw (by simp)
  simp only [pairs, putAll, Option.isSome_some, if_true, Act.put, List.setIfInBounds_toArray, List.set_cons_succ, List.set_cons_zero]
  generalize f 0 = z5 at *
  have B5 : Blk w2 z5 #[.int .i64 g2, .int .i64 g3, .int .i64 e1, .int .i64 n1, .int .i64 b0, .int .i64 b1, .int .i64 b2, .int .i64 b3] 59 := d0
  clear k0 l0 d0 u0 hw
  go_upto_region 2 with fail
  apply wp_region_reads2 _ (by kernel_rfl) (by kernel_rfl)
  case H =>
    intro y0 hy0
    have hne : Nonempty (Wx y0) := ⟨⟨y0, Ext.refl y0⟩⟩
    have qB := fun (t : Wx y0) => (B2.ext (hy0.trans t.ext)).cell
    have q5 := fun (t : Wx y0) => (B5.ext (hy0.trans t.ext)).cell
    repeat (go_big_quiet_step ((go_at_call 32; with_reducible exact calm_of (HL.out _))))
    exact wpQuiet_nil rfl
  intro w3 x3
  have xx := xx.trans x3
  clear x3 B2 B5
  go_wp2
  go_ret
  exact ⟨by first | rfl | simp, xx⟩
set_option maxRecDepth 100000 in
set_option maxHeartbeats 4000000 in
theorem rng_eq2 (g0 g1 g2 g3 g4 g5 e0 e1 e2 n0 n1 n2 a0 a1 a2 a3 b0 b1 b2 b3 c0 c1 c2 c3 : Int) (hL : ∀ u : World, Calls Try.prog 32 #[.agg #[.int .i64 g4, .int .i64 g5, .int .i64 e2, .int .i64 n2, .int .i64 c0, .int .i64 c1, .int .i64 c2, .int .i64 c3]] u fun e w' => e = .returned (.agg #[.int .i64 g4, .int .i64 g5, .int .i64 e2, .int .i64 n2, .int .i64 c0, .int .i64 c1, .int .i64 c2, .int .i64 c3]) ∧ Ext u w')  (w : World) :
    Calls Try.prog 36 #[.agg #[.int .i64 g0, .int .i64 g1, .int .i64 g2, .int .i64 g3, .int .i64 g4, .int .i64 g5, .int .i64 e0, .int .i64 e1, .int .i64 e2, .int .i64 n0, .int .i64 n1, .int .i64 n2, .int .i64 a0, .int .i64 a1, .int .i64 a2, .int .i64 a3, .int .i64 b0, .int .i64 b1, .int .i64 b2, .int .i64 b3, .int .i64 c0, .int .i64 c1, .int .i64 c2, .int .i64 c3], .int .i64 2] w fun e w' => e = .returned (.bool (decide (n2 ≤ 1024))) ∧ Ext w w' := by
  have HL := Lib.hid hL
  clear hL
  have hE : ∀ u : World, (Op.equalIn 10000 59 (.agg #[.int .i64 g4, .int .i64 g5, .int .i64 e2, .int .i64 n2, .int .i64 c0, .int .i64 c1, .int .i64 c2, .int .i64 c3]) (.agg #[.int .i64 g4, .int .i64 g5, .int .i64 e2, .int .i64 n2, .int .i64 c0, .int .i64 c1, .int .i64 c2, .int .i64 c3])).run Try.prog u = .ok true u := by
    intro u
    rw [eqCn2]
    simp
  have xx : Ext w (w.alloc (.cells #[.int .i64 g0, .int .i64 g1, .int .i64 g2, .int .i64 g3, .int .i64 g4, .int .i64 g5, .int .i64 e0, .int .i64 e1, .int .i64 e2, .int .i64 n0, .int .i64 n1, .int .i64 n2, .int .i64 a0, .int .i64 a1, .int .i64 a2, .int .i64 a3, .int .i64 b0, .int .i64 b1, .int .i64 b2, .int .i64 b3, .int .i64 c0, .int .i64 c1, .int .i64 c2, .int .i64 c3] 55)) := (Ext.refl w).alloc _ _
  have B2 := Blk.new w #[.int .i64 g0, .int .i64 g1, .int .i64 g2, .int .i64 g3, .int .i64 g4, .int .i64 g5, .int .i64 e0, .int .i64 e1, .int .i64 e2, .int .i64 n0, .int .i64 n1, .int .i64 n2, .int .i64 a0, .int .i64 a1, .int .i64 a2, .int .i64 a3, .int .i64 b0, .int .i64 b1, .int .i64 b2, .int .i64 b3, .int .i64 c0, .int .i64 c1, .int .i64 c2, .int .i64 c3] 55
  go_enter Try.func36, Try.ntmps36
  go_upto_region 1 with fail
  generalize (w.alloc (.cells #[.int .i64 g0, .int .i64 g1, .int .i64 g2, .int .i64 g3, .int .i64 g4, .int .i64 g5, .int .i64 e0, .int .i64 e1, .int .i64 e2, .int .i64 n0, .int .i64 n1, .int .i64 n2, .int .i64 a0, .int .i64 a1, .int .i64 a2, .int .i64 a3, .int .i64 b0, .int .i64 b1, .int .i64 b2, .int .i64 b3, .int .i64 c0, .int .i64 c1, .int .i64 c2, .int .i64 c3] 55)) = w1 at *
  apply wp_region_vars [false, false, false, false, false, false, false, false, false, false, false, false, false, false, false, false, false, true, true] [] [⟨some 17, 5, 0, some 18, 59, #[.int .i64 0, .int .i64 0, .int .i64 0, .int .i64 0, .int .i64 0, .int .i64 0, .int .i64 0, .int .i64 0], #[.int .i64 g4, .int .i64 g5, .int .i64 e2, .int .i64 n2, .int .i64 c0, .int .i64 c1, .int .i64 c2, .int .i64 c3]⟩] _ (by kernel_rfl) (by kernel_rfl) (by kernel_rfl)
  case H =>
    intro y0 hy0
    have hne : Nonempty (Wx y0) := ⟨⟨y0, Ext.refl y0⟩⟩
    have qB := fun (t : Wx y0) => ((B2.calm hy0 (by simp)).ext t.ext).cell
    simp only [eraseM]
    repeat (go_big_quiet_step (fail))
    exact wpQuiet_nil rfl
  case hok =>
    simp only [List.forall_mem_cons, List.not_mem_nil, false_implies, implies_true, and_true]
    exact tgt_fresh (by simp) rfl rfl mkCnr rfl rfl rfl rfl (by kernel_rfl) (by kernel_rfl) rfl
  case hdis =>
    intro k k' t t' hk hk' hkk ha ha'
    exfalso
    have h1 : k < 1 := (List.getElem?_eq_some_iff.1 hk).1
    have h2 : k' < 1 := (List.getElem?_eq_some_iff.1 hk').1
    omega
  rintro w2 f hw ⟨k0, l0, d0, u0, -⟩
  have xx := xx.trans hw.ext
  have B2 := B2.calm hw (by simp)
  simp only [pairs, putAll, Option.isSome_some, if_true, Act.put, List.setIfInBounds_toArray, List.set_cons_succ, List.set_cons_zero]
  generalize f 0 = z5 at *
  have B5 : Blk w2 z5 #[.int .i64 g4, .int .i64 g5, .int .i64 e2, .int .i64 n2, .int .i64 c0, .int .i64 c1, .int .i64 c2, .int .i64 c3] 59 := d0
  clear k0 l0 d0 u0 hw
  go_upto_region 2 with fail
  apply wp_region_reads2 _ (by kernel_rfl) (by kernel_rfl)
  case H =>
    intro y0 hy0
    have hne : Nonempty (Wx y0) := ⟨⟨y0, Ext.refl y0⟩⟩
    have qB := fun (t : Wx y0) => (B2.ext (hy0.trans t.ext)).cell
    have q5 := fun (t : Wx y0) => (B5.ext (hy0.trans t.ext)).cell
    repeat (go_big_quiet_step ((go_at_call 32; with_reducible exact calm_of (HL.out _))))
    exact wpQuiet_nil rfl
  intro w3 x3
  have xx := xx.trans x3
  clear x3 B2 B5
  go_wp2
  go_ret
  exact ⟨by first | rfl | simp, xx⟩
set_option maxRecDepth 100000 in
set_option maxHeartbeats 4000000 in
theorem rng_ne2 (g0 g1 g2 g3 g4 g5 e0 e1 e2 n0 n1 n2 a0 a1 a2 a3 b0 b1 b2 b3 c0 c1 c2 c3 q0 q1 q2 q3 q4 q5 q6 q7 : Int) (hL : ∀ u : World, Calls Try.prog 32 #[.agg #[.int .i64 g4, .int .i64 g5, .int .i64 e2, .int .i64 n2, .int .i64 c0, .int .i64 c1, .int .i64 c2, .int .i64 c3]] u fun e w' => e = .returned (.agg #[.int .i64 q0, .int .i64 q1, .int .i64 q2, .int .i64 q3, .int .i64 q4, .int .i64 q5, .int .i64 q6, .int .i64 q7]) ∧ Ext u w') (hne : ¬ (g4 = q0 ∧ g5 = q1 ∧ e2 = q2 ∧ n2 = q3 ∧ c0 = q4 ∧ c1 = q5 ∧ c2 = q6 ∧ c3 = q7)) (w : World) :
    Calls Try.prog 36 #[.agg #[.int .i64 g0, .int .i64 g1, .int .i64 g2, .int .i64 g3, .int .i64 g4, .int .i64 g5, .int .i64 e0, .int .i64 e1, .int .i64 e2, .int .i64 n0, .int .i64 n1, .int .i64 n2, .int .i64 a0, .int .i64 a1, .int .i64 a2, .int .i64 a3, .int .i64 b0, .int .i64 b1, .int .i64 b2, .int .i64 b3, .int .i64 c0, .int .i64 c1, .int .i64 c2, .int .i64 c3], .int .i64 2] w fun e w' => e = .returned (.bool false) ∧ Ext w w' := by
  have HL := Lib.hid hL
  clear hL
  have hE : ∀ u : World, (Op.equalIn 10000 59 (.agg #[.int .i64 g4, .int .i64 g5, .int .i64 e2, .int .i64 n2, .int .i64 c0, .int .i64 c1, .int .i64 c2, .int .i64 c3]) (.agg #[.int .i64 q0, .int .i64 q1, .int .i64 q2, .int .i64 q3, .int .i64 q4, .int .i64 q5, .int .i64 q6, .int .i64 q7])).run Try.prog u = .ok false u := by
    intro u
    rw [eqCn2]
    rw [decide_eq_false hne]
  have xx : Ext w (w.alloc (.cells #[.int .i64 g0, .int .i64 g1, .int .i64 g2, .int .i64 g3, .int .i64 g4, .int .i64 g5, .int .i64 e0, .int .i64 e1, .int .i64 e2, .int .i64 n0, .int .i64 n1, .int .i64 n2, .int .i64 a0, .int .i64 a1, .int .i64 a2, .int .i64 a3, .int .i64 b0, .int .i64 b1, .int .i64 b2, .int .i64 b3, .int .i64 c0, .int .i64 c1, .int .i64 c2, .int .i64 c3] 55)) := (Ext.refl w).alloc _ _
  have B2 := Blk.new w #[.int .i64 g0, .int .i64 g1, .int .i64 g2, .int .i64 g3, .int .i64 g4, .int .i64 g5, .int .i64 e0, .int .i64 e1, .int .i64 e2, .int .i64 n0, .int .i64 n1, .int .i64 n2, .int .i64 a0, .int .i64 a1, .int .i64 a2, .int .i64 a3, .int .i64 b0, .int .i64 b1, .int .i64 b2, .int .i64 b3, .int .i64 c0, .int .i64 c1, .int .i64 c2, .int .i64 c3] 55
  go_enter Try.func36, Try.ntmps36
  go_upto_region 1 with fail
  generalize (w.alloc (.cells #[.int .i64 g0, .int .i64 g1, .int .i64 g2, .int .i64 g3, .int .i64 g4, .int .i64 g5, .int .i64 e0, .int .i64 e1, .int .i64 e2, .int .i64 n0, .int .i64 n1, .int .i64 n2, .int .i64 a0, .int .i64 a1, .int .i64 a2, .int .i64 a3, .int .i64 b0, .int .i64 b1, .int .i64 b2, .int .i64 b3, .int .i64 c0, .int .i64 c1, .int .i64 c2, .int .i64 c3] 55)) = w1 at *
  apply wp_region_vars [false, false, false, false, false, false, false, false, false, false, false, false, false, false, false, false, false, true, true] [] [⟨some 17, 5, 0, some 18, 59, #[.int .i64 0, .int .i64 0, .int .i64 0, .int .i64 0, .int .i64 0, .int .i64 0, .int .i64 0, .int .i64 0], #[.int .i64 g4, .int .i64 g5, .int .i64 e2, .int .i64 n2, .int .i64 c0, .int .i64 c1, .int .i64 c2, .int .i64 c3]⟩] _ (by kernel_rfl) (by kernel_rfl) (by kernel_rfl)
  case H =>
    intro y0 hy0
    have hne : Nonempty (Wx y0) := ⟨⟨y0, Ext.refl y0⟩⟩
    have qB := fun (t : Wx y0) => ((B2.calm hy0 (by simp)).ext t.ext).cell
    simp only [eraseM]
    repeat (go_big_quiet_step (fail))
    exact wpQuiet_nil rfl
  case hok =>
    simp only [List.forall_mem_cons, List.not_mem_nil, false_implies, implies_true, and_true]
    exact tgt_fresh (by simp) rfl rfl mkCnr rfl rfl rfl rfl (by kernel_rfl) (by kernel_rfl) rfl
  case hdis =>
    intro k k' t t' hk hk' hkk ha ha'
    exfalso
    have h1 : k < 1 := (List.getElem?_eq_some_iff.1 hk).1
    have h2 : k' < 1 := (List.getElem?_eq_some_iff.1 hk').1
    omega
  rintro w2 f hw ⟨k0, l0, d0, u0, -⟩
  have xx := xx.trans hw.ext
  have B2 := B2.calm hw (by simp)
  simp only [pairs, putAll, Option.isSome_some, if_true, Act.put, List.setIfInBounds_toArray, List.set_cons_succ, List.set_cons_zero]
  generalize f 0 = z5 at *
  have B5 : Blk w2 z5 #[.int .i64 g4, .int .i64 g5, .int .i64 e2, .int .i64 n2, .int .i64 c0, .int .i64 c1, .int .i64 c2, .int .i64 c3] 59 := d0
  clear k0 l0 d0 u0 hw
  go_upto_region 2 with fail
  apply wp_region_reads2 _ (by kernel_rfl) (by kernel_rfl)
  case H =>
    intro y0 hy0
    have hne : Nonempty (Wx y0) := ⟨⟨y0, Ext.refl y0⟩⟩
    have qB := fun (t : Wx y0) => (B2.ext (hy0.trans t.ext)).cell
    have q5 := fun (t : Wx y0) => (B5.ext (hy0.trans t.ext)).cell
    repeat (go_big_quiet_step ((go_at_call 32; with_reducible exact calm_of (HL.out _))))
    exact wpQuiet_nil rfl
  intro w3 x3
  have xx := xx.trans x3
  clear x3 B2 B5
  go_wp2
  go_ret
  exact ⟨by first | rfl | simp, xx⟩
end Go.Proofs.Ytglehnmkdapnpaa

namespace Go.Proofs.Ytglehnmkdapnpaa
open Go.RowKit
set_option linter.unusedVariables false
abbrev Tr.k0 (t : Tr) : Cn := ⟨t.ax, t.ay, t.d0, t.n0, t.a0, t.a1, t.a2, t.a3⟩
abbrev Tr.k1 (t : Tr) : Cn := ⟨t.bx, t.by', t.d1, t.n1, t.b0, t.b1, t.b2, t.b3⟩
abbrev Tr.k2 (t : Tr) : Cn := ⟨t.cx, t.cy, t.d2, t.n2, t.c0, t.c1, t.c2, t.c3⟩
/-- a corner of a triangle that may be -/
def Cn.okR (c : Cn) : Prop := In (-16384) 16384 c.x ∧ In (-16384) 16384 c.y ∧ In 0 65535 c.d ∧ In 1 1024 c.f ∧ In 0 65536 c.c0 ∧ In 0 65536 c.c1 ∧ In 0 65536 c.c2 ∧ In 0 65536 c.c3
instance (c : Cn) : Decidable c.okR := by unfold Cn.okR; infer_instance
def Cn.still (c : Cn) : Prop := c.x = nr c.x ∧ c.y = nr c.y ∧ c.d = dep c.d ∧ c.f = farB c.f ∧ c.c0 = limC c.c0 ∧ c.c1 = limC c.c1 ∧ c.c2 = limC c.c2 ∧ c.c3 = limC c.c3
theorem okR_iff (c : Cn) : c.okR ↔ c.still ∧ c.f ≤ 1024 := by
  unfold Cn.okR Cn.still In nr dep bdI farB limC
  omega
theorem still_lim {c : Cn} (h : c.still) : c.lim = c := by
  obtain ⟨h0, h1, h2, h3, h4, h5, h6, h7⟩ := h
  unfold Cn.lim
  rw [← h0, ← h1, ← h2, ← h3, ← h4, ← h5, ← h6, ← h7]
theorem rng_iff (t : Tr) : t.rng ↔ t.k0.okR ∧ t.k1.okR ∧ t.k2.okR := by
  unfold Tr.rng Cn.okR
  constructor
  · rintro ⟨⟨p1, p2, p3, p4, p5, p6⟩, ⟨q1, q2, q3⟩, ⟨r1, r2, r3⟩, ⟨s1, s2, s3, s4⟩, ⟨u1, u2, u3, u4⟩, ⟨v1, v2, v3, v4⟩⟩
    exact ⟨⟨p1, p2, q1, r1, s1, s2, s3, s4⟩, ⟨p3, p4, q2, r2, u1, u2, u3, u4⟩, ⟨p5, p6, q3, r3, v1, v2, v3, v4⟩⟩
  · rintro ⟨⟨p1, p2, q1, r1, s1, s2, s3, s4⟩, ⟨p3, p4, q2, r2, u1, u2, u3, u4⟩, ⟨p5, p6, q3, r3, v1, v2, v3, v4⟩⟩
    exact ⟨⟨p1, p2, p3, p4, p5, p6⟩, ⟨q1, q2, q3⟩, ⟨r1, r2, r3⟩, ⟨s1, s2, s3, s4⟩, ⟨u1, u2, u3, u4⟩, ⟨v1, v2, v3, v4⟩⟩
theorem in64_k {t : Tr} (h : t.in64) : t.k0.in64 ∧ t.k1.in64 ∧ t.k2.in64 := by
  obtain ⟨p1, p2, p3, p4, p5, p6, q1, q2, q3, r1, r2, r3, s1, s2, s3, s4, u1, u2, u3, u4, v1, v2, v3, v4⟩ := h
  exact ⟨⟨p1, p2, q1, r1, s1, s2, s3, s4⟩, ⟨p3, p4, q2, r2, u1, u2, u3, u4⟩, ⟨p5, p6, q3, r3, v1, v2, v3, v4⟩⟩
theorem ranges0_any (t : Tr) (ht : t.in64) (w : World) : Calls Try.prog 36 #[.agg t.l.toArray, .int .i64 0] w fun e w' => e = .returned (.bool (decide t.k0.okR)) ∧ Ext w w' := by
  have hk := (in64_k ht).1
  have hL := fun u => slim_any t.k0 hk u
  by_cases hs : t.k0.still
  · rw [still_lim hs] at hL
    rw [show decide t.k0.okR = decide (t.n0 ≤ 1024) from decide_eq_decide.2 ⟨fun h => ((okR_iff _).1 h).2, fun h => (okR_iff _).2 ⟨hs, h⟩⟩]
    exact rng_eq0 t.ax t.ay t.bx t.by' t.cx t.cy t.d0 t.d1 t.d2 t.n0 t.n1 t.n2 t.a0 t.a1 t.a2 t.a3 t.b0 t.b1 t.b2 t.b3 t.c0 t.c1 t.c2 t.c3 hL w
  · rw [decide_eq_false (fun h => hs ((okR_iff _).1 h).1)]
    exact rng_ne0 t.ax t.ay t.bx t.by' t.cx t.cy t.d0 t.d1 t.d2 t.n0 t.n1 t.n2 t.a0 t.a1 t.a2 t.a3 t.b0 t.b1 t.b2 t.b3 t.c0 t.c1 t.c2 t.c3 _ _ _ _ _ _ _ _ hL hs w
theorem ranges1_any (t : Tr) (ht : t.in64) (w : World) : Calls Try.prog 36 #[.agg t.l.toArray, .int .i64 1] w fun e w' => e = .returned (.bool (decide t.k1.okR)) ∧ Ext w w' := by
  have hk := (in64_k ht).2.1
  have hL := fun u => slim_any t.k1 hk u
  by_cases hs : t.k1.still
  · rw [still_lim hs] at hL
    rw [show decide t.k1.okR = decide (t.n1 ≤ 1024) from decide_eq_decide.2 ⟨fun h => ((okR_iff _).1 h).2, fun h => (okR_iff _).2 ⟨hs, h⟩⟩]
    exact rng_eq1 t.ax t.ay t.bx t.by' t.cx t.cy t.d0 t.d1 t.d2 t.n0 t.n1 t.n2 t.a0 t.a1 t.a2 t.a3 t.b0 t.b1 t.b2 t.b3 t.c0 t.c1 t.c2 t.c3 hL w
  · rw [decide_eq_false (fun h => hs ((okR_iff _).1 h).1)]
    exact rng_ne1 t.ax t.ay t.bx t.by' t.cx t.cy t.d0 t.d1 t.d2 t.n0 t.n1 t.n2 t.a0 t.a1 t.a2 t.a3 t.b0 t.b1 t.b2 t.b3 t.c0 t.c1 t.c2 t.c3 _ _ _ _ _ _ _ _ hL hs w
theorem ranges2_any (t : Tr) (ht : t.in64) (w : World) : Calls Try.prog 36 #[.agg t.l.toArray, .int .i64 2] w fun e w' => e = .returned (.bool (decide t.k2.okR)) ∧ Ext w w' := by
  have hk := (in64_k ht).2.2
  have hL := fun u => slim_any t.k2 hk u
  by_cases hs : t.k2.still
  · rw [still_lim hs] at hL
    rw [show decide t.k2.okR = decide (t.n2 ≤ 1024) from decide_eq_decide.2 ⟨fun h => ((okR_iff _).1 h).2, fun h => (okR_iff _).2 ⟨hs, h⟩⟩]
    exact rng_eq2 t.ax t.ay t.bx t.by' t.cx t.cy t.d0 t.d1 t.d2 t.n0 t.n1 t.n2 t.a0 t.a1 t.a2 t.a3 t.b0 t.b1 t.b2 t.b3 t.c0 t.c1 t.c2 t.c3 hL w
  · rw [decide_eq_false (fun h => hs ((okR_iff _).1 h).1)]
    exact rng_ne2 t.ax t.ay t.bx t.by' t.cx t.cy t.d0 t.d1 t.d2 t.n0 t.n1 t.n2 t.a0 t.a1 t.a2 t.a3 t.b0 t.b1 t.b2 t.b3 t.c0 t.c1 t.c2 t.c3 _ _ _ _ _ _ _ _ hL hs w
set_option maxRecDepth 100000 in
set_option maxHeartbeats 4000000 in
theorem chk_f0 (g0 g1 g2 g3 g4 g5 e0 e1 e2 n0 n1 n2 a0 a1 a2 a3 b0 b1 b2 b3 c0 c1 c2 c3 : Int) (hR0 : ∀ u : World, Calls Try.prog 36 #[.agg #[.int .i64 g0, .int .i64 g1, .int .i64 g2, .int .i64 g3, .int .i64 g4, .int .i64 g5, .int .i64 e0, .int .i64 e1, .int .i64 e2, .int .i64 n0, .int .i64 n1, .int .i64 n2, .int .i64 a0, .int .i64 a1, .int .i64 a2, .int .i64 a3, .int .i64 b0, .int .i64 b1, .int .i64 b2, .int .i64 b3, .int .i64 c0, .int .i64 c1, .int .i64 c2, .int .i64 c3], .int .i64 0] u fun e w' => e = .returned (.bool false) ∧ Ext u w') (w : World) : Calls Try.prog 17 #[.agg #[.int .i64 g0, .int .i64 g1, .int .i64 g2, .int .i64 g3, .int .i64 g4, .int .i64 g5, .int .i64 e0, .int .i64 e1, .int .i64 e2, .int .i64 n0, .int .i64 n1, .int .i64 n2, .int .i64 a0, .int .i64 a1, .int .i64 a2, .int .i64 a3, .int .i64 b0, .int .i64 b1, .int .i64 b2, .int .i64 b3, .int .i64 c0, .int .i64 c1, .int .i64 c2, .int .i64 c3]] w fun e w' => e = .returned (.int .i64 2) ∧ Ext w w' := by
  have HR0 := Lib.hid hR0
  clear hR0
  have xx : Ext w (w.alloc (.cells #[.int .i64 g0, .int .i64 g1, .int .i64 g2, .int .i64 g3, .int .i64 g4, .int .i64 g5, .int .i64 e0, .int .i64 e1, .int .i64 e2, .int .i64 n0, .int .i64 n1, .int .i64 n2, .int .i64 a0, .int .i64 a1, .int .i64 a2, .int .i64 a3, .int .i64 b0, .int .i64 b1, .int .i64 b2, .int .i64 b3, .int .i64 c0, .int .i64 c1, .int .i64 c2, .int .i64 c3] 55)) := (Ext.refl w).alloc _ _
  have B1 := Blk.new w #[.int .i64 g0, .int .i64 g1, .int .i64 g2, .int .i64 g3, .int .i64 g4, .int .i64 g5, .int .i64 e0, .int .i64 e1, .int .i64 e2, .int .i64 n0, .int .i64 n1, .int .i64 n2, .int .i64 a0, .int .i64 a1, .int .i64 a2, .int .i64 a3, .int .i64 b0, .int .i64 b1, .int .i64 b2, .int .i64 b3, .int .i64 c0, .int .i64 c1, .int .i64 c2, .int .i64 c3] 55
  go_enter Try.func17, Try.ntmps17
  go_upto_region 1 with fail
  generalize (w.alloc (.cells #[.int .i64 g0, .int .i64 g1, .int .i64 g2, .int .i64 g3, .int .i64 g4, .int .i64 g5, .int .i64 e0, .int .i64 e1, .int .i64 e2, .int .i64 n0, .int .i64 n1, .int .i64 n2, .int .i64 a0, .int .i64 a1, .int .i64 a2, .int .i64 a3, .int .i64 b0, .int .i64 b1, .int .i64 b2, .int .i64 b3, .int .i64 c0, .int .i64 c1, .int .i64 c2, .int .i64 c3] 55)) = w1 at *
  go_wp2_with fail
  refine wp_loop_rounds 4 ?_
  rw [rounds_succ]
  go_wp2_with (first
    | ((with_reducible refine wpList_load_blk (op := ⟨some 7, _, _, _, _, _⟩) ?_ 55 (.tmp 1) ?_ (w.heap.size) ?_ (z := _) (T := 55) B1 Try.underlying55 ?_ ?_ ?_); rfl; rfl; rfl; rfl; kernel_rfl)
    | fail)
  refine (HR0.out _).mono ?_
  rintro e w2_0 ⟨rfl, x2⟩
  have xx := xx.trans x2
  have B1 := B1.ext x2
  clear x2
  go_wp2
  go_ret
  exact ⟨rfl, xx⟩
set_option maxRecDepth 100000 in
set_option maxHeartbeats 4000000 in
theorem chk_f1 (g0 g1 g2 g3 g4 g5 e0 e1 e2 n0 n1 n2 a0 a1 a2 a3 b0 b1 b2 b3 c0 c1 c2 c3 : Int) (hR0 : ∀ u : World, Calls Try.prog 36 #[.agg #[.int .i64 g0, .int .i64 g1, .int .i64 g2, .int .i64 g3, .int .i64 g4, .int .i64 g5, .int .i64 e0, .int .i64 e1, .int .i64 e2, .int .i64 n0, .int .i64 n1, .int .i64 n2, .int .i64 a0, .int .i64 a1, .int .i64 a2, .int .i64 a3, .int .i64 b0, .int .i64 b1, .int .i64 b2, .int .i64 b3, .int .i64 c0, .int .i64 c1, .int .i64 c2, .int .i64 c3], .int .i64 0] u fun e w' => e = .returned (.bool true) ∧ Ext u w') (hR1 : ∀ u : World, Calls Try.prog 36 #[.agg #[.int .i64 g0, .int .i64 g1, .int .i64 g2, .int .i64 g3, .int .i64 g4, .int .i64 g5, .int .i64 e0, .int .i64 e1, .int .i64 e2, .int .i64 n0, .int .i64 n1, .int .i64 n2, .int .i64 a0, .int .i64 a1, .int .i64 a2, .int .i64 a3, .int .i64 b0, .int .i64 b1, .int .i64 b2, .int .i64 b3, .int .i64 c0, .int .i64 c1, .int .i64 c2, .int .i64 c3], .int .i64 1] u fun e w' => e = .returned (.bool false) ∧ Ext u w') (w : World) : Calls Try.prog 17 #[.agg #[.int .i64 g0, .int .i64 g1, .int .i64 g2, .int .i64 g3, .int .i64 g4, .int .i64 g5, .int .i64 e0, .int .i64 e1, .int .i64 e2, .int .i64 n0, .int .i64 n1, .int .i64 n2, .int .i64 a0, .int .i64 a1, .int .i64 a2, .int .i64 a3, .int .i64 b0, .int .i64 b1, .int .i64 b2, .int .i64 b3, .int .i64 c0, .int .i64 c1, .int .i64 c2, .int .i64 c3]] w fun e w' => e = .returned (.int .i64 2) ∧ Ext w w' := by
  have HR0 := Lib.hid hR0
  have HR1 := Lib.hid hR1
  clear hR0 hR1
  have xx : Ext w (w.alloc (.cells #[.int .i64 g0, .int .i64 g1, .int .i64 g2, .int .i64 g3, .int .i64 g4, .int .i64 g5, .int .i64 e0, .int .i64 e1, .int .i64 e2, .int .i64 n0, .int .i64 n1, .int .i64 n2, .int .i64 a0, .int .i64 a1, .int .i64 a2, .int .i64 a3, .int .i64 b0, .int .i64 b1, .int .i64 b2, .int .i64 b3, .int .i64 c0, .int .i64 c1, .int .i64 c2, .int .i64 c3] 55)) := (Ext.refl w).alloc _ _
  have B1 := Blk.new w #[.int .i64 g0, .int .i64 g1, .int .i64 g2, .int .i64 g3, .int .i64 g4, .int .i64 g5, .int .i64 e0, .int .i64 e1, .int .i64 e2, .int .i64 n0, .int .i64 n1, .int .i64 n2, .int .i64 a0, .int .i64 a1, .int .i64 a2, .int .i64 a3, .int .i64 b0, .int .i64 b1, .int .i64 b2, .int .i64 b3, .int .i64 c0, .int .i64 c1, .int .i64 c2, .int .i64 c3] 55
  go_enter Try.func17, Try.ntmps17
  go_upto_region 1 with fail
  generalize (w.alloc (.cells #[.int .i64 g0, .int .i64 g1, .int .i64 g2, .int .i64 g3, .int .i64 g4, .int .i64 g5, .int .i64 e0, .int .i64 e1, .int .i64 e2, .int .i64 n0, .int .i64 n1, .int .i64 n2, .int .i64 a0, .int .i64 a1, .int .i64 a2, .int .i64 a3, .int .i64 b0, .int .i64 b1, .int .i64 b2, .int .i64 b3, .int .i64 c0, .int .i64 c1, .int .i64 c2, .int .i64 c3] 55)) = w1 at *
  go_wp2_with fail
  refine wp_loop_rounds 4 ?_
  rw [rounds_succ]
  go_wp2_with (first
    | ((with_reducible refine wpList_load_blk (op := ⟨some 7, _, _, _, _, _⟩) ?_ 55 (.tmp 1) ?_ (w.heap.size) ?_ (z := _) (T := 55) B1 Try.underlying55 ?_ ?_ ?_); rfl; rfl; rfl; rfl; kernel_rfl)
    | fail)
  refine (HR0.out _).mono ?_
  rintro e w2_0 ⟨rfl, x2⟩
  have xx := xx.trans x2
  have B1 := B1.ext x2
  clear x2
  go_wp2_with fail
  rw [rounds_succ]
  go_wp2_with (first
    | ((with_reducible refine wpList_load_blk (op := ⟨some 7, _, _, _, _, _⟩) ?_ 55 (.tmp 1) ?_ (w.heap.size) ?_ (z := _) (T := 55) B1 Try.underlying55 ?_ ?_ ?_); rfl; rfl; rfl; rfl; kernel_rfl)
    | fail)
  refine (HR1.out _).mono ?_
  rintro e w2_1 ⟨rfl, x2⟩
  have xx := xx.trans x2
  have B1 := B1.ext x2
  clear x2
  go_wp2
  go_ret
  exact ⟨rfl, xx⟩
set_option maxRecDepth 100000 in
set_option maxHeartbeats 4000000 in
theorem chk_f2 (g0 g1 g2 g3 g4 g5 e0 e1 e2 n0 n1 n2 a0 a1 a2 a3 b0 b1 b2 b3 c0 c1 c2 c3 : Int) (hR0 : ∀ u : World, Calls Try.prog 36 #[.agg #[.int .i64 g0, .int .i64 g1, .int .i64 g2, .int .i64 g3, .int .i64 g4, .int .i64 g5, .int .i64 e0, .int .i64 e1, .int .i64 e2, .int .i64 n0, .int .i64 n1, .int .i64 n2, .int .i64 a0, .int .i64 a1, .int .i64 a2, .int .i64 a3, .int .i64 b0, .int .i64 b1, .int .i64 b2, .int .i64 b3, .int .i64 c0, .int .i64 c1, .int .i64 c2, .int .i64 c3], .int .i64 0] u fun e w' => e = .returned (.bool true) ∧ Ext u w') (hR1 : ∀ u : World, Calls Try.prog 36 #[.agg #[.int .i64 g0, .int .i64 g1, .int .i64 g2, .int .i64 g3, .int .i64 g4, .int .i64 g5, .int .i64 e0, .int .i64 e1, .int .i64 e2, .int .i64 n0, .int .i64 n1, .int .i64 n2, .int .i64 a0, .int .i64 a1, .int .i64 a2, .int .i64 a3, .int .i64 b0, .int .i64 b1, .int .i64 b2, .int .i64 b3, .int .i64 c0, .int .i64 c1, .int .i64 c2, .int .i64 c3], .int .i64 1] u fun e w' => e = .returned (.bool true) ∧ Ext u w') (hR2 : ∀ u : World, Calls Try.prog 36 #[.agg #[.int .i64 g0, .int .i64 g1, .int .i64 g2, .int .i64 g3, .int .i64 g4, .int .i64 g5, .int .i64 e0, .int .i64 e1, .int .i64 e2, .int .i64 n0, .int .i64 n1, .int .i64 n2, .int .i64 a0, .int .i64 a1, .int .i64 a2, .int .i64 a3, .int .i64 b0, .int .i64 b1, .int .i64 b2, .int .i64 b3, .int .i64 c0, .int .i64 c1, .int .i64 c2, .int .i64 c3], .int .i64 2] u fun e w' => e = .returned (.bool false) ∧ Ext u w') (w : World) : Calls Try.prog 17 #[.agg #[.int .i64 g0, .int .i64 g1, .int .i64 g2, .int .i64 g3, .int .i64 g4, .int .i64 g5, .int .i64 e0, .int .i64 e1, .int .i64 e2, .int .i64 n0, .int .i64 n1, .int .i64 n2, .int .i64 a0, .int .i64 a1, .int .i64 a2, .int .i64 a3, .int .i64 b0, .int .i64 b1, .int .i64 b2, .int .i64 b3, .int .i64 c0, .int .i64 c1, .int .i64 c2, .int .i64 c3]] w fun e w' => e = .returned (.int .i64 2) ∧ Ext w w' := by
  have HR0 := Lib.hid hR0
  have HR1 := Lib.hid hR1
  have HR2 := Lib.hid hR2
  clear hR0 hR1 hR2
  have xx : Ext w (w.alloc (.cells #[.int .i64 g0, .int .i64 g1, .int .i64 g2, .int .i64 g3, .int .i64 g4, .int .i64 g5, .int .i64 e0, .int .i64 e1, .int .i64 e2, .int .i64 n0, .int .i64 n1, .int .i64 n2, .int .i64 a0, .int .i64 a1, .int .i64 a2, .int .i64 a3, .int .i64 b0, .int .i64 b1, .int .i64 b2, .int .i64 b3, .int .i64 c0, .int .i64 c1, .int .i64 c2, .int .i64 c3] 55)) := (Ext.refl w).alloc _ _
  have B1 := Blk.new w #[.int .i64 g0, .int .i64 g1, .int .i64 g2, .int .i64 g3, .int .i64 g4, .int .i64 g5, .int .i64 e0, .int .i64 e1, .int .i64 e2, .int .i64 n0, .int .i64 n1, .int .i64 n2, .int .i64 a0, .int .i64 a1, .int .i64 a2, .int .i64 a3, .int .i64 b0, .int .i64 b1, .int .i64 b2, .int .i64 b3, .int .i64 c0, .int .i64 c1, .int .i64 c2, .int .i64 c3] 55
  go_enter Try.func17, Try.ntmps17
  go_upto_region 1 with fail
  generalize (w.alloc (.cells #[.int .i64 g0, .int .i64 g1, .int .i64 g2, .int .i64 g3, .int .i64 g4, .int .i64 g5, .int .i64 e0, .int .i64 e1, .int .i64 e2, .int .i64 n0, .int .i64 n1, .int .i64 n2, .int .i64 a0, .int .i64 a1, .int .i64 a2, .int .i64 a3, .int .i64 b0, .int .i64 b1, .int .i64 b2, .int .i64 b3, .int .i64 c0, .int .i64 c1, .int .i64 c2, .int .i64 c3] 55)) = w1 at *
  go_wp2_with fail
  refine wp_loop_rounds 4 ?_
  rw [rounds_succ]
  go_wp2_with (first
    | ((with_reducible refine wpList_load_blk (op := ⟨some 7, _, _, _, _, _⟩) ?_ 55 (.tmp 1) ?_ (w.heap.size) ?_ (z := _) (T := 55) B1 Try.underlying55 ?_ ?_ ?_); rfl; rfl; rfl; rfl; kernel_rfl)
    | fail)
  refine (HR0.out _).mono ?_
  rintro e w2_0 ⟨rfl, x2⟩
  have xx := xx.trans x2
  have B1 := B1.ext x2
  clear x2
  go_wp2_with fail
  rw [rounds_succ]
  go_wp2_with (first
    | ((with_reducible refine wpList_load_blk (op := ⟨some 7, _, _, _, _, _⟩) ?_ 55 (.tmp 1) ?_ (w.heap.size) ?_ (z := _) (T := 55) B1 Try.underlying55 ?_ ?_ ?_); rfl; rfl; rfl; rfl; kernel_rfl)
    | fail)
  refine (HR1.out _).mono ?_
  rintro e w2_1 ⟨rfl, x2⟩
  have xx := xx.trans x2
  have B1 := B1.ext x2
  clear x2
  go_wp2_with fail
  rw [rounds_succ]
  go_wp2_with (first
    | ((with_reducible refine wpList_load_blk (op := ⟨some 7, _, _, _, _, _⟩) ?_ 55 (.tmp 1) ?_ (w.heap.size) ?_ (z := _) (T := 55) B1 Try.underlying55 ?_ ?_ ?_); rfl; rfl; rfl; rfl; kernel_rfl)
    | fail)
  refine (HR2.out _).mono ?_
  rintro e w2_2 ⟨rfl, x2⟩
  have xx := xx.trans x2
  have B1 := B1.ext x2
  clear x2
  go_wp2
  go_ret
  exact ⟨rfl, xx⟩
set_option maxRecDepth 100000 in
set_option maxHeartbeats 4000000 in
theorem chk_no (g0 g1 g2 g3 g4 g5 e0 e1 e2 n0 n1 n2 a0 a1 a2 a3 b0 b1 b2 b3 c0 c1 c2 c3 ar : Int) (hR0 : ∀ u : World, Calls Try.prog 36 #[.agg #[.int .i64 g0, .int .i64 g1, .int .i64 g2, .int .i64 g3, .int .i64 g4, .int .i64 g5, .int .i64 e0, .int .i64 e1, .int .i64 e2, .int .i64 n0, .int .i64 n1, .int .i64 n2, .int .i64 a0, .int .i64 a1, .int .i64 a2, .int .i64 a3, .int .i64 b0, .int .i64 b1, .int .i64 b2, .int .i64 b3, .int .i64 c0, .int .i64 c1, .int .i64 c2, .int .i64 c3], .int .i64 0] u fun e w' => e = .returned (.bool true) ∧ Ext u w') (hR1 : ∀ u : World, Calls Try.prog 36 #[.agg #[.int .i64 g0, .int .i64 g1, .int .i64 g2, .int .i64 g3, .int .i64 g4, .int .i64 g5, .int .i64 e0, .int .i64 e1, .int .i64 e2, .int .i64 n0, .int .i64 n1, .int .i64 n2, .int .i64 a0, .int .i64 a1, .int .i64 a2, .int .i64 a3, .int .i64 b0, .int .i64 b1, .int .i64 b2, .int .i64 b3, .int .i64 c0, .int .i64 c1, .int .i64 c2, .int .i64 c3], .int .i64 1] u fun e w' => e = .returned (.bool true) ∧ Ext u w') (hR2 : ∀ u : World, Calls Try.prog 36 #[.agg #[.int .i64 g0, .int .i64 g1, .int .i64 g2, .int .i64 g3, .int .i64 g4, .int .i64 g5, .int .i64 e0, .int .i64 e1, .int .i64 e2, .int .i64 n0, .int .i64 n1, .int .i64 n2, .int .i64 a0, .int .i64 a1, .int .i64 a2, .int .i64 a3, .int .i64 b0, .int .i64 b1, .int .i64 b2, .int .i64 b3, .int .i64 c0, .int .i64 c1, .int .i64 c2, .int .i64 c3], .int .i64 2] u fun e w' => e = .returned (.bool true) ∧ Ext u w') (hA : ∀ u : World, Calls Try.prog 37 #[.agg #[.int .i64 g0, .int .i64 g1, .int .i64 g2, .int .i64 g3, .int .i64 g4, .int .i64 g5]] u fun e w' => e = .returned (.int .i64 ar) ∧ Ext u w') (har : ar ≤ 0) (w : World) : Calls Try.prog 17 #[.agg #[.int .i64 g0, .int .i64 g1, .int .i64 g2, .int .i64 g3, .int .i64 g4, .int .i64 g5, .int .i64 e0, .int .i64 e1, .int .i64 e2, .int .i64 n0, .int .i64 n1, .int .i64 n2, .int .i64 a0, .int .i64 a1, .int .i64 a2, .int .i64 a3, .int .i64 b0, .int .i64 b1, .int .i64 b2, .int .i64 b3, .int .i64 c0, .int .i64 c1, .int .i64 c2, .int .i64 c3]] w fun e w' => e = .returned (.int .i64 4) ∧ Ext w w' := by
  have hn : ar ≤ 0 := by omega
  have HR0 := Lib.hid hR0
  have HR1 := Lib.hid hR1
  have HR2 := Lib.hid hR2
  have HA := Lib.hid hA
  clear hR0 hR1 hR2 hA
  have xx : Ext w (w.alloc (.cells #[.int .i64 g0, .int .i64 g1, .int .i64 g2, .int .i64 g3, .int .i64 g4, .int .i64 g5, .int .i64 e0, .int .i64 e1, .int .i64 e2, .int .i64 n0, .int .i64 n1, .int .i64 n2, .int .i64 a0, .int .i64 a1, .int .i64 a2, .int .i64 a3, .int .i64 b0, .int .i64 b1, .int .i64 b2, .int .i64 b3, .int .i64 c0, .int .i64 c1, .int .i64 c2, .int .i64 c3] 55)) := (Ext.refl w).alloc _ _
  have B1 := Blk.new w #[.int .i64 g0, .int .i64 g1, .int .i64 g2, .int .i64 g3, .int .i64 g4, .int .i64 g5, .int .i64 e0, .int .i64 e1, .int .i64 e2, .int .i64 n0, .int .i64 n1, .int .i64 n2, .int .i64 a0, .int .i64 a1, .int .i64 a2, .int .i64 a3, .int .i64 b0, .int .i64 b1, .int .i64 b2, .int .i64 b3, .int .i64 c0, .int .i64 c1, .int .i64 c2, .int .i64 c3] 55
  go_enter Try.func17, Try.ntmps17
  go_upto_region 1 with fail
  generalize (w.alloc (.cells #[.int .i64 g0, .int .i64 g1, .int .i64 g2, .int .i64 g3, .int .i64 g4, .int .i64 g5, .int .i64 e0, .int .i64 e1, .int .i64 e2, .int .i64 n0, .int .i64 n1, .int .i64 n2, .int .i64 a0, .int .i64 a1, .int .i64 a2, .int .i64 a3, .int .i64 b0, .int .i64 b1, .int .i64 b2, .int .i64 b3, .int .i64 c0, .int .i64 c1, .int .i64 c2, .int .i64 c3] 55)) = w1 at *
  go_wp2_with fail
  refine wp_loop_rounds 4 ?_
  rw [rounds_succ]
  go_wp2_with (first
    | ((with_reducible refine wpList_load_blk (op := ⟨some 7, _, _, _, _, _⟩) ?_ 55 (.tmp 1) ?_ (w.heap.size) ?_ (z := _) (T := 55) B1 Try.underlying55 ?_ ?_ ?_); rfl; rfl; rfl; rfl; kernel_rfl)
    | fail)
  refine (HR0.out _).mono ?_
  rintro e w2_0 ⟨rfl, x2⟩
  have xx := xx.trans x2
  have B1 := B1.ext x2
  clear x2
  go_wp2_with fail
  rw [rounds_succ]
  go_wp2_with (first
    | ((with_reducible refine wpList_load_blk (op := ⟨some 7, _, _, _, _, _⟩) ?_ 55 (.tmp 1) ?_ (w.heap.size) ?_ (z := _) (T := 55) B1 Try.underlying55 ?_ ?_ ?_); rfl; rfl; rfl; rfl; kernel_rfl)
    | fail)
  refine (HR1.out _).mono ?_
  rintro e w2_1 ⟨rfl, x2⟩
  have xx := xx.trans x2
  have B1 := B1.ext x2
  clear x2
  go_wp2_with fail
  rw [rounds_succ]
  go_wp2_with (first
    | ((with_reducible refine wpList_load_blk (op := ⟨some 7, _, _, _, _, _⟩) ?_ 55 (.tmp 1) ?_ (w.heap.size) ?_ (z := _) (T := 55) B1 Try.underlying55 ?_ ?_ ?_); rfl; rfl; rfl; rfl; kernel_rfl)
    | fail)
  refine (HR2.out _).mono ?_
  rintro e w2_2 ⟨rfl, x2⟩
  have xx := xx.trans x2
  have B1 := B1.ext x2
  clear x2
  go_wp2_with fail
  rw [rounds_succ]
  have R := Lib.hid (B1.mid13 0 [.int .i64 g0, .int .i64 g1, .int .i64 g2, .int .i64 g3, .int .i64 g4, .int .i64 g5] rfl)
  go_wp2_with (first
    | ((with_reducible refine wpList_load_mid (op := ⟨some 13, _, _, _, _, _⟩) ?_ 52 (.tmp 12) ?_ w.heap.size 0 ?_ [.int .i64 g0, .int .i64 g1, .int .i64 g2, .int .i64 g3, .int .i64 g4, .int .i64 g5] _ R.out Try.underlying52 ?_ ?_ ?_); rfl; rfl; rfl; rfl; kernel_rfl)
    | fail)
  refine (HA.out _).mono ?_
  rintro e w3 ⟨rfl, x3⟩
  have xx := xx.trans x3
  clear x3 R B1
  go_wp2
  go_ret
  exact ⟨rfl, xx⟩
set_option maxRecDepth 100000 in
set_option maxHeartbeats 4000000 in
theorem chk_yes (g0 g1 g2 g3 g4 g5 e0 e1 e2 n0 n1 n2 a0 a1 a2 a3 b0 b1 b2 b3 c0 c1 c2 c3 ar : Int) (hR0 : ∀ u : World, Calls Try.prog 36 #[.agg #[.int .i64 g0, .int .i64 g1, .int .i64 g2, .int .i64 g3, .int .i64 g4, .int .i64 g5, .int .i64 e0, .int .i64 e1, .int .i64 e2, .int .i64 n0, .int .i64 n1, .int .i64 n2, .int .i64 a0, .int .i64 a1, .int .i64 a2, .int .i64 a3, .int .i64 b0, .int .i64 b1, .int .i64 b2, .int .i64 b3, .int .i64 c0, .int .i64 c1, .int .i64 c2, .int .i64 c3], .int .i64 0] u fun e w' => e = .returned (.bool true) ∧ Ext u w') (hR1 : ∀ u : World, Calls Try.prog 36 #[.agg #[.int .i64 g0, .int .i64 g1, .int .i64 g2, .int .i64 g3, .int .i64 g4, .int .i64 g5, .int .i64 e0, .int .i64 e1, .int .i64 e2, .int .i64 n0, .int .i64 n1, .int .i64 n2, .int .i64 a0, .int .i64 a1, .int .i64 a2, .int .i64 a3, .int .i64 b0, .int .i64 b1, .int .i64 b2, .int .i64 b3, .int .i64 c0, .int .i64 c1, .int .i64 c2, .int .i64 c3], .int .i64 1] u fun e w' => e = .returned (.bool true) ∧ Ext u w') (hR2 : ∀ u : World, Calls Try.prog 36 #[.agg #[.int .i64 g0, .int .i64 g1, .int .i64 g2, .int .i64 g3, .int .i64 g4, .int .i64 g5, .int .i64 e0, .int .i64 e1, .int .i64 e2, .int .i64 n0, .int .i64 n1, .int .i64 n2, .int .i64 a0, .int .i64 a1, .int .i64 a2, .int .i64 a3, .int .i64 b0, .int .i64 b1, .int .i64 b2, .int .i64 b3, .int .i64 c0, .int .i64 c1, .int .i64 c2, .int .i64 c3], .int .i64 2] u fun e w' => e = .returned (.bool true) ∧ Ext u w') (hA : ∀ u : World, Calls Try.prog 37 #[.agg #[.int .i64 g0, .int .i64 g1, .int .i64 g2, .int .i64 g3, .int .i64 g4, .int .i64 g5]] u fun e w' => e = .returned (.int .i64 ar) ∧ Ext u w') (har : 0 < ar) (w : World) : Calls Try.prog 17 #[.agg #[.int .i64 g0, .int .i64 g1, .int .i64 g2, .int .i64 g3, .int .i64 g4, .int .i64 g5, .int .i64 e0, .int .i64 e1, .int .i64 e2, .int .i64 n0, .int .i64 n1, .int .i64 n2, .int .i64 a0, .int .i64 a1, .int .i64 a2, .int .i64 a3, .int .i64 b0, .int .i64 b1, .int .i64 b2, .int .i64 b3, .int .i64 c0, .int .i64 c1, .int .i64 c2, .int .i64 c3]] w fun e w' => e = .returned (.int .i64 0) ∧ Ext w w' := by
  have hn : ¬ ar ≤ 0 := by omega
  have HR0 := Lib.hid hR0
  have HR1 := Lib.hid hR1
  have HR2 := Lib.hid hR2
  have HA := Lib.hid hA
  clear hR0 hR1 hR2 hA
  have xx : Ext w (w.alloc (.cells #[.int .i64 g0, .int .i64 g1, .int .i64 g2, .int .i64 g3, .int .i64 g4, .int .i64 g5, .int .i64 e0, .int .i64 e1, .int .i64 e2, .int .i64 n0, .int .i64 n1, .int .i64 n2, .int .i64 a0, .int .i64 a1, .int .i64 a2, .int .i64 a3, .int .i64 b0, .int .i64 b1, .int .i64 b2, .int .i64 b3, .int .i64 c0, .int .i64 c1, .int .i64 c2, .int .i64 c3] 55)) := (Ext.refl w).alloc _ _
  have B1 := Blk.new w #[.int .i64 g0, .int .i64 g1, .int .i64 g2, .int .i64 g3, .int .i64 g4, .int .i64 g5, .int .i64 e0, .int .i64 e1, .int .i64 e2, .int .i64 n0, .int .i64 n1, .int .i64 n2, .int .i64 a0, .int .i64 a1, .int .i64 a2, .int .i64 a3, .int .i64 b0, .int .i64 b1, .int .i64 b2, .int .i64 b3, .int .i64 c0, .int .i64 c1, .int .i64 c2, .int .i64 c3] 55
  go_enter Try.func17, Try.ntmps17
  go_upto_region 1 with fail
  generalize (w.alloc (.cells #[.int .i64 g0, .int .i64 g1, .int .i64 g2, .int .i64 g3, .int .i64 g4, .int .i64 g5, .int .i64 e0, .int .i64 e1, .int .i64 e2, .int .i64 n0, .int .i64 n1, .int .i64 n2, .int .i64 a0, .int .i64 a1, .int .i64 a2, .int .i64 a3, .int .i64 b0, .int .i64 b1, .int .i64 b2, .int .i64 b3, .int .i64 c0, .int .i64 c1, .int .i64 c2, .int .i64 c3] 55)) = w1 at *
  go_wp2_with fail
  refine wp_loop_rounds 4 ?_
  rw [rounds_succ]
  go_wp2_with (first
    | ((with_reducible refine wpList_load_blk (op := ⟨some 7, _, _, _, _, _⟩) ?_ 55 (.tmp 1) ?_ (w.heap.size) ?_ (z := _) (T := 55) B1 Try.underlying55 ?_ ?_ ?_); rfl; rfl; rfl; rfl; kernel_rfl)
    | fail)
  refine (HR0.out _).mono ?_
  rintro e w2_0 ⟨rfl, x2⟩
  have xx := xx.trans x2
  have B1 := B1.ext x2
  clear x2
  go_wp2_with fail
  rw [rounds_succ]
  go_wp2_with (first
    | ((with_reducible refine wpList_load_blk (op := ⟨some 7, _, _, _, _, _⟩) ?_ 55 (.tmp 1) ?_ (w.heap.size) ?_ (z := _) (T := 55) B1 Try.underlying55 ?_ ?_ ?_); rfl; rfl; rfl; rfl; kernel_rfl)
    | fail)
  refine (HR1.out _).mono ?_
  rintro e w2_1 ⟨rfl, x2⟩
  have xx := xx.trans x2
  have B1 := B1.ext x2
  clear x2
  go_wp2_with fail
  rw [rounds_succ]
  go_wp2_with (first
    | ((with_reducible refine wpList_load_blk (op := ⟨some 7, _, _, _, _, _⟩) ?_ 55 (.tmp 1) ?_ (w.heap.size) ?_ (z := _) (T := 55) B1 Try.underlying55 ?_ ?_ ?_); rfl; rfl; rfl; rfl; kernel_rfl)
    | fail)
  refine (HR2.out _).mono ?_
  rintro e w2_2 ⟨rfl, x2⟩
  have xx := xx.trans x2
  have B1 := B1.ext x2
  clear x2
  go_wp2_with fail
  rw [rounds_succ]
  have R := Lib.hid (B1.mid13 0 [.int .i64 g0, .int .i64 g1, .int .i64 g2, .int .i64 g3, .int .i64 g4, .int .i64 g5] rfl)
  go_wp2_with (first
    | ((with_reducible refine wpList_load_mid (op := ⟨some 13, _, _, _, _, _⟩) ?_ 52 (.tmp 12) ?_ w.heap.size 0 ?_ [.int .i64 g0, .int .i64 g1, .int .i64 g2, .int .i64 g3, .int .i64 g4, .int .i64 g5] _ R.out Try.underlying52 ?_ ?_ ?_); rfl; rfl; rfl; rfl; kernel_rfl)
    | fail)
  refine (HA.out _).mono ?_
  rintro e w3 ⟨rfl, x3⟩
  have xx := xx.trans x3
  clear x3 R B1
  go_wp2
  go_ret
  exact ⟨rfl, xx⟩
theorem checkT_any (t : Tr) (ht : t.in64) (w : World) : Calls Try.prog 17 #[.agg t.l.toArray] w fun e w' => e = .returned (.int .i64 (chkT t)) ∧ Ext w w' := by
  have h0 := fun u => ranges0_any t ht u
  have h1 := fun u => ranges1_any t ht u
  have h2 := fun u => ranges2_any t ht u
  have hA := fun u => area_any t.ax t.ay t.bx t.by' t.cx t.cy ht.1 ht.2.1 ht.2.2.1 ht.2.2.2.1 ht.2.2.2.2.1 ht.2.2.2.2.2.1 u
  unfold chkT
  by_cases r0 : t.k0.okR
  · rw [decide_eq_true r0] at h0
    by_cases r1 : t.k1.okR
    · rw [decide_eq_true r1] at h1
      by_cases r2 : t.k2.okR
      · rw [decide_eq_true r2] at h2
        rw [if_pos ((rng_iff t).2 ⟨r0, r1, r2⟩)]
        by_cases ha : t.area ≤ 0
        · rw [if_pos ha]
          exact chk_no t.ax t.ay t.bx t.by' t.cx t.cy t.d0 t.d1 t.d2 t.n0 t.n1 t.n2 t.a0 t.a1 t.a2 t.a3 t.b0 t.b1 t.b2 t.b3 t.c0 t.c1 t.c2 t.c3 _ h0 h1 h2 hA ha w
        · rw [if_neg ha]
          exact chk_yes t.ax t.ay t.bx t.by' t.cx t.cy t.d0 t.d1 t.d2 t.n0 t.n1 t.n2 t.a0 t.a1 t.a2 t.a3 t.b0 t.b1 t.b2 t.b3 t.c0 t.c1 t.c2 t.c3 _ h0 h1 h2 hA (by unfold Tr.area at ha; omega) w
      · rw [decide_eq_false r2] at h2
        rw [if_neg (fun h => r2 ((rng_iff t).1 h).2.2)]
        exact chk_f2 t.ax t.ay t.bx t.by' t.cx t.cy t.d0 t.d1 t.d2 t.n0 t.n1 t.n2 t.a0 t.a1 t.a2 t.a3 t.b0 t.b1 t.b2 t.b3 t.c0 t.c1 t.c2 t.c3 h0 h1 h2 w
    · rw [decide_eq_false r1] at h1
      rw [if_neg (fun h => r1 ((rng_iff t).1 h).2.1)]
      exact chk_f1 t.ax t.ay t.bx t.by' t.cx t.cy t.d0 t.d1 t.d2 t.n0 t.n1 t.n2 t.a0 t.a1 t.a2 t.a3 t.b0 t.b1 t.b2 t.b3 t.c0 t.c1 t.c2 t.c3 h0 h1 w
  · rw [decide_eq_false r0] at h0
    rw [if_neg (fun h => r0 ((rng_iff t).1 h).1)]
    exact chk_f0 t.ax t.ay t.bx t.by' t.cx t.cy t.d0 t.d1 t.d2 t.n0 t.n1 t.n2 t.a0 t.a1 t.a2 t.a3 t.b0 t.b1 t.b2 t.b3 t.c0 t.c1 t.c2 t.c3 h0 w
end Go.Proofs.Ytglehnmkdapnpaa

