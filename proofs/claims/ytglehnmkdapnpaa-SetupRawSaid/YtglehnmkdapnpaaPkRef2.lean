/-
  DERIVED. azulejoref12's bound, Point (made by mkrefset.py). · azulejoref12's Make (made by mkrefset.py).
-/
import Derived.Test.YtglehnmkdapnpaaPkPlain
import Derived.Test.YtglehnmkdapnpaaPkFix
import Derived.Lib.Hide
import Derived.Great.BuildSlice
import Derived.Deep.LoopGhost
import Derived.Deep.DeepCutAuto
namespace Go.Proofs.Ytglehnmkdapnpaa
open Go.RowKit
set_option linter.unusedVariables false
theorem results_blk2 {P : Program} {w : World} {fn : Func} {t s : Tmp} {ty : TypeId} (h : fn.results = #[.cell t ty, .tmp s]) {tmps : Array Value} {b : Nat} (ht : tmps.getD t undef = .pointer (some ⟨b, 0, none⟩)) {z : Array Value} {T : TypeId} (hB : Blk w b z T)
    {d : TypeDesc} (hu : P.underlying ty = some d) (hd : d.isRow = true) (hi : (P.info? ty).map (·.size) = some z.size) {v : Value} (hs : tmps.getD s undef = v) : (results fn tmps).run P w = .ok (.tuple #[.agg z, v]) w := by
  have hl := run_loadVar_mid (P := P) w b 0 ty z.toList d hB.range hu hd (by simpa using hi)
  have ht' : tmps[t]?.getD undef = .pointer (some ⟨b, 0, none⟩) := by simpa using ht
  have hs' : tmps[s]?.getD undef = v := by simpa using hs
  simp [results, h, ht', hs', asAddr, hl]
theorem results_blk3 {P : Program} {w : World} {fn : Func} {r t s : Tmp} {ty : TypeId} (h : fn.results = #[.tmp r, .cell t ty, .tmp s]) {tmps : Array Value} {b : Nat} (ht : tmps.getD t undef = .pointer (some ⟨b, 0, none⟩)) {z : Array Value} {T : TypeId} (hB : Blk w b z T)
    {d : TypeDesc} (hu : P.underlying ty = some d) (hd : d.isRow = true) (hi : (P.info? ty).map (·.size) = some z.size) {u v : Value} (hr : tmps.getD r undef = u) (hs : tmps.getD s undef = v) : (results fn tmps).run P w = .ok (.tuple #[u, .agg z, v]) w := by
  have hl := run_loadVar_mid (P := P) w b 0 ty z.toList d hB.range hu hd (by simpa using hi)
  have ht' : tmps[t]?.getD undef = .pointer (some ⟨b, 0, none⟩) := by simpa using ht
  have hr' : tmps[r]?.getD undef = u := by simpa using hr
  have hs' : tmps[s]?.getD undef = v := by simpa using hs
  simp [results, h, ht', hr', hs', asAddr, hl]
set_option maxRecDepth 100000 in
set_option maxHeartbeats 4000000 in
theorem rbound_any (n lo hi : Int) (h : lo ≤ hi) (w : World) : Calls Try.prog 29 #[.int .i64 n, .int .i64 lo, .int .i64 hi] w fun e w' => e = .returned (.int .i64 (bdI n lo hi)) ∧ Ext w w' := by
  by_cases h1 : n < lo
  · have e : bdI n lo hi = lo := by unfold bdI; omega
    rw [e]
    go_enter Try.func29, Try.ntmps29
    go_wp2
    go_ret
    exact ⟨rfl, Ext.refl _⟩
  · by_cases h2 : hi < n
    · have e : bdI n lo hi = hi := by unfold bdI; omega
      rw [e]
      go_enter Try.func29, Try.ntmps29
      go_wp2
      go_ret
      exact ⟨rfl, Ext.refl _⟩
    · have e : bdI n lo hi = n := by unfold bdI; omega
      rw [e]
      go_enter Try.func29, Try.ntmps29
      go_wp2
      go_ret
      exact ⟨rfl, Ext.refl _⟩
theorem rfloor13 (n d : Int) (hn : -4611686018427387904 ≤ n ∧ n ≤ 4611686018427387904) (hd : 0 < d ∧ d ≤ 4611686018427387904) (w : World) : Calls Try.prog 50 #[.int .i64 n, .int .i64 d] w fun e w' => e = .returned (.int .i64 (n / d)) ∧ Ext w w' := by
  refine (rfloor_pos n d w hn.1 hn.2 hd.1 hd.2).mono ?_
  rintro e w' ⟨rfl, rfl⟩
  exact ⟨by rw [flr_pos n hd.1], Ext.refl _⟩
set_option maxRecDepth 100000 in
set_option maxHeartbeats 4000000 in
theorem rpoint_main (p0 p1 p2 p3 W H X Y D a b e2 : Int) (ha : -2147483648 ≤ p0 * W * 8 ∧ p0 * W * 8 ≤ 2147483648) (hb : -2147483648 ≤ p1 * H * 8 ∧ p1 * H * 8 ≤ 2147483648) (ha' : -2147483648 ≤ p0 * W ∧ p0 * W ≤ 2147483648) (hb' : -2147483648 ≤ p1 * H ∧ p1 * H ≤ 2147483648) (h2 : -4194304 ≤ p2 ∧ p2 ≤ 4194304) (h3 : 256 ≤ p3 ∧ p3 ≤ 4194304) (hW : 1 ≤ W ∧ W ≤ 64) (hH : 1 ≤ H ∧ H ≤ 64)
    (qa : p0 * W * 8 / p3 = a) (qb : p1 * H * 8 / p3 = b) (q2 : p2 * 65535 / p3 = e2) (hqa : -2147483649 ≤ a ∧ a ≤ 2147483648) (hqb : -2147483649 ≤ b ∧ b ≤ 2147483648)
    (hX : ∀ u : World, Calls Try.prog 29 #[.int .i64 (8 * W + a), .int .i64 (-16384), .int .i64 16384] u fun e w' => e = .returned (.int .i64 X) ∧ Ext u w') (hY : ∀ u : World, Calls Try.prog 29 #[.int .i64 (8 * H - b), .int .i64 (-16384), .int .i64 16384] u fun e w' => e = .returned (.int .i64 Y) ∧ Ext u w') (hD : ∀ u : World, Calls Try.prog 29 #[.int .i64 e2, .int .i64 0, .int .i64 65535] u fun e w' => e = .returned (.int .i64 D) ∧ Ext u w') (w : World) :
    Calls Try.prog 27 #[.agg #[.int .i64 p0, .int .i64 p1, .int .i64 p2, .int .i64 p3], .int .i64 W, .int .i64 H] w fun e w' => e = .returned (.tuple #[.agg #[.int .i64 X, .int .i64 Y], .int .i64 D]) ∧ Ext w w' := by
  have hFa := fun u => rfloor13 (p0 * W * 8) p3 (by omega) (by omega) u
  have hFb := fun u => rfloor13 (p1 * H * 8) p3 (by omega) (by omega) u
  have hF2 := fun u => rfloor13 (p2 * 65535) p3 (by omega) (by omega) u
  rw [qa] at hFa
  rw [qb] at hFb
  rw [q2] at hF2
  have wa : IntKind.i64.wrap (p0 * W) = p0 * W := by rw [IntKind.wrap_i64]; omega
  have wa2 : IntKind.i64.wrap (p0 * W * 8) = p0 * W * 8 := by rw [IntKind.wrap_i64]; omega
  have wb : IntKind.i64.wrap (p1 * H) = p1 * H := by rw [IntKind.wrap_i64]; omega
  have wb2 : IntKind.i64.wrap (p1 * H * 8) = p1 * H * 8 := by rw [IntKind.wrap_i64]; omega
  have wx : IntKind.i64.wrap (8 * W + a) = 8 * W + a := by rw [IntKind.wrap_i64]; omega
  have wy : IntKind.i64.wrap (8 * H - b) = 8 * H - b := by rw [IntKind.wrap_i64]; omega
  have HFa := Lib.hid hFa
  have HFb := Lib.hid hFb
  have HF2 := Lib.hid hF2
  have HX := Lib.hid hX
  have HY := Lib.hid hY
  have HD := Lib.hid hD
  clear hFa hFb hF2 hX hY hD qa qb q2
  have xx : Ext w ((w.alloc (.cells #[.int .i64 p0, .int .i64 p1, .int .i64 p2, .int .i64 p3] 29)).alloc (.cells #[.int .i64 0, .int .i64 0] 37)) := ((Ext.refl w).alloc _ _).alloc _ _
  have B3 := (Blk.new w #[.int .i64 p0, .int .i64 p1, .int .i64 p2, .int .i64 p3] 29).alloc (.cells #[.int .i64 0, .int .i64 0] 37)
  have B6 := Blk.new (w.alloc (.cells #[.int .i64 p0, .int .i64 p1, .int .i64 p2, .int .i64 p3] 29)) #[.int .i64 0, .int .i64 0] 37
  go_enter Try.func27, Try.ntmps27
  go_upto_region 1 with fail
  simp only [World.size_alloc] at B6
  generalize (w.alloc (.cells #[.int .i64 p0, .int .i64 p1, .int .i64 p2, .int .i64 p3] 29)).alloc (.cells #[.int .i64 0, .int .i64 0] 37) = w1 at *
  have c3 := B3.cell
  go_wp2_with fail
  refine (HFa.out _).mono ?_
  rintro e w2 ⟨rfl, x2⟩
  have xx := xx.trans x2
  have B3 := B3.ext x2
  have B6 := B6.ext x2
  have c3 := B3.cell
  clear x2
  go_wp2_with fail
  refine (HFb.out _).mono ?_
  rintro e w3 ⟨rfl, x3⟩
  have xx := xx.trans x3
  have B3 := B3.ext x3
  have B6 := B6.ext x3
  have c3 := B3.cell
  clear x3
  go_upto_region 3 with fail
  apply wp_region_vars [false, false, false, false, false, false, false, false, false, false, false, false, true, false] [w.heap.size + 1] [⟨none, 0, w.heap.size + 1, some 12, 37, #[.int .i64 0, .int .i64 0], #[.int .i64 X, .int .i64 Y]⟩] _ (by kernel_rfl) (by kernel_rfl) (by kernel_rfl)
  case H =>
    intro x hx
    have hne : Nonempty (Wx x) := ⟨⟨x, Ext.refl x⟩⟩
    have q3 := fun (y : Wx x) => ((B3.calm hx (by simp)).ext y.ext).cell
    simp only [eraseM]
    repeat (go_big_quiet_step (first | (go_at_call 29; with_reducible exact calm_of (HX.out _)) | (go_at_call 29; with_reducible exact calm_of (HY.out _)) | (go_at_call 29; with_reducible exact calm_of (HD.out _)) | (go_at_call 50; with_reducible exact calm_of (HF2.out _))))
    exact wpQuiet_nil rfl
  case hok =>
    simp only [List.forall_mem_cons, List.not_mem_nil, false_implies, implies_true, and_true]
    exact tgt_mine (v := .agg #[.int .i64 X, .int .i64 Y]) (off := 0) (by simp) B6 rfl rfl rfl rfl rfl rfl (by kernel_rfl) (by kernel_rfl) (of_decide_eq_true (by kernel_rfl)) rfl
  case hdis =>
    intro k k' t t' hk hk' hkk ha ha'
    exfalso
    have h1 : k < 1 := (List.getElem?_eq_some_iff.1 hk).1
    have h2 : k' < 1 := (List.getElem?_eq_some_iff.1 hk').1
    omega
  rintro w4 f hw ⟨k0, l0, d0, u0, -⟩
  have e0 : f 0 = w.heap.size + 1 := k0
  rw [e0] at d0
  have Ef := Ext.calm_trans xx hw (by simp)
  clear k0 l0 u0 e0 hw
  simp only [pairs, putAll, Option.isSome_none, Bool.false_eq_true, if_false]
  go_wp2_with fail
  exact bodyPost_ret (v := .tuple #[.agg #[.int .i64 X, .int .i64 Y], .int .i64 D]) (results_blk2 (b := w.heap.size + 1) (t := 6) (s := 7) (ty := 37) rfl rfl d0 Try.underlying37 rfl (by kernel_rfl) rfl) rfl ⟨rfl, Ef⟩
theorem mul_in {x y : Int} (hx : -4194304 ≤ x ∧ x ≤ 4194304) (hy : 1 ≤ y ∧ y ≤ 64) : -268435456 ≤ x * y ∧ x * y ≤ 268435456 := by
  have := prod_bd (x := 0) (y := x) (a := y) (M := 4194304) (A := 64) (by omega) hx (by omega) (by omega)
  have e : (x - 0) * y = x * y := by rw [Int.sub_zero]
  rw [e] at this
  have a1 := Int.mul_le_mul_of_nonneg_right hx.2 (show (0 : Int) ≤ y by omega)
  have a2 := Int.mul_le_mul_of_nonneg_right hx.1 (show (0 : Int) ≤ y by omega)
  omega
theorem div_in {n d M : Int} (h : -M ≤ n ∧ n ≤ M) (hd : 0 < d) (hM : 0 ≤ M) : -M - 1 ≤ n / d ∧ n / d ≤ M := by
  have := flr_bd n d h.1 h.2
  rw [flr_pos n hd] at this
  exact this
/-- a vertex that may be shown, on a picture -/
theorem rpoint_any (v : V8) (hv : v.shown) (W H : Int) (hW : 1 ≤ W ∧ W ≤ 64) (hH : 1 ≤ H ∧ H ≤ 64) (w : World) :
    Calls Try.prog 27 #[.agg #[.int .i64 v.p0, .int .i64 v.p1, .int .i64 v.p2, .int .i64 v.p3], .int .i64 W, .int .i64 H] w fun e w' => e = .returned (.tuple #[.agg #[.int .i64 (ofF v W H).x, .int .i64 (ofF v W H).y], .int .i64 (ofF v W H).d]) ∧ Ext w w' := by
  obtain ⟨⟨h0, h1, h2, h3⟩, h4, -⟩ := hv
  have m0 := mul_in h0 hW
  have m1 := mul_in h1 hH
  have d0 := div_in (n := v.p0 * W * 8) (d := v.p3) (M := 2147483648) (by omega) (by omega) (by omega)
  have d1 := div_in (n := v.p1 * H * 8) (d := v.p3) (M := 2147483648) (by omega) (by omega) (by omega)
  have e3 : max v.p3 256 = v.p3 := by omega
  have eW : bdI W 1 64 = W := bdI_id hW.1 hW.2
  have eH : bdI H 1 64 = H := bdI_id hH.1 hH.2
  have c0 : 8 * W * v.p0 = v.p0 * W * 8 := by rw [Int.mul_comm (8 * W), Int.mul_comm 8 W, Int.mul_assoc]
  have c1 : 8 * H * v.p1 = v.p1 * H * 8 := by rw [Int.mul_comm (8 * H), Int.mul_comm 8 H, Int.mul_assoc]
  have c2 : 65535 * v.p2 = v.p2 * 65535 := Int.mul_comm _ _
  unfold ofF
  simp only [e3, eW, eH, lim4_id h0, lim4_id h1, lim4_id h2, c0, c1, c2]
  exact rpoint_main v.p0 v.p1 v.p2 v.p3 W H _ _ _ _ _ _ (by omega) (by omega) (by omega) (by omega) h2 ⟨h4, h3.2⟩ hW hH rfl rfl rfl d0 d1 (fun u => rbound_any _ _ _ (by omega) u) (fun u => rbound_any _ _ _ (by omega) u) (fun u => rbound_any _ _ _ (by omega) u) w
end Go.Proofs.Ytglehnmkdapnpaa

namespace Go.Proofs.Ytglehnmkdapnpaa
open Go.RowKit
set_option linter.unusedVariables false
def lst (a b c : Int) (i : Nat) : Int := if i ≤ 1 then a else if i = 2 then min a b else min (min a b) c
def ptU (x0 x1 x2 y0 y1 y2 e0 e1 e2 : Int) (i : Nat) : Array Value :=
  if i = 0 then #[.int .i64 0, .int .i64 0, .int .i64 0, .int .i64 0, .int .i64 0, .int .i64 0, .int .i64 0, .int .i64 0, .int .i64 0, .int .i64 0, .int .i64 0, .int .i64 0, .int .i64 0, .int .i64 0, .int .i64 0, .int .i64 0, .int .i64 0, .int .i64 0, .int .i64 0, .int .i64 0, .int .i64 0, .int .i64 0, .int .i64 0, .int .i64 0] else if i = 1 then #[.int .i64 x0, .int .i64 y0, .int .i64 0, .int .i64 0, .int .i64 0, .int .i64 0, .int .i64 e0, .int .i64 0, .int .i64 0, .int .i64 0, .int .i64 0, .int .i64 0, .int .i64 0, .int .i64 0, .int .i64 0, .int .i64 0, .int .i64 0, .int .i64 0, .int .i64 0, .int .i64 0, .int .i64 0, .int .i64 0, .int .i64 0, .int .i64 0] else if i = 2 then #[.int .i64 x0, .int .i64 y0, .int .i64 x1, .int .i64 y1, .int .i64 0, .int .i64 0, .int .i64 e0, .int .i64 e1, .int .i64 0, .int .i64 0, .int .i64 0, .int .i64 0, .int .i64 0, .int .i64 0, .int .i64 0, .int .i64 0, .int .i64 0, .int .i64 0, .int .i64 0, .int .i64 0, .int .i64 0, .int .i64 0, .int .i64 0, .int .i64 0] else #[.int .i64 x0, .int .i64 y0, .int .i64 x1, .int .i64 y1, .int .i64 x2, .int .i64 y2, .int .i64 e0, .int .i64 e1, .int .i64 e2, .int .i64 0, .int .i64 0, .int .i64 0, .int .i64 0, .int .i64 0, .int .i64 0, .int .i64 0, .int .i64 0, .int .i64 0, .int .i64 0, .int .i64 0, .int .i64 0, .int .i64 0, .int .i64 0, .int .i64 0]
theorem Blk.mid13 {w : World} {b : Nat} {z : Array Value} {T : TypeId} (h : Blk w b z T) (o : Nat) (cs : List Value) (hcs : (z.toList.drop o).take cs.length = cs) : w.rangeAt b o cs := fun j v hv => by
  rw [h.cell]
  rw [← hcs, List.getElem?_take] at hv
  split at hv
  · rw [List.getElem?_drop] at hv
    simpa using hv
  · cases hv
section
variable {P : Program} {ops : Array Oper} {rest : List Oper} {o : Oper} {a : Act} {w : World} {Q : Exit → Act → World → Prop}
theorem wpList_build13 (hg : o.guard = none) (t : TypeId) (parts : Array (Nat × Operand)) (ho : o.op = .build t parts) (cells : Array Value)
    (hb : P.built t (parts.map fun (i, x) => (i, a.eval x)).toList = some cells) (h : wpList P ops Q rest (a.put o.dst (.agg cells)) w) : wpList P ops Q (o :: rest) a w :=
  wpList_build hg t parts ho (by rw [hb]; rfl) (by rw [hb]; exact h)
end
set_option maxRecDepth 100000 in
set_option maxHeartbeats 4000000 in
theorem rmake_out (a0 a1 a2 a3 a4 a5 a6 a7 b0 b1 b2 b3 b4 b5 b6 b7 c0 c1 c2 c3 c4 c5 c6 c7 x0 x1 x2 y0 y1 y2 e0 e1 e2 W H cull ar : Int) (hp0 : 256 ≤ a3 ∧ a3 ≤ 4194304) (hp1 : 256 ≤ b3 ∧ b3 ≤ 4194304) (hp2 : 256 ≤ c3 ∧ c3 ≤ 4194304)
    (hP0 : ∀ u : World, Calls Try.prog 27 #[.agg #[.int .i64 a0, .int .i64 a1, .int .i64 a2, .int .i64 a3], .int .i64 W, .int .i64 H] u fun e w' => e = .returned (.tuple #[.agg #[.int .i64 x0, .int .i64 y0], .int .i64 e0]) ∧ Ext u w')
    (hP1 : ∀ u : World, Calls Try.prog 27 #[.agg #[.int .i64 b0, .int .i64 b1, .int .i64 b2, .int .i64 b3], .int .i64 W, .int .i64 H] u fun e w' => e = .returned (.tuple #[.agg #[.int .i64 x1, .int .i64 y1], .int .i64 e1]) ∧ Ext u w')
    (hP2 : ∀ u : World, Calls Try.prog 27 #[.agg #[.int .i64 c0, .int .i64 c1, .int .i64 c2, .int .i64 c3], .int .i64 W, .int .i64 H] u fun e w' => e = .returned (.tuple #[.agg #[.int .i64 x2, .int .i64 y2], .int .i64 e2]) ∧ Ext u w')
    (hS : ∀ u : World, Calls Try.prog 28 #[.agg #[.int .i64 x0, .int .i64 y0], .agg #[.int .i64 x1, .int .i64 y1], .agg #[.int .i64 x2, .int .i64 y2]] u fun e w' => e = .returned (.int .i64 ar) ∧ Ext u w') (ho : outF ar cull) (w : World) :
    Calls Try.prog 12 #[.agg #[.int .i64 a0, .int .i64 a1, .int .i64 a2, .int .i64 a3, .int .i64 a4, .int .i64 a5, .int .i64 a6, .int .i64 a7, .int .i64 b0, .int .i64 b1, .int .i64 b2, .int .i64 b3, .int .i64 b4, .int .i64 b5, .int .i64 b6, .int .i64 b7, .int .i64 c0, .int .i64 c1, .int .i64 c2, .int .i64 c3, .int .i64 c4, .int .i64 c5, .int .i64 c6, .int .i64 c7], .int .i64 W, .int .i64 H, .int .i64 cull] w fun e w' => e = .returned (.tuple #[.agg #[.int .i64 0, .int .i64 0, .int .i64 0, .int .i64 0, .int .i64 0, .int .i64 0, .int .i64 0, .int .i64 0, .int .i64 0, .int .i64 0, .int .i64 0, .int .i64 0, .int .i64 0, .int .i64 0, .int .i64 0, .int .i64 0, .int .i64 0, .int .i64 0, .int .i64 0, .int .i64 0, .int .i64 0, .int .i64 0, .int .i64 0, .int .i64 0], .bool false]) ∧ Ext w w' := by
  have HS := Lib.hid hS
  have HP0 := Lib.hid hP0
  have HP1 := Lib.hid hP1
  have HP2 := Lib.hid hP2
  clear hS hP0 hP1 hP2
  have xx : Ext w (((w.alloc (.cells #[.int .i64 a0, .int .i64 a1, .int .i64 a2, .int .i64 a3, .int .i64 a4, .int .i64 a5, .int .i64 a6, .int .i64 a7, .int .i64 b0, .int .i64 b1, .int .i64 b2, .int .i64 b3, .int .i64 b4, .int .i64 b5, .int .i64 b6, .int .i64 b7, .int .i64 c0, .int .i64 c1, .int .i64 c2, .int .i64 c3, .int .i64 c4, .int .i64 c5, .int .i64 c6, .int .i64 c7] 48)).alloc (.cells #[.int .i64 0, .int .i64 0, .int .i64 0, .int .i64 0, .int .i64 0, .int .i64 0, .int .i64 0, .int .i64 0, .int .i64 0, .int .i64 0, .int .i64 0, .int .i64 0, .int .i64 0, .int .i64 0, .int .i64 0, .int .i64 0, .int .i64 0, .int .i64 0, .int .i64 0, .int .i64 0, .int .i64 0, .int .i64 0, .int .i64 0, .int .i64 0] 42)).alloc (.cells #[.int .i64 0, .int .i64 0, .int .i64 0, .int .i64 0, .int .i64 0, .int .i64 0, .int .i64 0, .int .i64 0, .int .i64 0, .int .i64 0, .int .i64 0, .int .i64 0, .int .i64 0, .int .i64 0, .int .i64 0, .int .i64 0, .int .i64 0, .int .i64 0, .int .i64 0, .int .i64 0, .int .i64 0, .int .i64 0, .int .i64 0, .int .i64 0] 42)) := (((Ext.refl w).alloc _ _).alloc _ _).alloc _ _
  have B4 := ((Blk.new w #[.int .i64 a0, .int .i64 a1, .int .i64 a2, .int .i64 a3, .int .i64 a4, .int .i64 a5, .int .i64 a6, .int .i64 a7, .int .i64 b0, .int .i64 b1, .int .i64 b2, .int .i64 b3, .int .i64 b4, .int .i64 b5, .int .i64 b6, .int .i64 b7, .int .i64 c0, .int .i64 c1, .int .i64 c2, .int .i64 c3, .int .i64 c4, .int .i64 c5, .int .i64 c6, .int .i64 c7] 48).alloc (.cells #[.int .i64 0, .int .i64 0, .int .i64 0, .int .i64 0, .int .i64 0, .int .i64 0, .int .i64 0, .int .i64 0, .int .i64 0, .int .i64 0, .int .i64 0, .int .i64 0, .int .i64 0, .int .i64 0, .int .i64 0, .int .i64 0, .int .i64 0, .int .i64 0, .int .i64 0, .int .i64 0, .int .i64 0, .int .i64 0, .int .i64 0, .int .i64 0] 42)).alloc (.cells #[.int .i64 0, .int .i64 0, .int .i64 0, .int .i64 0, .int .i64 0, .int .i64 0, .int .i64 0, .int .i64 0, .int .i64 0, .int .i64 0, .int .i64 0, .int .i64 0, .int .i64 0, .int .i64 0, .int .i64 0, .int .i64 0, .int .i64 0, .int .i64 0, .int .i64 0, .int .i64 0, .int .i64 0, .int .i64 0, .int .i64 0, .int .i64 0] 42)
  have B8 := (Blk.new (w.alloc (.cells #[.int .i64 a0, .int .i64 a1, .int .i64 a2, .int .i64 a3, .int .i64 a4, .int .i64 a5, .int .i64 a6, .int .i64 a7, .int .i64 b0, .int .i64 b1, .int .i64 b2, .int .i64 b3, .int .i64 b4, .int .i64 b5, .int .i64 b6, .int .i64 b7, .int .i64 c0, .int .i64 c1, .int .i64 c2, .int .i64 c3, .int .i64 c4, .int .i64 c5, .int .i64 c6, .int .i64 c7] 48)) #[.int .i64 0, .int .i64 0, .int .i64 0, .int .i64 0, .int .i64 0, .int .i64 0, .int .i64 0, .int .i64 0, .int .i64 0, .int .i64 0, .int .i64 0, .int .i64 0, .int .i64 0, .int .i64 0, .int .i64 0, .int .i64 0, .int .i64 0, .int .i64 0, .int .i64 0, .int .i64 0, .int .i64 0, .int .i64 0, .int .i64 0, .int .i64 0] 42).alloc (.cells #[.int .i64 0, .int .i64 0, .int .i64 0, .int .i64 0, .int .i64 0, .int .i64 0, .int .i64 0, .int .i64 0, .int .i64 0, .int .i64 0, .int .i64 0, .int .i64 0, .int .i64 0, .int .i64 0, .int .i64 0, .int .i64 0, .int .i64 0, .int .i64 0, .int .i64 0, .int .i64 0, .int .i64 0, .int .i64 0, .int .i64 0, .int .i64 0] 42)
  have B10 := Blk.new ((w.alloc (.cells #[.int .i64 a0, .int .i64 a1, .int .i64 a2, .int .i64 a3, .int .i64 a4, .int .i64 a5, .int .i64 a6, .int .i64 a7, .int .i64 b0, .int .i64 b1, .int .i64 b2, .int .i64 b3, .int .i64 b4, .int .i64 b5, .int .i64 b6, .int .i64 b7, .int .i64 c0, .int .i64 c1, .int .i64 c2, .int .i64 c3, .int .i64 c4, .int .i64 c5, .int .i64 c6, .int .i64 c7] 48)).alloc (.cells #[.int .i64 0, .int .i64 0, .int .i64 0, .int .i64 0, .int .i64 0, .int .i64 0, .int .i64 0, .int .i64 0, .int .i64 0, .int .i64 0, .int .i64 0, .int .i64 0, .int .i64 0, .int .i64 0, .int .i64 0, .int .i64 0, .int .i64 0, .int .i64 0, .int .i64 0, .int .i64 0, .int .i64 0, .int .i64 0, .int .i64 0, .int .i64 0] 42)) #[.int .i64 0, .int .i64 0, .int .i64 0, .int .i64 0, .int .i64 0, .int .i64 0, .int .i64 0, .int .i64 0, .int .i64 0, .int .i64 0, .int .i64 0, .int .i64 0, .int .i64 0, .int .i64 0, .int .i64 0, .int .i64 0, .int .i64 0, .int .i64 0, .int .i64 0, .int .i64 0, .int .i64 0, .int .i64 0, .int .i64 0, .int .i64 0] 42
  go_enter Try.func12, Try.ntmps12
  go_upto_region 2 with fail
  simp only [World.size_alloc] at B8 B10
  generalize (((w.alloc (.cells #[.int .i64 a0, .int .i64 a1, .int .i64 a2, .int .i64 a3, .int .i64 a4, .int .i64 a5, .int .i64 a6, .int .i64 a7, .int .i64 b0, .int .i64 b1, .int .i64 b2, .int .i64 b3, .int .i64 b4, .int .i64 b5, .int .i64 b6, .int .i64 b7, .int .i64 c0, .int .i64 c1, .int .i64 c2, .int .i64 c3, .int .i64 c4, .int .i64 c5, .int .i64 c6, .int .i64 c7] 48)).alloc (.cells #[.int .i64 0, .int .i64 0, .int .i64 0, .int .i64 0, .int .i64 0, .int .i64 0, .int .i64 0, .int .i64 0, .int .i64 0, .int .i64 0, .int .i64 0, .int .i64 0, .int .i64 0, .int .i64 0, .int .i64 0, .int .i64 0, .int .i64 0, .int .i64 0, .int .i64 0, .int .i64 0, .int .i64 0, .int .i64 0, .int .i64 0, .int .i64 0] 42)).alloc (.cells #[.int .i64 0, .int .i64 0, .int .i64 0, .int .i64 0, .int .i64 0, .int .i64 0, .int .i64 0, .int .i64 0, .int .i64 0, .int .i64 0, .int .i64 0, .int .i64 0, .int .i64 0, .int .i64 0, .int .i64 0, .int .i64 0, .int .i64 0, .int .i64 0, .int .i64 0, .int .i64 0, .int .i64 0, .int .i64 0, .int .i64 0, .int .i64 0] 42)) = w3 at *
  have kk4 := B4.cell
  go_wp2_with fail
  clear kk4
  go_loopg [11, 12] 3 (fun g0 v11 iv wx => ∃ (i : Nat) (m : Int), i + g0 = 3 ∧ iv = .int .i64 i ∧ v11 = .int .i64 m ∧ lst a3 b3 c3 i = m ∧ Blk wx (w.heap.size + 1 + 1) (ptU x0 x1 x2 y0 y1 y2 e0 e1 e2 i) 42 ∧ Blk wx w.heap.size #[.int .i64 a0, .int .i64 a1, .int .i64 a2, .int .i64 a3, .int .i64 a4, .int .i64 a5, .int .i64 a6, .int .i64 a7, .int .i64 b0, .int .i64 b1, .int .i64 b2, .int .i64 b3, .int .i64 b4, .int .i64 b5, .int .i64 b6, .int .i64 b7, .int .i64 c0, .int .i64 c1, .int .i64 c2, .int .i64 c3, .int .i64 c4, .int .i64 c5, .int .i64 c6, .int .i64 c7] 48 ∧ Blk wx (w.heap.size + 1) #[.int .i64 0, .int .i64 0, .int .i64 0, .int .i64 0, .int .i64 0, .int .i64 0, .int .i64 0, .int .i64 0, .int .i64 0, .int .i64 0, .int .i64 0, .int .i64 0, .int .i64 0, .int .i64 0, .int .i64 0, .int .i64 0, .int .i64 0, .int .i64 0, .int .i64 0, .int .i64 0, .int .i64 0, .int .i64 0, .int .i64 0, .int .i64 0] 42 ∧ Ext w wx)
  case atStart => exact ⟨0, a3, by omega, by simp, rfl, rfl, B10, B4, B8, xx⟩
  case round =>
        clear B4 B8 B10 xx
        generalize wr = wy at *
        obtain ⟨i, m, hik, rfl, rfl, hmm, B10, B4, B8, xx⟩ := hrel
        by_cases hi : i < 3
        · have hiI : (i : Int) < 3 := by omega
          have kk4 := B4.cell
          rcases (show i = 0 ∨ i = 1 ∨ i = 2 by omega) with hc | hc | hc
          · have hI0 : (i : Int) = 0 := by omega
            have eU : ptU x0 x1 x2 y0 y1 y2 e0 e1 e2 i = #[.int .i64 0, .int .i64 0, .int .i64 0, .int .i64 0, .int .i64 0, .int .i64 0, .int .i64 0, .int .i64 0, .int .i64 0, .int .i64 0, .int .i64 0, .int .i64 0, .int .i64 0, .int .i64 0, .int .i64 0, .int .i64 0, .int .i64 0, .int .i64 0, .int .i64 0, .int .i64 0, .int .i64 0, .int .i64 0, .int .i64 0, .int .i64 0] := by rw [hc]; rfl
            rw [eU] at B10
            have hm : lst a3 b3 c3 i = m := hmm
            have R := Lib.hid (B4.mid13 0 [.int .i64 a0, .int .i64 a1, .int .i64 a2, .int .i64 a3] rfl)
            go_wp2_with (first
              | ((with_reducible refine wpList_load_mid (op := ⟨some 29, _, _, _, _, _⟩) ?_ 29 (.tmp 28) ?_ w.heap.size 0 ?_ [.int .i64 a0, .int .i64 a1, .int .i64 a2, .int .i64 a3] _ R.out Try.underlying29 ?_ ?_ ?_); rfl; rfl; rfl; rfl; kernel_rfl)
              | fail)
            refine (HP0.out _).mono ?_
            rintro e w4 ⟨rfl, x4⟩
            have xx := xx.trans x4
            have B4 := B4.ext x4
            have B8 := B8.ext x4
            have B10 := B10.ext x4
            clear x4 R
            have c10 := B10.cell
            have f10 := B10.frozen
            go_upto_region 7 with fail
            have B10 : Blk (((w4.setCell ⟨w.heap.size + 1 + 1, 0, none⟩ (.int .i64 x0)).setCell ⟨w.heap.size + 1 + 1, 1, none⟩ (.int .i64 y0)).setCell ⟨w.heap.size + 1 + 1, 6, none⟩ (.int .i64 e0)) (w.heap.size + 1 + 1) #[.int .i64 x0, .int .i64 y0, .int .i64 0, .int .i64 0, .int .i64 0, .int .i64 0, .int .i64 e0, .int .i64 0, .int .i64 0, .int .i64 0, .int .i64 0, .int .i64 0, .int .i64 0, .int .i64 0, .int .i64 0, .int .i64 0, .int .i64 0, .int .i64 0, .int .i64 0, .int .i64 0, .int .i64 0, .int .i64 0, .int .i64 0, .int .i64 0] 42 := by simpa using ((B10.set 0 (.int .i64 x0)).set 1 (.int .i64 y0)).set 6 (.int .i64 e0)
            have B4 := ((B4.far (p := ⟨w.heap.size + 1 + 1, 0, none⟩) (by simp only; omega) (.int .i64 x0)).far (p := ⟨w.heap.size + 1 + 1, 1, none⟩) (by simp only; omega) (.int .i64 y0)).far (p := ⟨w.heap.size + 1 + 1, 6, none⟩) (by simp only; omega) (.int .i64 e0)
            have B8 := ((B8.far (p := ⟨w.heap.size + 1 + 1, 0, none⟩) (by simp only; omega) (.int .i64 x0)).far (p := ⟨w.heap.size + 1 + 1, 1, none⟩) (by simp only; omega) (.int .i64 y0)).far (p := ⟨w.heap.size + 1 + 1, 6, none⟩) (by simp only; omega) (.int .i64 e0)
            have xx := ((xx.setCell (p := ⟨w.heap.size + 1 + 1, 0, none⟩) (by simp only; omega) (.int .i64 x0)).setCell (p := ⟨w.heap.size + 1 + 1, 1, none⟩) (by simp only; omega) (.int .i64 y0)).setCell (p := ⟨w.heap.size + 1 + 1, 6, none⟩) (by simp only; omega) (.int .i64 e0)
            clear c10 f10
            generalize ((w4.setCell ⟨w.heap.size + 1 + 1, 0, none⟩ (.int .i64 x0)).setCell ⟨w.heap.size + 1 + 1, 1, none⟩ (.int .i64 y0)).setCell ⟨w.heap.size + 1 + 1, 6, none⟩ (.int .i64 e0) = w5 at *
            have kk4 := B4.cell
            have eN : #[.int .i64 x0, .int .i64 y0, .int .i64 0, .int .i64 0, .int .i64 0, .int .i64 0, .int .i64 e0, .int .i64 0, .int .i64 0, .int .i64 0, .int .i64 0, .int .i64 0, .int .i64 0, .int .i64 0, .int .i64 0, .int .i64 0, .int .i64 0, .int .i64 0, .int .i64 0, .int .i64 0, .int .i64 0, .int .i64 0, .int .i64 0, .int .i64 0] = ptU x0 x1 x2 y0 y1 y2 e0 e1 e2 (i + 1) := by rw [hc]; rfl
            rw [eN] at B10
            by_cases hs : a3 < m
            · have hl : lst a3 b3 c3 (i + 1) = a3 := by
                have hm' := hm
                rw [hc] at hm' ⊢
                (simp [lst] at hm' ⊢) <;> omega
              clear hm hmm
              go_wp2
              go_roundg (gk - 1)
              case measure => omega
              case rel => exact ⟨i + 1, a3, by omega, by simp; omega, rfl, hl, B10, B4, B8, xx⟩
            · have hl : lst a3 b3 c3 (i + 1) = m := by
                have hm' := hm
                rw [hc] at hm' ⊢
                (simp [lst] at hm' ⊢) <;> omega
              clear hm hmm
              go_wp2
              go_roundg (gk - 1)
              case measure => omega
              case rel => exact ⟨i + 1, m, by omega, by simp; omega, rfl, hl, B10, B4, B8, xx⟩
          · have hI0 : (i : Int) = 1 := by omega
            have eU : ptU x0 x1 x2 y0 y1 y2 e0 e1 e2 i = #[.int .i64 x0, .int .i64 y0, .int .i64 0, .int .i64 0, .int .i64 0, .int .i64 0, .int .i64 e0, .int .i64 0, .int .i64 0, .int .i64 0, .int .i64 0, .int .i64 0, .int .i64 0, .int .i64 0, .int .i64 0, .int .i64 0, .int .i64 0, .int .i64 0, .int .i64 0, .int .i64 0, .int .i64 0, .int .i64 0, .int .i64 0, .int .i64 0] := by rw [hc]; rfl
            rw [eU] at B10
            have hm : lst a3 b3 c3 i = m := hmm
            have R := Lib.hid (B4.mid13 8 [.int .i64 b0, .int .i64 b1, .int .i64 b2, .int .i64 b3] rfl)
            go_wp2_with (first
              | ((with_reducible refine wpList_load_mid (op := ⟨some 29, _, _, _, _, _⟩) ?_ 29 (.tmp 28) ?_ w.heap.size 8 ?_ [.int .i64 b0, .int .i64 b1, .int .i64 b2, .int .i64 b3] _ R.out Try.underlying29 ?_ ?_ ?_); rfl; rfl; rfl; rfl; kernel_rfl)
              | fail)
            refine (HP1.out _).mono ?_
            rintro e w4 ⟨rfl, x4⟩
            have xx := xx.trans x4
            have B4 := B4.ext x4
            have B8 := B8.ext x4
            have B10 := B10.ext x4
            clear x4 R
            have c10 := B10.cell
            have f10 := B10.frozen
            go_upto_region 7 with fail
            have B10 : Blk (((w4.setCell ⟨w.heap.size + 1 + 1, 2, none⟩ (.int .i64 x1)).setCell ⟨w.heap.size + 1 + 1, 3, none⟩ (.int .i64 y1)).setCell ⟨w.heap.size + 1 + 1, 7, none⟩ (.int .i64 e1)) (w.heap.size + 1 + 1) #[.int .i64 x0, .int .i64 y0, .int .i64 x1, .int .i64 y1, .int .i64 0, .int .i64 0, .int .i64 e0, .int .i64 e1, .int .i64 0, .int .i64 0, .int .i64 0, .int .i64 0, .int .i64 0, .int .i64 0, .int .i64 0, .int .i64 0, .int .i64 0, .int .i64 0, .int .i64 0, .int .i64 0, .int .i64 0, .int .i64 0, .int .i64 0, .int .i64 0] 42 := by simpa using ((B10.set 2 (.int .i64 x1)).set 3 (.int .i64 y1)).set 7 (.int .i64 e1)
            have B4 := ((B4.far (p := ⟨w.heap.size + 1 + 1, 2, none⟩) (by simp only; omega) (.int .i64 x1)).far (p := ⟨w.heap.size + 1 + 1, 3, none⟩) (by simp only; omega) (.int .i64 y1)).far (p := ⟨w.heap.size + 1 + 1, 7, none⟩) (by simp only; omega) (.int .i64 e1)
            have B8 := ((B8.far (p := ⟨w.heap.size + 1 + 1, 2, none⟩) (by simp only; omega) (.int .i64 x1)).far (p := ⟨w.heap.size + 1 + 1, 3, none⟩) (by simp only; omega) (.int .i64 y1)).far (p := ⟨w.heap.size + 1 + 1, 7, none⟩) (by simp only; omega) (.int .i64 e1)
            have xx := ((xx.setCell (p := ⟨w.heap.size + 1 + 1, 2, none⟩) (by simp only; omega) (.int .i64 x1)).setCell (p := ⟨w.heap.size + 1 + 1, 3, none⟩) (by simp only; omega) (.int .i64 y1)).setCell (p := ⟨w.heap.size + 1 + 1, 7, none⟩) (by simp only; omega) (.int .i64 e1)
            clear c10 f10
            generalize ((w4.setCell ⟨w.heap.size + 1 + 1, 2, none⟩ (.int .i64 x1)).setCell ⟨w.heap.size + 1 + 1, 3, none⟩ (.int .i64 y1)).setCell ⟨w.heap.size + 1 + 1, 7, none⟩ (.int .i64 e1) = w5 at *
            have kk4 := B4.cell
            have eN : #[.int .i64 x0, .int .i64 y0, .int .i64 x1, .int .i64 y1, .int .i64 0, .int .i64 0, .int .i64 e0, .int .i64 e1, .int .i64 0, .int .i64 0, .int .i64 0, .int .i64 0, .int .i64 0, .int .i64 0, .int .i64 0, .int .i64 0, .int .i64 0, .int .i64 0, .int .i64 0, .int .i64 0, .int .i64 0, .int .i64 0, .int .i64 0, .int .i64 0] = ptU x0 x1 x2 y0 y1 y2 e0 e1 e2 (i + 1) := by rw [hc]; rfl
            rw [eN] at B10
            by_cases hs : b3 < m
            · have hl : lst a3 b3 c3 (i + 1) = b3 := by
                have hm' := hm
                rw [hc] at hm' ⊢
                (simp [lst] at hm' ⊢) <;> omega
              clear hm hmm
              go_wp2
              go_roundg (gk - 1)
              case measure => omega
              case rel => exact ⟨i + 1, b3, by omega, by simp; omega, rfl, hl, B10, B4, B8, xx⟩
            · have hl : lst a3 b3 c3 (i + 1) = m := by
                have hm' := hm
                rw [hc] at hm' ⊢
                (simp [lst] at hm' ⊢) <;> omega
              clear hm hmm
              go_wp2
              go_roundg (gk - 1)
              case measure => omega
              case rel => exact ⟨i + 1, m, by omega, by simp; omega, rfl, hl, B10, B4, B8, xx⟩
          · have hI0 : (i : Int) = 2 := by omega
            have eU : ptU x0 x1 x2 y0 y1 y2 e0 e1 e2 i = #[.int .i64 x0, .int .i64 y0, .int .i64 x1, .int .i64 y1, .int .i64 0, .int .i64 0, .int .i64 e0, .int .i64 e1, .int .i64 0, .int .i64 0, .int .i64 0, .int .i64 0, .int .i64 0, .int .i64 0, .int .i64 0, .int .i64 0, .int .i64 0, .int .i64 0, .int .i64 0, .int .i64 0, .int .i64 0, .int .i64 0, .int .i64 0, .int .i64 0] := by rw [hc]; rfl
            rw [eU] at B10
            have hm : lst a3 b3 c3 i = m := hmm
            have R := Lib.hid (B4.mid13 16 [.int .i64 c0, .int .i64 c1, .int .i64 c2, .int .i64 c3] rfl)
            go_wp2_with (first
              | ((with_reducible refine wpList_load_mid (op := ⟨some 29, _, _, _, _, _⟩) ?_ 29 (.tmp 28) ?_ w.heap.size 16 ?_ [.int .i64 c0, .int .i64 c1, .int .i64 c2, .int .i64 c3] _ R.out Try.underlying29 ?_ ?_ ?_); rfl; rfl; rfl; rfl; kernel_rfl)
              | fail)
            refine (HP2.out _).mono ?_
            rintro e w4 ⟨rfl, x4⟩
            have xx := xx.trans x4
            have B4 := B4.ext x4
            have B8 := B8.ext x4
            have B10 := B10.ext x4
            clear x4 R
            have c10 := B10.cell
            have f10 := B10.frozen
            go_upto_region 7 with fail
            have B10 : Blk (((w4.setCell ⟨w.heap.size + 1 + 1, 4, none⟩ (.int .i64 x2)).setCell ⟨w.heap.size + 1 + 1, 5, none⟩ (.int .i64 y2)).setCell ⟨w.heap.size + 1 + 1, 8, none⟩ (.int .i64 e2)) (w.heap.size + 1 + 1) #[.int .i64 x0, .int .i64 y0, .int .i64 x1, .int .i64 y1, .int .i64 x2, .int .i64 y2, .int .i64 e0, .int .i64 e1, .int .i64 e2, .int .i64 0, .int .i64 0, .int .i64 0, .int .i64 0, .int .i64 0, .int .i64 0, .int .i64 0, .int .i64 0, .int .i64 0, .int .i64 0, .int .i64 0, .int .i64 0, .int .i64 0, .int .i64 0, .int .i64 0] 42 := by simpa using ((B10.set 4 (.int .i64 x2)).set 5 (.int .i64 y2)).set 8 (.int .i64 e2)
            have B4 := ((B4.far (p := ⟨w.heap.size + 1 + 1, 4, none⟩) (by simp only; omega) (.int .i64 x2)).far (p := ⟨w.heap.size + 1 + 1, 5, none⟩) (by simp only; omega) (.int .i64 y2)).far (p := ⟨w.heap.size + 1 + 1, 8, none⟩) (by simp only; omega) (.int .i64 e2)
            have B8 := ((B8.far (p := ⟨w.heap.size + 1 + 1, 4, none⟩) (by simp only; omega) (.int .i64 x2)).far (p := ⟨w.heap.size + 1 + 1, 5, none⟩) (by simp only; omega) (.int .i64 y2)).far (p := ⟨w.heap.size + 1 + 1, 8, none⟩) (by simp only; omega) (.int .i64 e2)
            have xx := ((xx.setCell (p := ⟨w.heap.size + 1 + 1, 4, none⟩) (by simp only; omega) (.int .i64 x2)).setCell (p := ⟨w.heap.size + 1 + 1, 5, none⟩) (by simp only; omega) (.int .i64 y2)).setCell (p := ⟨w.heap.size + 1 + 1, 8, none⟩) (by simp only; omega) (.int .i64 e2)
            clear c10 f10
            generalize ((w4.setCell ⟨w.heap.size + 1 + 1, 4, none⟩ (.int .i64 x2)).setCell ⟨w.heap.size + 1 + 1, 5, none⟩ (.int .i64 y2)).setCell ⟨w.heap.size + 1 + 1, 8, none⟩ (.int .i64 e2) = w5 at *
            have kk4 := B4.cell
            have eN : #[.int .i64 x0, .int .i64 y0, .int .i64 x1, .int .i64 y1, .int .i64 x2, .int .i64 y2, .int .i64 e0, .int .i64 e1, .int .i64 e2, .int .i64 0, .int .i64 0, .int .i64 0, .int .i64 0, .int .i64 0, .int .i64 0, .int .i64 0, .int .i64 0, .int .i64 0, .int .i64 0, .int .i64 0, .int .i64 0, .int .i64 0, .int .i64 0, .int .i64 0] = ptU x0 x1 x2 y0 y1 y2 e0 e1 e2 (i + 1) := by rw [hc]; rfl
            rw [eN] at B10
            by_cases hs : c3 < m
            · have hl : lst a3 b3 c3 (i + 1) = c3 := by
                have hm' := hm
                rw [hc] at hm' ⊢
                (simp [lst] at hm' ⊢) <;> omega
              clear hm hmm
              go_wp2
              go_roundg (gk - 1)
              case measure => omega
              case rel => exact ⟨i + 1, c3, by omega, by simp; omega, rfl, hl, B10, B4, B8, xx⟩
            · have hl : lst a3 b3 c3 (i + 1) = m := by
                have hm' := hm
                rw [hc] at hm' ⊢
                (simp [lst] at hm' ⊢) <;> omega
              clear hm hmm
              go_wp2
              go_roundg (gk - 1)
              case measure => omega
              case rel => exact ⟨i + 1, m, by omega, by simp; omega, rfl, hl, B10, B4, B8, xx⟩
        · obtain rfl : i = 3 := by omega
          have hm3 : min (min a3 b3) c3 = m := hmm
          have B10 : Blk wy (w.heap.size + 1 + 1) #[.int .i64 x0, .int .i64 y0, .int .i64 x1, .int .i64 y1, .int .i64 x2, .int .i64 y2, .int .i64 e0, .int .i64 e1, .int .i64 e2, .int .i64 0, .int .i64 0, .int .i64 0, .int .i64 0, .int .i64 0, .int .i64 0, .int .i64 0, .int .i64 0, .int .i64 0, .int .i64 0, .int .i64 0, .int .i64 0, .int .i64 0, .int .i64 0, .int .i64 0] 42 := B10
          clear hmm hik HP0 HP1 HP2
          have c10 := B10.cell
          go_wp2_with fail
          refine (HS.out _).mono ?_
          rintro e w6 ⟨rfl, x6⟩
          have xx := xx.trans x6
          have B4 := B4.ext x6
          have B8 := B8.ext x6
          have B10 := B10.ext x6
          clear x6 c10 HS
          have Bf := B8.setRow #[.int .i64 0, .int .i64 0, .int .i64 0, .int .i64 0, .int .i64 0, .int .i64 0, .int .i64 0, .int .i64 0, .int .i64 0, .int .i64 0, .int .i64 0, .int .i64 0, .int .i64 0, .int .i64 0, .int .i64 0, .int .i64 0, .int .i64 0, .int .i64 0, .int .i64 0, .int .i64 0, .int .i64 0, .int .i64 0, .int .i64 0, .int .i64 0]
          have Ef := xx.setRow (g := w.heap.size + 1) (by omega) #[.int .i64 0, .int .i64 0, .int .i64 0, .int .i64 0, .int .i64 0, .int .i64 0, .int .i64 0, .int .i64 0, .int .i64 0, .int .i64 0, .int .i64 0, .int .i64 0, .int .i64 0, .int .i64 0, .int .i64 0, .int .i64 0, .int .i64 0, .int .i64 0, .int .i64 0, .int .i64 0, .int .i64 0, .int .i64 0, .int .i64 0, .int .i64 0]
          rcases ho with g | ⟨g1, g2⟩ | ⟨g1, g2⟩
          · skip
            go_wp2_with (first
              | ((with_reducible refine wpList_build13 (o := ⟨some 79, _, _, _, _, _⟩) ?_ 42 #[] ?_ #[.int .i64 0, .int .i64 0, .int .i64 0, .int .i64 0, .int .i64 0, .int .i64 0, .int .i64 0, .int .i64 0, .int .i64 0, .int .i64 0, .int .i64 0, .int .i64 0, .int .i64 0, .int .i64 0, .int .i64 0, .int .i64 0, .int .i64 0, .int .i64 0, .int .i64 0, .int .i64 0, .int .i64 0, .int .i64 0, .int .i64 0, .int .i64 0] ?_ ?_); rfl; rfl; kernel_rfl)
              | ((with_reducible refine wpList_store_blk (op := ⟨none, .store 42 (.tmp 8) (.tmp 79), _, _, _, _⟩) ?_ 42 (.tmp 8) (.tmp 79) ?_ (w.heap.size + 1) ?_ (cs := #[.int .i64 0, .int .i64 0, .int .i64 0, .int .i64 0, .int .i64 0, .int .i64 0, .int .i64 0, .int .i64 0, .int .i64 0, .int .i64 0, .int .i64 0, .int .i64 0, .int .i64 0, .int .i64 0, .int .i64 0, .int .i64 0, .int .i64 0, .int .i64 0, .int .i64 0, .int .i64 0, .int .i64 0, .int .i64 0, .int .i64 0, .int .i64 0]) ?_ (z := #[.int .i64 0, .int .i64 0, .int .i64 0, .int .i64 0, .int .i64 0, .int .i64 0, .int .i64 0, .int .i64 0, .int .i64 0, .int .i64 0, .int .i64 0, .int .i64 0, .int .i64 0, .int .i64 0, .int .i64 0, .int .i64 0, .int .i64 0, .int .i64 0, .int .i64 0, .int .i64 0, .int .i64 0, .int .i64 0, .int .i64 0, .int .i64 0]) (T := 42) ?_ ?_ ?_ ?_ ?_); rfl; rfl; rfl; rfl; exact B8; kernel_rfl; kernel_rfl; kernel_rfl)
              | fail)
            exact bodyPost_ret (v := .tuple #[.agg #[.int .i64 0, .int .i64 0, .int .i64 0, .int .i64 0, .int .i64 0, .int .i64 0, .int .i64 0, .int .i64 0, .int .i64 0, .int .i64 0, .int .i64 0, .int .i64 0, .int .i64 0, .int .i64 0, .int .i64 0, .int .i64 0, .int .i64 0, .int .i64 0, .int .i64 0, .int .i64 0, .int .i64 0, .int .i64 0, .int .i64 0, .int .i64 0], .bool false]) (results_blk2 (b := w.heap.size + 1) (t := 8) (s := 9) (ty := 42) rfl rfl Bf Try.underlying42 rfl (by kernel_rfl) rfl) rfl ⟨rfl, Ef⟩
          · have g3 : ¬ ar = 0 := by omega
            go_wp2_with (first
              | ((with_reducible refine wpList_build13 (o := ⟨some 79, _, _, _, _, _⟩) ?_ 42 #[] ?_ #[.int .i64 0, .int .i64 0, .int .i64 0, .int .i64 0, .int .i64 0, .int .i64 0, .int .i64 0, .int .i64 0, .int .i64 0, .int .i64 0, .int .i64 0, .int .i64 0, .int .i64 0, .int .i64 0, .int .i64 0, .int .i64 0, .int .i64 0, .int .i64 0, .int .i64 0, .int .i64 0, .int .i64 0, .int .i64 0, .int .i64 0, .int .i64 0] ?_ ?_); rfl; rfl; kernel_rfl)
              | ((with_reducible refine wpList_store_blk (op := ⟨none, .store 42 (.tmp 8) (.tmp 79), _, _, _, _⟩) ?_ 42 (.tmp 8) (.tmp 79) ?_ (w.heap.size + 1) ?_ (cs := #[.int .i64 0, .int .i64 0, .int .i64 0, .int .i64 0, .int .i64 0, .int .i64 0, .int .i64 0, .int .i64 0, .int .i64 0, .int .i64 0, .int .i64 0, .int .i64 0, .int .i64 0, .int .i64 0, .int .i64 0, .int .i64 0, .int .i64 0, .int .i64 0, .int .i64 0, .int .i64 0, .int .i64 0, .int .i64 0, .int .i64 0, .int .i64 0]) ?_ (z := #[.int .i64 0, .int .i64 0, .int .i64 0, .int .i64 0, .int .i64 0, .int .i64 0, .int .i64 0, .int .i64 0, .int .i64 0, .int .i64 0, .int .i64 0, .int .i64 0, .int .i64 0, .int .i64 0, .int .i64 0, .int .i64 0, .int .i64 0, .int .i64 0, .int .i64 0, .int .i64 0, .int .i64 0, .int .i64 0, .int .i64 0, .int .i64 0]) (T := 42) ?_ ?_ ?_ ?_ ?_); rfl; rfl; rfl; rfl; exact B8; kernel_rfl; kernel_rfl; kernel_rfl)
              | fail)
            exact bodyPost_ret (v := .tuple #[.agg #[.int .i64 0, .int .i64 0, .int .i64 0, .int .i64 0, .int .i64 0, .int .i64 0, .int .i64 0, .int .i64 0, .int .i64 0, .int .i64 0, .int .i64 0, .int .i64 0, .int .i64 0, .int .i64 0, .int .i64 0, .int .i64 0, .int .i64 0, .int .i64 0, .int .i64 0, .int .i64 0, .int .i64 0, .int .i64 0, .int .i64 0, .int .i64 0], .bool false]) (results_blk2 (b := w.heap.size + 1) (t := 8) (s := 9) (ty := 42) rfl rfl Bf Try.underlying42 rfl (by kernel_rfl) rfl) rfl ⟨rfl, Ef⟩
          · have g3 : ¬ ar = 0 := by omega
            have g4 : ¬ ar < 0 := by omega
            go_wp2_with (first
              | ((with_reducible refine wpList_build13 (o := ⟨some 79, _, _, _, _, _⟩) ?_ 42 #[] ?_ #[.int .i64 0, .int .i64 0, .int .i64 0, .int .i64 0, .int .i64 0, .int .i64 0, .int .i64 0, .int .i64 0, .int .i64 0, .int .i64 0, .int .i64 0, .int .i64 0, .int .i64 0, .int .i64 0, .int .i64 0, .int .i64 0, .int .i64 0, .int .i64 0, .int .i64 0, .int .i64 0, .int .i64 0, .int .i64 0, .int .i64 0, .int .i64 0] ?_ ?_); rfl; rfl; kernel_rfl)
              | ((with_reducible refine wpList_store_blk (op := ⟨none, .store 42 (.tmp 8) (.tmp 79), _, _, _, _⟩) ?_ 42 (.tmp 8) (.tmp 79) ?_ (w.heap.size + 1) ?_ (cs := #[.int .i64 0, .int .i64 0, .int .i64 0, .int .i64 0, .int .i64 0, .int .i64 0, .int .i64 0, .int .i64 0, .int .i64 0, .int .i64 0, .int .i64 0, .int .i64 0, .int .i64 0, .int .i64 0, .int .i64 0, .int .i64 0, .int .i64 0, .int .i64 0, .int .i64 0, .int .i64 0, .int .i64 0, .int .i64 0, .int .i64 0, .int .i64 0]) ?_ (z := #[.int .i64 0, .int .i64 0, .int .i64 0, .int .i64 0, .int .i64 0, .int .i64 0, .int .i64 0, .int .i64 0, .int .i64 0, .int .i64 0, .int .i64 0, .int .i64 0, .int .i64 0, .int .i64 0, .int .i64 0, .int .i64 0, .int .i64 0, .int .i64 0, .int .i64 0, .int .i64 0, .int .i64 0, .int .i64 0, .int .i64 0, .int .i64 0]) (T := 42) ?_ ?_ ?_ ?_ ?_); rfl; rfl; rfl; rfl; exact B8; kernel_rfl; kernel_rfl; kernel_rfl)
              | fail)
            exact bodyPost_ret (v := .tuple #[.agg #[.int .i64 0, .int .i64 0, .int .i64 0, .int .i64 0, .int .i64 0, .int .i64 0, .int .i64 0, .int .i64 0, .int .i64 0, .int .i64 0, .int .i64 0, .int .i64 0, .int .i64 0, .int .i64 0, .int .i64 0, .int .i64 0, .int .i64 0, .int .i64 0, .int .i64 0, .int .i64 0, .int .i64 0, .int .i64 0, .int .i64 0, .int .i64 0], .bool false]) (results_blk2 (b := w.heap.size + 1) (t := 8) (s := 9) (ty := 42) rfl rfl Bf Try.underlying42 rfl (by kernel_rfl) rfl) rfl ⟨rfl, Ef⟩
set_option maxRecDepth 100000 in
set_option maxHeartbeats 4000000 in
theorem rmake_neg (a0 a1 a2 a3 a4 a5 a6 a7 b0 b1 b2 b3 b4 b5 b6 b7 c0 c1 c2 c3 c4 c5 c6 c7 x0 x1 x2 y0 y1 y2 e0 e1 e2 W H cull ar : Int) (hp0 : 256 ≤ a3 ∧ a3 ≤ 4194304) (hp1 : 256 ≤ b3 ∧ b3 ≤ 4194304) (hp2 : 256 ≤ c3 ∧ c3 ≤ 4194304)
    (hP0 : ∀ u : World, Calls Try.prog 27 #[.agg #[.int .i64 a0, .int .i64 a1, .int .i64 a2, .int .i64 a3], .int .i64 W, .int .i64 H] u fun e w' => e = .returned (.tuple #[.agg #[.int .i64 x0, .int .i64 y0], .int .i64 e0]) ∧ Ext u w')
    (hP1 : ∀ u : World, Calls Try.prog 27 #[.agg #[.int .i64 b0, .int .i64 b1, .int .i64 b2, .int .i64 b3], .int .i64 W, .int .i64 H] u fun e w' => e = .returned (.tuple #[.agg #[.int .i64 x1, .int .i64 y1], .int .i64 e1]) ∧ Ext u w')
    (hP2 : ∀ u : World, Calls Try.prog 27 #[.agg #[.int .i64 c0, .int .i64 c1, .int .i64 c2, .int .i64 c3], .int .i64 W, .int .i64 H] u fun e w' => e = .returned (.tuple #[.agg #[.int .i64 x2, .int .i64 y2], .int .i64 e2]) ∧ Ext u w')
    (hS : ∀ u : World, Calls Try.prog 28 #[.agg #[.int .i64 x0, .int .i64 y0], .agg #[.int .i64 x1, .int .i64 y1], .agg #[.int .i64 x2, .int .i64 y2]] u fun e w' => e = .returned (.int .i64 ar) ∧ Ext u w') (g1 : ar < 0) (g2 : cull ≠ 1) (t0 t1 t2 t3 t4 t5 t6 t7 t8 t9 t10 t11 t12 t13 t14 t15 t16 t17 t18 t19 t20 t21 t22 t23 : Int) (hRec : ∀ u : World, Calls Try.prog 12 #[.agg #[.int .i64 a0, .int .i64 a1, .int .i64 a2, .int .i64 a3, .int .i64 a4, .int .i64 a5, .int .i64 a6, .int .i64 a7, .int .i64 c0, .int .i64 c1, .int .i64 c2, .int .i64 c3, .int .i64 c4, .int .i64 c5, .int .i64 c6, .int .i64 c7, .int .i64 b0, .int .i64 b1, .int .i64 b2, .int .i64 b3, .int .i64 b4, .int .i64 b5, .int .i64 b6, .int .i64 b7], .int .i64 W, .int .i64 H, .int .i64 0] u fun e w' => e = .returned (.tuple #[.agg #[.int .i64 t0, .int .i64 t1, .int .i64 t2, .int .i64 t3, .int .i64 t4, .int .i64 t5, .int .i64 t6, .int .i64 t7, .int .i64 t8, .int .i64 t9, .int .i64 t10, .int .i64 t11, .int .i64 t12, .int .i64 t13, .int .i64 t14, .int .i64 t15, .int .i64 t16, .int .i64 t17, .int .i64 t18, .int .i64 t19, .int .i64 t20, .int .i64 t21, .int .i64 t22, .int .i64 t23], .bool true]) ∧ Ext u w') (w : World) :
    Calls Try.prog 12 #[.agg #[.int .i64 a0, .int .i64 a1, .int .i64 a2, .int .i64 a3, .int .i64 a4, .int .i64 a5, .int .i64 a6, .int .i64 a7, .int .i64 b0, .int .i64 b1, .int .i64 b2, .int .i64 b3, .int .i64 b4, .int .i64 b5, .int .i64 b6, .int .i64 b7, .int .i64 c0, .int .i64 c1, .int .i64 c2, .int .i64 c3, .int .i64 c4, .int .i64 c5, .int .i64 c6, .int .i64 c7], .int .i64 W, .int .i64 H, .int .i64 cull] w fun e w' => e = .returned (.tuple #[.agg #[.int .i64 t0, .int .i64 t1, .int .i64 t2, .int .i64 t3, .int .i64 t4, .int .i64 t5, .int .i64 t6, .int .i64 t7, .int .i64 t8, .int .i64 t9, .int .i64 t10, .int .i64 t11, .int .i64 t12, .int .i64 t13, .int .i64 t14, .int .i64 t15, .int .i64 t16, .int .i64 t17, .int .i64 t18, .int .i64 t19, .int .i64 t20, .int .i64 t21, .int .i64 t22, .int .i64 t23], .bool true]) ∧ Ext w w' := by
  have HRec := Lib.hid hRec
  clear hRec
  have g3 : ¬ ar = 0 := by omega
  have g4 : ¬ 0 < ar := by omega
  have g5 : (cull == 1) = false := by simpa using g2
  have HS := Lib.hid hS
  have HP0 := Lib.hid hP0
  have HP1 := Lib.hid hP1
  have HP2 := Lib.hid hP2
  clear hS hP0 hP1 hP2
  have xx : Ext w (((w.alloc (.cells #[.int .i64 a0, .int .i64 a1, .int .i64 a2, .int .i64 a3, .int .i64 a4, .int .i64 a5, .int .i64 a6, .int .i64 a7, .int .i64 b0, .int .i64 b1, .int .i64 b2, .int .i64 b3, .int .i64 b4, .int .i64 b5, .int .i64 b6, .int .i64 b7, .int .i64 c0, .int .i64 c1, .int .i64 c2, .int .i64 c3, .int .i64 c4, .int .i64 c5, .int .i64 c6, .int .i64 c7] 48)).alloc (.cells #[.int .i64 0, .int .i64 0, .int .i64 0, .int .i64 0, .int .i64 0, .int .i64 0, .int .i64 0, .int .i64 0, .int .i64 0, .int .i64 0, .int .i64 0, .int .i64 0, .int .i64 0, .int .i64 0, .int .i64 0, .int .i64 0, .int .i64 0, .int .i64 0, .int .i64 0, .int .i64 0, .int .i64 0, .int .i64 0, .int .i64 0, .int .i64 0] 42)).alloc (.cells #[.int .i64 0, .int .i64 0, .int .i64 0, .int .i64 0, .int .i64 0, .int .i64 0, .int .i64 0, .int .i64 0, .int .i64 0, .int .i64 0, .int .i64 0, .int .i64 0, .int .i64 0, .int .i64 0, .int .i64 0, .int .i64 0, .int .i64 0, .int .i64 0, .int .i64 0, .int .i64 0, .int .i64 0, .int .i64 0, .int .i64 0, .int .i64 0] 42)) := (((Ext.refl w).alloc _ _).alloc _ _).alloc _ _
  have B4 := ((Blk.new w #[.int .i64 a0, .int .i64 a1, .int .i64 a2, .int .i64 a3, .int .i64 a4, .int .i64 a5, .int .i64 a6, .int .i64 a7, .int .i64 b0, .int .i64 b1, .int .i64 b2, .int .i64 b3, .int .i64 b4, .int .i64 b5, .int .i64 b6, .int .i64 b7, .int .i64 c0, .int .i64 c1, .int .i64 c2, .int .i64 c3, .int .i64 c4, .int .i64 c5, .int .i64 c6, .int .i64 c7] 48).alloc (.cells #[.int .i64 0, .int .i64 0, .int .i64 0, .int .i64 0, .int .i64 0, .int .i64 0, .int .i64 0, .int .i64 0, .int .i64 0, .int .i64 0, .int .i64 0, .int .i64 0, .int .i64 0, .int .i64 0, .int .i64 0, .int .i64 0, .int .i64 0, .int .i64 0, .int .i64 0, .int .i64 0, .int .i64 0, .int .i64 0, .int .i64 0, .int .i64 0] 42)).alloc (.cells #[.int .i64 0, .int .i64 0, .int .i64 0, .int .i64 0, .int .i64 0, .int .i64 0, .int .i64 0, .int .i64 0, .int .i64 0, .int .i64 0, .int .i64 0, .int .i64 0, .int .i64 0, .int .i64 0, .int .i64 0, .int .i64 0, .int .i64 0, .int .i64 0, .int .i64 0, .int .i64 0, .int .i64 0, .int .i64 0, .int .i64 0, .int .i64 0] 42)
  have B8 := (Blk.new (w.alloc (.cells #[.int .i64 a0, .int .i64 a1, .int .i64 a2, .int .i64 a3, .int .i64 a4, .int .i64 a5, .int .i64 a6, .int .i64 a7, .int .i64 b0, .int .i64 b1, .int .i64 b2, .int .i64 b3, .int .i64 b4, .int .i64 b5, .int .i64 b6, .int .i64 b7, .int .i64 c0, .int .i64 c1, .int .i64 c2, .int .i64 c3, .int .i64 c4, .int .i64 c5, .int .i64 c6, .int .i64 c7] 48)) #[.int .i64 0, .int .i64 0, .int .i64 0, .int .i64 0, .int .i64 0, .int .i64 0, .int .i64 0, .int .i64 0, .int .i64 0, .int .i64 0, .int .i64 0, .int .i64 0, .int .i64 0, .int .i64 0, .int .i64 0, .int .i64 0, .int .i64 0, .int .i64 0, .int .i64 0, .int .i64 0, .int .i64 0, .int .i64 0, .int .i64 0, .int .i64 0] 42).alloc (.cells #[.int .i64 0, .int .i64 0, .int .i64 0, .int .i64 0, .int .i64 0, .int .i64 0, .int .i64 0, .int .i64 0, .int .i64 0, .int .i64 0, .int .i64 0, .int .i64 0, .int .i64 0, .int .i64 0, .int .i64 0, .int .i64 0, .int .i64 0, .int .i64 0, .int .i64 0, .int .i64 0, .int .i64 0, .int .i64 0, .int .i64 0, .int .i64 0] 42)
  have B10 := Blk.new ((w.alloc (.cells #[.int .i64 a0, .int .i64 a1, .int .i64 a2, .int .i64 a3, .int .i64 a4, .int .i64 a5, .int .i64 a6, .int .i64 a7, .int .i64 b0, .int .i64 b1, .int .i64 b2, .int .i64 b3, .int .i64 b4, .int .i64 b5, .int .i64 b6, .int .i64 b7, .int .i64 c0, .int .i64 c1, .int .i64 c2, .int .i64 c3, .int .i64 c4, .int .i64 c5, .int .i64 c6, .int .i64 c7] 48)).alloc (.cells #[.int .i64 0, .int .i64 0, .int .i64 0, .int .i64 0, .int .i64 0, .int .i64 0, .int .i64 0, .int .i64 0, .int .i64 0, .int .i64 0, .int .i64 0, .int .i64 0, .int .i64 0, .int .i64 0, .int .i64 0, .int .i64 0, .int .i64 0, .int .i64 0, .int .i64 0, .int .i64 0, .int .i64 0, .int .i64 0, .int .i64 0, .int .i64 0] 42)) #[.int .i64 0, .int .i64 0, .int .i64 0, .int .i64 0, .int .i64 0, .int .i64 0, .int .i64 0, .int .i64 0, .int .i64 0, .int .i64 0, .int .i64 0, .int .i64 0, .int .i64 0, .int .i64 0, .int .i64 0, .int .i64 0, .int .i64 0, .int .i64 0, .int .i64 0, .int .i64 0, .int .i64 0, .int .i64 0, .int .i64 0, .int .i64 0] 42
  go_enter Try.func12, Try.ntmps12
  go_upto_region 2 with fail
  simp only [World.size_alloc] at B8 B10
  generalize (((w.alloc (.cells #[.int .i64 a0, .int .i64 a1, .int .i64 a2, .int .i64 a3, .int .i64 a4, .int .i64 a5, .int .i64 a6, .int .i64 a7, .int .i64 b0, .int .i64 b1, .int .i64 b2, .int .i64 b3, .int .i64 b4, .int .i64 b5, .int .i64 b6, .int .i64 b7, .int .i64 c0, .int .i64 c1, .int .i64 c2, .int .i64 c3, .int .i64 c4, .int .i64 c5, .int .i64 c6, .int .i64 c7] 48)).alloc (.cells #[.int .i64 0, .int .i64 0, .int .i64 0, .int .i64 0, .int .i64 0, .int .i64 0, .int .i64 0, .int .i64 0, .int .i64 0, .int .i64 0, .int .i64 0, .int .i64 0, .int .i64 0, .int .i64 0, .int .i64 0, .int .i64 0, .int .i64 0, .int .i64 0, .int .i64 0, .int .i64 0, .int .i64 0, .int .i64 0, .int .i64 0, .int .i64 0] 42)).alloc (.cells #[.int .i64 0, .int .i64 0, .int .i64 0, .int .i64 0, .int .i64 0, .int .i64 0, .int .i64 0, .int .i64 0, .int .i64 0, .int .i64 0, .int .i64 0, .int .i64 0, .int .i64 0, .int .i64 0, .int .i64 0, .int .i64 0, .int .i64 0, .int .i64 0, .int .i64 0, .int .i64 0, .int .i64 0, .int .i64 0, .int .i64 0, .int .i64 0] 42)) = w3 at *
  have kk4 := B4.cell
  go_wp2_with fail
  clear kk4
  go_loopg [11, 12] 3 (fun g0 v11 iv wx => ∃ (i : Nat) (m : Int), i + g0 = 3 ∧ iv = .int .i64 i ∧ v11 = .int .i64 m ∧ lst a3 b3 c3 i = m ∧ Blk wx (w.heap.size + 1 + 1) (ptU x0 x1 x2 y0 y1 y2 e0 e1 e2 i) 42 ∧ Blk wx w.heap.size #[.int .i64 a0, .int .i64 a1, .int .i64 a2, .int .i64 a3, .int .i64 a4, .int .i64 a5, .int .i64 a6, .int .i64 a7, .int .i64 b0, .int .i64 b1, .int .i64 b2, .int .i64 b3, .int .i64 b4, .int .i64 b5, .int .i64 b6, .int .i64 b7, .int .i64 c0, .int .i64 c1, .int .i64 c2, .int .i64 c3, .int .i64 c4, .int .i64 c5, .int .i64 c6, .int .i64 c7] 48 ∧ Blk wx (w.heap.size + 1) #[.int .i64 0, .int .i64 0, .int .i64 0, .int .i64 0, .int .i64 0, .int .i64 0, .int .i64 0, .int .i64 0, .int .i64 0, .int .i64 0, .int .i64 0, .int .i64 0, .int .i64 0, .int .i64 0, .int .i64 0, .int .i64 0, .int .i64 0, .int .i64 0, .int .i64 0, .int .i64 0, .int .i64 0, .int .i64 0, .int .i64 0, .int .i64 0] 42 ∧ Ext w wx)
  case atStart => exact ⟨0, a3, by omega, by simp, rfl, rfl, B10, B4, B8, xx⟩
  case round =>
        clear B4 B8 B10 xx
        generalize wr = wy at *
        obtain ⟨i, m, hik, rfl, rfl, hmm, B10, B4, B8, xx⟩ := hrel
        by_cases hi : i < 3
        · have hiI : (i : Int) < 3 := by omega
          have kk4 := B4.cell
          rcases (show i = 0 ∨ i = 1 ∨ i = 2 by omega) with hc | hc | hc
          · have hI0 : (i : Int) = 0 := by omega
            have eU : ptU x0 x1 x2 y0 y1 y2 e0 e1 e2 i = #[.int .i64 0, .int .i64 0, .int .i64 0, .int .i64 0, .int .i64 0, .int .i64 0, .int .i64 0, .int .i64 0, .int .i64 0, .int .i64 0, .int .i64 0, .int .i64 0, .int .i64 0, .int .i64 0, .int .i64 0, .int .i64 0, .int .i64 0, .int .i64 0, .int .i64 0, .int .i64 0, .int .i64 0, .int .i64 0, .int .i64 0, .int .i64 0] := by rw [hc]; rfl
            rw [eU] at B10
            have hm : lst a3 b3 c3 i = m := hmm
            have R := Lib.hid (B4.mid13 0 [.int .i64 a0, .int .i64 a1, .int .i64 a2, .int .i64 a3] rfl)
            go_wp2_with (first
              | ((with_reducible refine wpList_load_mid (op := ⟨some 29, _, _, _, _, _⟩) ?_ 29 (.tmp 28) ?_ w.heap.size 0 ?_ [.int .i64 a0, .int .i64 a1, .int .i64 a2, .int .i64 a3] _ R.out Try.underlying29 ?_ ?_ ?_); rfl; rfl; rfl; rfl; kernel_rfl)
              | fail)
            refine (HP0.out _).mono ?_
            rintro e w4 ⟨rfl, x4⟩
            have xx := xx.trans x4
            have B4 := B4.ext x4
            have B8 := B8.ext x4
            have B10 := B10.ext x4
            clear x4 R
            have c10 := B10.cell
            have f10 := B10.frozen
            go_upto_region 7 with fail
            have B10 : Blk (((w4.setCell ⟨w.heap.size + 1 + 1, 0, none⟩ (.int .i64 x0)).setCell ⟨w.heap.size + 1 + 1, 1, none⟩ (.int .i64 y0)).setCell ⟨w.heap.size + 1 + 1, 6, none⟩ (.int .i64 e0)) (w.heap.size + 1 + 1) #[.int .i64 x0, .int .i64 y0, .int .i64 0, .int .i64 0, .int .i64 0, .int .i64 0, .int .i64 e0, .int .i64 0, .int .i64 0, .int .i64 0, .int .i64 0, .int .i64 0, .int .i64 0, .int .i64 0, .int .i64 0, .int .i64 0, .int .i64 0, .int .i64 0, .int .i64 0, .int .i64 0, .int .i64 0, .int .i64 0, .int .i64 0, .int .i64 0] 42 := by simpa using ((B10.set 0 (.int .i64 x0)).set 1 (.int .i64 y0)).set 6 (.int .i64 e0)
            have B4 := ((B4.far (p := ⟨w.heap.size + 1 + 1, 0, none⟩) (by simp only; omega) (.int .i64 x0)).far (p := ⟨w.heap.size + 1 + 1, 1, none⟩) (by simp only; omega) (.int .i64 y0)).far (p := ⟨w.heap.size + 1 + 1, 6, none⟩) (by simp only; omega) (.int .i64 e0)
            have B8 := ((B8.far (p := ⟨w.heap.size + 1 + 1, 0, none⟩) (by simp only; omega) (.int .i64 x0)).far (p := ⟨w.heap.size + 1 + 1, 1, none⟩) (by simp only; omega) (.int .i64 y0)).far (p := ⟨w.heap.size + 1 + 1, 6, none⟩) (by simp only; omega) (.int .i64 e0)
            have xx := ((xx.setCell (p := ⟨w.heap.size + 1 + 1, 0, none⟩) (by simp only; omega) (.int .i64 x0)).setCell (p := ⟨w.heap.size + 1 + 1, 1, none⟩) (by simp only; omega) (.int .i64 y0)).setCell (p := ⟨w.heap.size + 1 + 1, 6, none⟩) (by simp only; omega) (.int .i64 e0)
            clear c10 f10
            generalize ((w4.setCell ⟨w.heap.size + 1 + 1, 0, none⟩ (.int .i64 x0)).setCell ⟨w.heap.size + 1 + 1, 1, none⟩ (.int .i64 y0)).setCell ⟨w.heap.size + 1 + 1, 6, none⟩ (.int .i64 e0) = w5 at *
            have kk4 := B4.cell
            have eN : #[.int .i64 x0, .int .i64 y0, .int .i64 0, .int .i64 0, .int .i64 0, .int .i64 0, .int .i64 e0, .int .i64 0, .int .i64 0, .int .i64 0, .int .i64 0, .int .i64 0, .int .i64 0, .int .i64 0, .int .i64 0, .int .i64 0, .int .i64 0, .int .i64 0, .int .i64 0, .int .i64 0, .int .i64 0, .int .i64 0, .int .i64 0, .int .i64 0] = ptU x0 x1 x2 y0 y1 y2 e0 e1 e2 (i + 1) := by rw [hc]; rfl
            rw [eN] at B10
            by_cases hs : a3 < m
            · have hl : lst a3 b3 c3 (i + 1) = a3 := by
                have hm' := hm
                rw [hc] at hm' ⊢
                (simp [lst] at hm' ⊢) <;> omega
              clear hm hmm
              go_wp2
              go_roundg (gk - 1)
              case measure => omega
              case rel => exact ⟨i + 1, a3, by omega, by simp; omega, rfl, hl, B10, B4, B8, xx⟩
            · have hl : lst a3 b3 c3 (i + 1) = m := by
                have hm' := hm
                rw [hc] at hm' ⊢
                (simp [lst] at hm' ⊢) <;> omega
              clear hm hmm
              go_wp2
              go_roundg (gk - 1)
              case measure => omega
              case rel => exact ⟨i + 1, m, by omega, by simp; omega, rfl, hl, B10, B4, B8, xx⟩
          · have hI0 : (i : Int) = 1 := by omega
            have eU : ptU x0 x1 x2 y0 y1 y2 e0 e1 e2 i = #[.int .i64 x0, .int .i64 y0, .int .i64 0, .int .i64 0, .int .i64 0, .int .i64 0, .int .i64 e0, .int .i64 0, .int .i64 0, .int .i64 0, .int .i64 0, .int .i64 0, .int .i64 0, .int .i64 0, .int .i64 0, .int .i64 0, .int .i64 0, .int .i64 0, .int .i64 0, .int .i64 0, .int .i64 0, .int .i64 0, .int .i64 0, .int .i64 0] := by rw [hc]; rfl
            rw [eU] at B10
            have hm : lst a3 b3 c3 i = m := hmm
            have R := Lib.hid (B4.mid13 8 [.int .i64 b0, .int .i64 b1, .int .i64 b2, .int .i64 b3] rfl)
            go_wp2_with (first
              | ((with_reducible refine wpList_load_mid (op := ⟨some 29, _, _, _, _, _⟩) ?_ 29 (.tmp 28) ?_ w.heap.size 8 ?_ [.int .i64 b0, .int .i64 b1, .int .i64 b2, .int .i64 b3] _ R.out Try.underlying29 ?_ ?_ ?_); rfl; rfl; rfl; rfl; kernel_rfl)
              | fail)
            refine (HP1.out _).mono ?_
            rintro e w4 ⟨rfl, x4⟩
            have xx := xx.trans x4
            have B4 := B4.ext x4
            have B8 := B8.ext x4
            have B10 := B10.ext x4
            clear x4 R
            have c10 := B10.cell
            have f10 := B10.frozen
            go_upto_region 7 with fail
            have B10 : Blk (((w4.setCell ⟨w.heap.size + 1 + 1, 2, none⟩ (.int .i64 x1)).setCell ⟨w.heap.size + 1 + 1, 3, none⟩ (.int .i64 y1)).setCell ⟨w.heap.size + 1 + 1, 7, none⟩ (.int .i64 e1)) (w.heap.size + 1 + 1) #[.int .i64 x0, .int .i64 y0, .int .i64 x1, .int .i64 y1, .int .i64 0, .int .i64 0, .int .i64 e0, .int .i64 e1, .int .i64 0, .int .i64 0, .int .i64 0, .int .i64 0, .int .i64 0, .int .i64 0, .int .i64 0, .int .i64 0, .int .i64 0, .int .i64 0, .int .i64 0, .int .i64 0, .int .i64 0, .int .i64 0, .int .i64 0, .int .i64 0] 42 := by simpa using ((B10.set 2 (.int .i64 x1)).set 3 (.int .i64 y1)).set 7 (.int .i64 e1)
            have B4 := ((B4.far (p := ⟨w.heap.size + 1 + 1, 2, none⟩) (by simp only; omega) (.int .i64 x1)).far (p := ⟨w.heap.size + 1 + 1, 3, none⟩) (by simp only; omega) (.int .i64 y1)).far (p := ⟨w.heap.size + 1 + 1, 7, none⟩) (by simp only; omega) (.int .i64 e1)
            have B8 := ((B8.far (p := ⟨w.heap.size + 1 + 1, 2, none⟩) (by simp only; omega) (.int .i64 x1)).far (p := ⟨w.heap.size + 1 + 1, 3, none⟩) (by simp only; omega) (.int .i64 y1)).far (p := ⟨w.heap.size + 1 + 1, 7, none⟩) (by simp only; omega) (.int .i64 e1)
            have xx := ((xx.setCell (p := ⟨w.heap.size + 1 + 1, 2, none⟩) (by simp only; omega) (.int .i64 x1)).setCell (p := ⟨w.heap.size + 1 + 1, 3, none⟩) (by simp only; omega) (.int .i64 y1)).setCell (p := ⟨w.heap.size + 1 + 1, 7, none⟩) (by simp only; omega) (.int .i64 e1)
            clear c10 f10
            generalize ((w4.setCell ⟨w.heap.size + 1 + 1, 2, none⟩ (.int .i64 x1)).setCell ⟨w.heap.size + 1 + 1, 3, none⟩ (.int .i64 y1)).setCell ⟨w.heap.size + 1 + 1, 7, none⟩ (.int .i64 e1) = w5 at *
            have kk4 := B4.cell
            have eN : #[.int .i64 x0, .int .i64 y0, .int .i64 x1, .int .i64 y1, .int .i64 0, .int .i64 0, .int .i64 e0, .int .i64 e1, .int .i64 0, .int .i64 0, .int .i64 0, .int .i64 0, .int .i64 0, .int .i64 0, .int .i64 0, .int .i64 0, .int .i64 0, .int .i64 0, .int .i64 0, .int .i64 0, .int .i64 0, .int .i64 0, .int .i64 0, .int .i64 0] = ptU x0 x1 x2 y0 y1 y2 e0 e1 e2 (i + 1) := by rw [hc]; rfl
            rw [eN] at B10
            by_cases hs : b3 < m
            · have hl : lst a3 b3 c3 (i + 1) = b3 := by
                have hm' := hm
                rw [hc] at hm' ⊢
                (simp [lst] at hm' ⊢) <;> omega
              clear hm hmm
              go_wp2
              go_roundg (gk - 1)
              case measure => omega
              case rel => exact ⟨i + 1, b3, by omega, by simp; omega, rfl, hl, B10, B4, B8, xx⟩
            · have hl : lst a3 b3 c3 (i + 1) = m := by
                have hm' := hm
                rw [hc] at hm' ⊢
                (simp [lst] at hm' ⊢) <;> omega
              clear hm hmm
              go_wp2
              go_roundg (gk - 1)
              case measure => omega
              case rel => exact ⟨i + 1, m, by omega, by simp; omega, rfl, hl, B10, B4, B8, xx⟩
          · have hI0 : (i : Int) = 2 := by omega
            have eU : ptU x0 x1 x2 y0 y1 y2 e0 e1 e2 i = #[.int .i64 x0, .int .i64 y0, .int .i64 x1, .int .i64 y1, .int .i64 0, .int .i64 0, .int .i64 e0, .int .i64 e1, .int .i64 0, .int .i64 0, .int .i64 0, .int .i64 0, .int .i64 0, .int .i64 0, .int .i64 0, .int .i64 0, .int .i64 0, .int .i64 0, .int .i64 0, .int .i64 0, .int .i64 0, .int .i64 0, .int .i64 0, .int .i64 0] := by rw [hc]; rfl
            rw [eU] at B10
            have hm : lst a3 b3 c3 i = m := hmm
            have R := Lib.hid (B4.mid13 16 [.int .i64 c0, .int .i64 c1, .int .i64 c2, .int .i64 c3] rfl)
            go_wp2_with (first
              | ((with_reducible refine wpList_load_mid (op := ⟨some 29, _, _, _, _, _⟩) ?_ 29 (.tmp 28) ?_ w.heap.size 16 ?_ [.int .i64 c0, .int .i64 c1, .int .i64 c2, .int .i64 c3] _ R.out Try.underlying29 ?_ ?_ ?_); rfl; rfl; rfl; rfl; kernel_rfl)
              | fail)
            refine (HP2.out _).mono ?_
            rintro e w4 ⟨rfl, x4⟩
            have xx := xx.trans x4
            have B4 := B4.ext x4
            have B8 := B8.ext x4
            have B10 := B10.ext x4
            clear x4 R
            have c10 := B10.cell
            have f10 := B10.frozen
            go_upto_region 7 with fail
            have B10 : Blk (((w4.setCell ⟨w.heap.size + 1 + 1, 4, none⟩ (.int .i64 x2)).setCell ⟨w.heap.size + 1 + 1, 5, none⟩ (.int .i64 y2)).setCell ⟨w.heap.size + 1 + 1, 8, none⟩ (.int .i64 e2)) (w.heap.size + 1 + 1) #[.int .i64 x0, .int .i64 y0, .int .i64 x1, .int .i64 y1, .int .i64 x2, .int .i64 y2, .int .i64 e0, .int .i64 e1, .int .i64 e2, .int .i64 0, .int .i64 0, .int .i64 0, .int .i64 0, .int .i64 0, .int .i64 0, .int .i64 0, .int .i64 0, .int .i64 0, .int .i64 0, .int .i64 0, .int .i64 0, .int .i64 0, .int .i64 0, .int .i64 0] 42 := by simpa using ((B10.set 4 (.int .i64 x2)).set 5 (.int .i64 y2)).set 8 (.int .i64 e2)
            have B4 := ((B4.far (p := ⟨w.heap.size + 1 + 1, 4, none⟩) (by simp only; omega) (.int .i64 x2)).far (p := ⟨w.heap.size + 1 + 1, 5, none⟩) (by simp only; omega) (.int .i64 y2)).far (p := ⟨w.heap.size + 1 + 1, 8, none⟩) (by simp only; omega) (.int .i64 e2)
            have B8 := ((B8.far (p := ⟨w.heap.size + 1 + 1, 4, none⟩) (by simp only; omega) (.int .i64 x2)).far (p := ⟨w.heap.size + 1 + 1, 5, none⟩) (by simp only; omega) (.int .i64 y2)).far (p := ⟨w.heap.size + 1 + 1, 8, none⟩) (by simp only; omega) (.int .i64 e2)
            have xx := ((xx.setCell (p := ⟨w.heap.size + 1 + 1, 4, none⟩) (by simp only; omega) (.int .i64 x2)).setCell (p := ⟨w.heap.size + 1 + 1, 5, none⟩) (by simp only; omega) (.int .i64 y2)).setCell (p := ⟨w.heap.size + 1 + 1, 8, none⟩) (by simp only; omega) (.int .i64 e2)
            clear c10 f10
            generalize ((w4.setCell ⟨w.heap.size + 1 + 1, 4, none⟩ (.int .i64 x2)).setCell ⟨w.heap.size + 1 + 1, 5, none⟩ (.int .i64 y2)).setCell ⟨w.heap.size + 1 + 1, 8, none⟩ (.int .i64 e2) = w5 at *
            have kk4 := B4.cell
            have eN : #[.int .i64 x0, .int .i64 y0, .int .i64 x1, .int .i64 y1, .int .i64 x2, .int .i64 y2, .int .i64 e0, .int .i64 e1, .int .i64 e2, .int .i64 0, .int .i64 0, .int .i64 0, .int .i64 0, .int .i64 0, .int .i64 0, .int .i64 0, .int .i64 0, .int .i64 0, .int .i64 0, .int .i64 0, .int .i64 0, .int .i64 0, .int .i64 0, .int .i64 0] = ptU x0 x1 x2 y0 y1 y2 e0 e1 e2 (i + 1) := by rw [hc]; rfl
            rw [eN] at B10
            by_cases hs : c3 < m
            · have hl : lst a3 b3 c3 (i + 1) = c3 := by
                have hm' := hm
                rw [hc] at hm' ⊢
                (simp [lst] at hm' ⊢) <;> omega
              clear hm hmm
              go_wp2
              go_roundg (gk - 1)
              case measure => omega
              case rel => exact ⟨i + 1, c3, by omega, by simp; omega, rfl, hl, B10, B4, B8, xx⟩
            · have hl : lst a3 b3 c3 (i + 1) = m := by
                have hm' := hm
                rw [hc] at hm' ⊢
                (simp [lst] at hm' ⊢) <;> omega
              clear hm hmm
              go_wp2
              go_roundg (gk - 1)
              case measure => omega
              case rel => exact ⟨i + 1, m, by omega, by simp; omega, rfl, hl, B10, B4, B8, xx⟩
        · obtain rfl : i = 3 := by omega
          have hm3 : min (min a3 b3) c3 = m := hmm
          have B10 : Blk wy (w.heap.size + 1 + 1) #[.int .i64 x0, .int .i64 y0, .int .i64 x1, .int .i64 y1, .int .i64 x2, .int .i64 y2, .int .i64 e0, .int .i64 e1, .int .i64 e2, .int .i64 0, .int .i64 0, .int .i64 0, .int .i64 0, .int .i64 0, .int .i64 0, .int .i64 0, .int .i64 0, .int .i64 0, .int .i64 0, .int .i64 0, .int .i64 0, .int .i64 0, .int .i64 0, .int .i64 0] 42 := B10
          clear hmm hik HP0 HP1 HP2
          have c10 := B10.cell
          go_wp2_with fail
          refine (HS.out _).mono ?_
          rintro e w6 ⟨rfl, x6⟩
          have xx := xx.trans x6
          have B4 := B4.ext x6
          have B8 := B8.ext x6
          have B10 := B10.ext x6
          clear x6 c10 HS
          have Bf := B8.setRow #[.int .i64 t0, .int .i64 t1, .int .i64 t2, .int .i64 t3, .int .i64 t4, .int .i64 t5, .int .i64 t6, .int .i64 t7, .int .i64 t8, .int .i64 t9, .int .i64 t10, .int .i64 t11, .int .i64 t12, .int .i64 t13, .int .i64 t14, .int .i64 t15, .int .i64 t16, .int .i64 t17, .int .i64 t18, .int .i64 t19, .int .i64 t20, .int .i64 t21, .int .i64 t22, .int .i64 t23]
          have Ef := xx.setRow (g := w.heap.size + 1) (by omega) #[.int .i64 t0, .int .i64 t1, .int .i64 t2, .int .i64 t3, .int .i64 t4, .int .i64 t5, .int .i64 t6, .int .i64 t7, .int .i64 t8, .int .i64 t9, .int .i64 t10, .int .i64 t11, .int .i64 t12, .int .i64 t13, .int .i64 t14, .int .i64 t15, .int .i64 t16, .int .i64 t17, .int .i64 t18, .int .i64 t19, .int .i64 t20, .int .i64 t21, .int .i64 t22, .int .i64 t23]
          have R0 := Lib.hid (B4.mid13 0 [.int .i64 a0, .int .i64 a1, .int .i64 a2, .int .i64 a3, .int .i64 a4, .int .i64 a5, .int .i64 a6, .int .i64 a7] rfl)
          have R1 := Lib.hid (B4.mid13 8 [.int .i64 b0, .int .i64 b1, .int .i64 b2, .int .i64 b3, .int .i64 b4, .int .i64 b5, .int .i64 b6, .int .i64 b7] rfl)
          have R2 := Lib.hid (B4.mid13 16 [.int .i64 c0, .int .i64 c1, .int .i64 c2, .int .i64 c3, .int .i64 c4, .int .i64 c5, .int .i64 c6, .int .i64 c7] rfl)
          clear Bf Ef
          go_wp2_with (first
            | ((with_reducible refine wpList_load_mid (op := ⟨some 83, _, _, _, _, _⟩) ?_ 46 (.tmp 82) ?_ w.heap.size 0 ?_ [.int .i64 a0, .int .i64 a1, .int .i64 a2, .int .i64 a3, .int .i64 a4, .int .i64 a5, .int .i64 a6, .int .i64 a7] _ R0.out Try.underlying46 ?_ ?_ ?_); rfl; rfl; rfl; rfl; kernel_rfl)
            | ((with_reducible refine wpList_load_mid (op := ⟨some 85, _, _, _, _, _⟩) ?_ 46 (.tmp 84) ?_ w.heap.size 16 ?_ [.int .i64 c0, .int .i64 c1, .int .i64 c2, .int .i64 c3, .int .i64 c4, .int .i64 c5, .int .i64 c6, .int .i64 c7] _ R2.out Try.underlying46 ?_ ?_ ?_); rfl; rfl; rfl; rfl; kernel_rfl)
            | ((with_reducible refine wpList_load_mid (op := ⟨some 87, _, _, _, _, _⟩) ?_ 46 (.tmp 86) ?_ w.heap.size 8 ?_ [.int .i64 b0, .int .i64 b1, .int .i64 b2, .int .i64 b3, .int .i64 b4, .int .i64 b5, .int .i64 b6, .int .i64 b7] _ R1.out Try.underlying46 ?_ ?_ ?_); rfl; rfl; rfl; rfl; kernel_rfl)
            | ((with_reducible refine wpList_build13 (o := ⟨some 88, _, _, _, _, _⟩) ?_ 48 #[(0, .tmp 83), (1, .tmp 85), (2, .tmp 87)] ?_ #[.int .i64 a0, .int .i64 a1, .int .i64 a2, .int .i64 a3, .int .i64 a4, .int .i64 a5, .int .i64 a6, .int .i64 a7, .int .i64 c0, .int .i64 c1, .int .i64 c2, .int .i64 c3, .int .i64 c4, .int .i64 c5, .int .i64 c6, .int .i64 c7, .int .i64 b0, .int .i64 b1, .int .i64 b2, .int .i64 b3, .int .i64 b4, .int .i64 b5, .int .i64 b6, .int .i64 b7] ?_ ?_); rfl; rfl; kernel_rfl)
            | fail)
          refine (HRec.out _).mono ?_
          rintro e w7 ⟨rfl, x7⟩
          have xx := xx.trans x7
          have B8 := B8.ext x7
          have Bf := B8.setRow #[.int .i64 t0, .int .i64 t1, .int .i64 t2, .int .i64 t3, .int .i64 t4, .int .i64 t5, .int .i64 t6, .int .i64 t7, .int .i64 t8, .int .i64 t9, .int .i64 t10, .int .i64 t11, .int .i64 t12, .int .i64 t13, .int .i64 t14, .int .i64 t15, .int .i64 t16, .int .i64 t17, .int .i64 t18, .int .i64 t19, .int .i64 t20, .int .i64 t21, .int .i64 t22, .int .i64 t23]
          have Ef := xx.setRow (g := w.heap.size + 1) (by omega) #[.int .i64 t0, .int .i64 t1, .int .i64 t2, .int .i64 t3, .int .i64 t4, .int .i64 t5, .int .i64 t6, .int .i64 t7, .int .i64 t8, .int .i64 t9, .int .i64 t10, .int .i64 t11, .int .i64 t12, .int .i64 t13, .int .i64 t14, .int .i64 t15, .int .i64 t16, .int .i64 t17, .int .i64 t18, .int .i64 t19, .int .i64 t20, .int .i64 t21, .int .i64 t22, .int .i64 t23]
          clear x7 R0 R1 R2
          go_wp2_with (first
            | ((with_reducible refine wpList_store_blk (op := ⟨none, .store 42 (.tmp 8) (.tmp 92), _, _, _, _⟩) ?_ 42 (.tmp 8) (.tmp 92) ?_ (w.heap.size + 1) ?_ (cs := #[.int .i64 t0, .int .i64 t1, .int .i64 t2, .int .i64 t3, .int .i64 t4, .int .i64 t5, .int .i64 t6, .int .i64 t7, .int .i64 t8, .int .i64 t9, .int .i64 t10, .int .i64 t11, .int .i64 t12, .int .i64 t13, .int .i64 t14, .int .i64 t15, .int .i64 t16, .int .i64 t17, .int .i64 t18, .int .i64 t19, .int .i64 t20, .int .i64 t21, .int .i64 t22, .int .i64 t23]) ?_ (z := #[.int .i64 0, .int .i64 0, .int .i64 0, .int .i64 0, .int .i64 0, .int .i64 0, .int .i64 0, .int .i64 0, .int .i64 0, .int .i64 0, .int .i64 0, .int .i64 0, .int .i64 0, .int .i64 0, .int .i64 0, .int .i64 0, .int .i64 0, .int .i64 0, .int .i64 0, .int .i64 0, .int .i64 0, .int .i64 0, .int .i64 0, .int .i64 0]) (T := 42) ?_ ?_ ?_ ?_ ?_); rfl; rfl; rfl; rfl; exact B8; kernel_rfl; kernel_rfl; kernel_rfl)
            | fail)
          exact bodyPost_ret (v := .tuple #[.agg #[.int .i64 t0, .int .i64 t1, .int .i64 t2, .int .i64 t3, .int .i64 t4, .int .i64 t5, .int .i64 t6, .int .i64 t7, .int .i64 t8, .int .i64 t9, .int .i64 t10, .int .i64 t11, .int .i64 t12, .int .i64 t13, .int .i64 t14, .int .i64 t15, .int .i64 t16, .int .i64 t17, .int .i64 t18, .int .i64 t19, .int .i64 t20, .int .i64 t21, .int .i64 t22, .int .i64 t23], .bool true]) (results_blk2 (b := w.heap.size + 1) (t := 8) (s := 9) (ty := 42) rfl rfl Bf Try.underlying42 rfl (by kernel_rfl) rfl) rfl ⟨rfl, Ef⟩
set_option maxRecDepth 100000 in
set_option maxHeartbeats 4000000 in
theorem rmake_pos (a0 a1 a2 a3 a4 a5 a6 a7 b0 b1 b2 b3 b4 b5 b6 b7 c0 c1 c2 c3 c4 c5 c6 c7 x0 x1 x2 y0 y1 y2 e0 e1 e2 W H cull ar : Int) (hp0 : 256 ≤ a3 ∧ a3 ≤ 4194304) (hp1 : 256 ≤ b3 ∧ b3 ≤ 4194304) (hp2 : 256 ≤ c3 ∧ c3 ≤ 4194304)
    (hP0 : ∀ u : World, Calls Try.prog 27 #[.agg #[.int .i64 a0, .int .i64 a1, .int .i64 a2, .int .i64 a3], .int .i64 W, .int .i64 H] u fun e w' => e = .returned (.tuple #[.agg #[.int .i64 x0, .int .i64 y0], .int .i64 e0]) ∧ Ext u w')
    (hP1 : ∀ u : World, Calls Try.prog 27 #[.agg #[.int .i64 b0, .int .i64 b1, .int .i64 b2, .int .i64 b3], .int .i64 W, .int .i64 H] u fun e w' => e = .returned (.tuple #[.agg #[.int .i64 x1, .int .i64 y1], .int .i64 e1]) ∧ Ext u w')
    (hP2 : ∀ u : World, Calls Try.prog 27 #[.agg #[.int .i64 c0, .int .i64 c1, .int .i64 c2, .int .i64 c3], .int .i64 W, .int .i64 H] u fun e w' => e = .returned (.tuple #[.agg #[.int .i64 x2, .int .i64 y2], .int .i64 e2]) ∧ Ext u w')
    (hS : ∀ u : World, Calls Try.prog 28 #[.agg #[.int .i64 x0, .int .i64 y0], .agg #[.int .i64 x1, .int .i64 y1], .agg #[.int .i64 x2, .int .i64 y2]] u fun e w' => e = .returned (.int .i64 ar) ∧ Ext u w') (g1 : 0 < ar) (g2 : cull ≠ 2) (n0 n1 n2 : Int)
    (hN0 : ∀ m, min (min a3 b3) c3 = m → ∀ u : World, Calls Try.prog 29 #[.int .i64 ((m * 1024).tdiv a3), .int .i64 1, .int .i64 1024] u fun e w' => e = .returned (.int .i64 n0) ∧ Ext u w')
    (hN1 : ∀ m, min (min a3 b3) c3 = m → ∀ u : World, Calls Try.prog 29 #[.int .i64 ((m * 1024).tdiv b3), .int .i64 1, .int .i64 1024] u fun e w' => e = .returned (.int .i64 n1) ∧ Ext u w')
    (hN2 : ∀ m, min (min a3 b3) c3 = m → ∀ u : World, Calls Try.prog 29 #[.int .i64 ((m * 1024).tdiv c3), .int .i64 1, .int .i64 1024] u fun e w' => e = .returned (.int .i64 n2) ∧ Ext u w') (w : World) :
    Calls Try.prog 12 #[.agg #[.int .i64 a0, .int .i64 a1, .int .i64 a2, .int .i64 a3, .int .i64 a4, .int .i64 a5, .int .i64 a6, .int .i64 a7, .int .i64 b0, .int .i64 b1, .int .i64 b2, .int .i64 b3, .int .i64 b4, .int .i64 b5, .int .i64 b6, .int .i64 b7, .int .i64 c0, .int .i64 c1, .int .i64 c2, .int .i64 c3, .int .i64 c4, .int .i64 c5, .int .i64 c6, .int .i64 c7], .int .i64 W, .int .i64 H, .int .i64 cull] w fun e w' => e = .returned (.tuple #[.agg #[.int .i64 x0, .int .i64 y0, .int .i64 x1, .int .i64 y1, .int .i64 x2, .int .i64 y2, .int .i64 e0, .int .i64 e1, .int .i64 e2, .int .i64 n0, .int .i64 n1, .int .i64 n2, .int .i64 a4, .int .i64 a5, .int .i64 a6, .int .i64 a7, .int .i64 b4, .int .i64 b5, .int .i64 b6, .int .i64 b7, .int .i64 c4, .int .i64 c5, .int .i64 c6, .int .i64 c7], .bool true]) ∧ Ext w w' := by
  have g3 : ¬ ar = 0 := by omega
  have g4 : ¬ ar < 0 := by omega
  have g5 : (cull == 2) = false := by simpa using g2
  have HS := Lib.hid hS
  have HP0 := Lib.hid hP0
  have HP1 := Lib.hid hP1
  have HP2 := Lib.hid hP2
  clear hS hP0 hP1 hP2
  have xx : Ext w (((w.alloc (.cells #[.int .i64 a0, .int .i64 a1, .int .i64 a2, .int .i64 a3, .int .i64 a4, .int .i64 a5, .int .i64 a6, .int .i64 a7, .int .i64 b0, .int .i64 b1, .int .i64 b2, .int .i64 b3, .int .i64 b4, .int .i64 b5, .int .i64 b6, .int .i64 b7, .int .i64 c0, .int .i64 c1, .int .i64 c2, .int .i64 c3, .int .i64 c4, .int .i64 c5, .int .i64 c6, .int .i64 c7] 48)).alloc (.cells #[.int .i64 0, .int .i64 0, .int .i64 0, .int .i64 0, .int .i64 0, .int .i64 0, .int .i64 0, .int .i64 0, .int .i64 0, .int .i64 0, .int .i64 0, .int .i64 0, .int .i64 0, .int .i64 0, .int .i64 0, .int .i64 0, .int .i64 0, .int .i64 0, .int .i64 0, .int .i64 0, .int .i64 0, .int .i64 0, .int .i64 0, .int .i64 0] 42)).alloc (.cells #[.int .i64 0, .int .i64 0, .int .i64 0, .int .i64 0, .int .i64 0, .int .i64 0, .int .i64 0, .int .i64 0, .int .i64 0, .int .i64 0, .int .i64 0, .int .i64 0, .int .i64 0, .int .i64 0, .int .i64 0, .int .i64 0, .int .i64 0, .int .i64 0, .int .i64 0, .int .i64 0, .int .i64 0, .int .i64 0, .int .i64 0, .int .i64 0] 42)) := (((Ext.refl w).alloc _ _).alloc _ _).alloc _ _
  have B4 := ((Blk.new w #[.int .i64 a0, .int .i64 a1, .int .i64 a2, .int .i64 a3, .int .i64 a4, .int .i64 a5, .int .i64 a6, .int .i64 a7, .int .i64 b0, .int .i64 b1, .int .i64 b2, .int .i64 b3, .int .i64 b4, .int .i64 b5, .int .i64 b6, .int .i64 b7, .int .i64 c0, .int .i64 c1, .int .i64 c2, .int .i64 c3, .int .i64 c4, .int .i64 c5, .int .i64 c6, .int .i64 c7] 48).alloc (.cells #[.int .i64 0, .int .i64 0, .int .i64 0, .int .i64 0, .int .i64 0, .int .i64 0, .int .i64 0, .int .i64 0, .int .i64 0, .int .i64 0, .int .i64 0, .int .i64 0, .int .i64 0, .int .i64 0, .int .i64 0, .int .i64 0, .int .i64 0, .int .i64 0, .int .i64 0, .int .i64 0, .int .i64 0, .int .i64 0, .int .i64 0, .int .i64 0] 42)).alloc (.cells #[.int .i64 0, .int .i64 0, .int .i64 0, .int .i64 0, .int .i64 0, .int .i64 0, .int .i64 0, .int .i64 0, .int .i64 0, .int .i64 0, .int .i64 0, .int .i64 0, .int .i64 0, .int .i64 0, .int .i64 0, .int .i64 0, .int .i64 0, .int .i64 0, .int .i64 0, .int .i64 0, .int .i64 0, .int .i64 0, .int .i64 0, .int .i64 0] 42)
  have B8 := (Blk.new (w.alloc (.cells #[.int .i64 a0, .int .i64 a1, .int .i64 a2, .int .i64 a3, .int .i64 a4, .int .i64 a5, .int .i64 a6, .int .i64 a7, .int .i64 b0, .int .i64 b1, .int .i64 b2, .int .i64 b3, .int .i64 b4, .int .i64 b5, .int .i64 b6, .int .i64 b7, .int .i64 c0, .int .i64 c1, .int .i64 c2, .int .i64 c3, .int .i64 c4, .int .i64 c5, .int .i64 c6, .int .i64 c7] 48)) #[.int .i64 0, .int .i64 0, .int .i64 0, .int .i64 0, .int .i64 0, .int .i64 0, .int .i64 0, .int .i64 0, .int .i64 0, .int .i64 0, .int .i64 0, .int .i64 0, .int .i64 0, .int .i64 0, .int .i64 0, .int .i64 0, .int .i64 0, .int .i64 0, .int .i64 0, .int .i64 0, .int .i64 0, .int .i64 0, .int .i64 0, .int .i64 0] 42).alloc (.cells #[.int .i64 0, .int .i64 0, .int .i64 0, .int .i64 0, .int .i64 0, .int .i64 0, .int .i64 0, .int .i64 0, .int .i64 0, .int .i64 0, .int .i64 0, .int .i64 0, .int .i64 0, .int .i64 0, .int .i64 0, .int .i64 0, .int .i64 0, .int .i64 0, .int .i64 0, .int .i64 0, .int .i64 0, .int .i64 0, .int .i64 0, .int .i64 0] 42)
  have B10 := Blk.new ((w.alloc (.cells #[.int .i64 a0, .int .i64 a1, .int .i64 a2, .int .i64 a3, .int .i64 a4, .int .i64 a5, .int .i64 a6, .int .i64 a7, .int .i64 b0, .int .i64 b1, .int .i64 b2, .int .i64 b3, .int .i64 b4, .int .i64 b5, .int .i64 b6, .int .i64 b7, .int .i64 c0, .int .i64 c1, .int .i64 c2, .int .i64 c3, .int .i64 c4, .int .i64 c5, .int .i64 c6, .int .i64 c7] 48)).alloc (.cells #[.int .i64 0, .int .i64 0, .int .i64 0, .int .i64 0, .int .i64 0, .int .i64 0, .int .i64 0, .int .i64 0, .int .i64 0, .int .i64 0, .int .i64 0, .int .i64 0, .int .i64 0, .int .i64 0, .int .i64 0, .int .i64 0, .int .i64 0, .int .i64 0, .int .i64 0, .int .i64 0, .int .i64 0, .int .i64 0, .int .i64 0, .int .i64 0] 42)) #[.int .i64 0, .int .i64 0, .int .i64 0, .int .i64 0, .int .i64 0, .int .i64 0, .int .i64 0, .int .i64 0, .int .i64 0, .int .i64 0, .int .i64 0, .int .i64 0, .int .i64 0, .int .i64 0, .int .i64 0, .int .i64 0, .int .i64 0, .int .i64 0, .int .i64 0, .int .i64 0, .int .i64 0, .int .i64 0, .int .i64 0, .int .i64 0] 42
  go_enter Try.func12, Try.ntmps12
  go_upto_region 2 with fail
  simp only [World.size_alloc] at B8 B10
  generalize (((w.alloc (.cells #[.int .i64 a0, .int .i64 a1, .int .i64 a2, .int .i64 a3, .int .i64 a4, .int .i64 a5, .int .i64 a6, .int .i64 a7, .int .i64 b0, .int .i64 b1, .int .i64 b2, .int .i64 b3, .int .i64 b4, .int .i64 b5, .int .i64 b6, .int .i64 b7, .int .i64 c0, .int .i64 c1, .int .i64 c2, .int .i64 c3, .int .i64 c4, .int .i64 c5, .int .i64 c6, .int .i64 c7] 48)).alloc (.cells #[.int .i64 0, .int .i64 0, .int .i64 0, .int .i64 0, .int .i64 0, .int .i64 0, .int .i64 0, .int .i64 0, .int .i64 0, .int .i64 0, .int .i64 0, .int .i64 0, .int .i64 0, .int .i64 0, .int .i64 0, .int .i64 0, .int .i64 0, .int .i64 0, .int .i64 0, .int .i64 0, .int .i64 0, .int .i64 0, .int .i64 0, .int .i64 0] 42)).alloc (.cells #[.int .i64 0, .int .i64 0, .int .i64 0, .int .i64 0, .int .i64 0, .int .i64 0, .int .i64 0, .int .i64 0, .int .i64 0, .int .i64 0, .int .i64 0, .int .i64 0, .int .i64 0, .int .i64 0, .int .i64 0, .int .i64 0, .int .i64 0, .int .i64 0, .int .i64 0, .int .i64 0, .int .i64 0, .int .i64 0, .int .i64 0, .int .i64 0] 42)) = w3 at *
  have kk4 := B4.cell
  go_wp2_with fail
  clear kk4
  go_loopg [11, 12] 3 (fun g0 v11 iv wx => ∃ (i : Nat) (m : Int), i + g0 = 3 ∧ iv = .int .i64 i ∧ v11 = .int .i64 m ∧ lst a3 b3 c3 i = m ∧ Blk wx (w.heap.size + 1 + 1) (ptU x0 x1 x2 y0 y1 y2 e0 e1 e2 i) 42 ∧ Blk wx w.heap.size #[.int .i64 a0, .int .i64 a1, .int .i64 a2, .int .i64 a3, .int .i64 a4, .int .i64 a5, .int .i64 a6, .int .i64 a7, .int .i64 b0, .int .i64 b1, .int .i64 b2, .int .i64 b3, .int .i64 b4, .int .i64 b5, .int .i64 b6, .int .i64 b7, .int .i64 c0, .int .i64 c1, .int .i64 c2, .int .i64 c3, .int .i64 c4, .int .i64 c5, .int .i64 c6, .int .i64 c7] 48 ∧ Blk wx (w.heap.size + 1) #[.int .i64 0, .int .i64 0, .int .i64 0, .int .i64 0, .int .i64 0, .int .i64 0, .int .i64 0, .int .i64 0, .int .i64 0, .int .i64 0, .int .i64 0, .int .i64 0, .int .i64 0, .int .i64 0, .int .i64 0, .int .i64 0, .int .i64 0, .int .i64 0, .int .i64 0, .int .i64 0, .int .i64 0, .int .i64 0, .int .i64 0, .int .i64 0] 42 ∧ Ext w wx)
  case atStart => exact ⟨0, a3, by omega, by simp, rfl, rfl, B10, B4, B8, xx⟩
  case round =>
        clear B4 B8 B10 xx
        generalize wr = wy at *
        obtain ⟨i, m, hik, rfl, rfl, hmm, B10, B4, B8, xx⟩ := hrel
        by_cases hi : i < 3
        · have hiI : (i : Int) < 3 := by omega
          have kk4 := B4.cell
          rcases (show i = 0 ∨ i = 1 ∨ i = 2 by omega) with hc | hc | hc
          · have hI0 : (i : Int) = 0 := by omega
            have eU : ptU x0 x1 x2 y0 y1 y2 e0 e1 e2 i = #[.int .i64 0, .int .i64 0, .int .i64 0, .int .i64 0, .int .i64 0, .int .i64 0, .int .i64 0, .int .i64 0, .int .i64 0, .int .i64 0, .int .i64 0, .int .i64 0, .int .i64 0, .int .i64 0, .int .i64 0, .int .i64 0, .int .i64 0, .int .i64 0, .int .i64 0, .int .i64 0, .int .i64 0, .int .i64 0, .int .i64 0, .int .i64 0] := by rw [hc]; rfl
            rw [eU] at B10
            have hm : lst a3 b3 c3 i = m := hmm
            have R := Lib.hid (B4.mid13 0 [.int .i64 a0, .int .i64 a1, .int .i64 a2, .int .i64 a3] rfl)
            go_wp2_with (first
              | ((with_reducible refine wpList_load_mid (op := ⟨some 29, _, _, _, _, _⟩) ?_ 29 (.tmp 28) ?_ w.heap.size 0 ?_ [.int .i64 a0, .int .i64 a1, .int .i64 a2, .int .i64 a3] _ R.out Try.underlying29 ?_ ?_ ?_); rfl; rfl; rfl; rfl; kernel_rfl)
              | fail)
            refine (HP0.out _).mono ?_
            rintro e w4 ⟨rfl, x4⟩
            have xx := xx.trans x4
            have B4 := B4.ext x4
            have B8 := B8.ext x4
            have B10 := B10.ext x4
            clear x4 R
            have c10 := B10.cell
            have f10 := B10.frozen
            go_upto_region 7 with fail
            have B10 : Blk (((w4.setCell ⟨w.heap.size + 1 + 1, 0, none⟩ (.int .i64 x0)).setCell ⟨w.heap.size + 1 + 1, 1, none⟩ (.int .i64 y0)).setCell ⟨w.heap.size + 1 + 1, 6, none⟩ (.int .i64 e0)) (w.heap.size + 1 + 1) #[.int .i64 x0, .int .i64 y0, .int .i64 0, .int .i64 0, .int .i64 0, .int .i64 0, .int .i64 e0, .int .i64 0, .int .i64 0, .int .i64 0, .int .i64 0, .int .i64 0, .int .i64 0, .int .i64 0, .int .i64 0, .int .i64 0, .int .i64 0, .int .i64 0, .int .i64 0, .int .i64 0, .int .i64 0, .int .i64 0, .int .i64 0, .int .i64 0] 42 := by simpa using ((B10.set 0 (.int .i64 x0)).set 1 (.int .i64 y0)).set 6 (.int .i64 e0)
            have B4 := ((B4.far (p := ⟨w.heap.size + 1 + 1, 0, none⟩) (by simp only; omega) (.int .i64 x0)).far (p := ⟨w.heap.size + 1 + 1, 1, none⟩) (by simp only; omega) (.int .i64 y0)).far (p := ⟨w.heap.size + 1 + 1, 6, none⟩) (by simp only; omega) (.int .i64 e0)
            have B8 := ((B8.far (p := ⟨w.heap.size + 1 + 1, 0, none⟩) (by simp only; omega) (.int .i64 x0)).far (p := ⟨w.heap.size + 1 + 1, 1, none⟩) (by simp only; omega) (.int .i64 y0)).far (p := ⟨w.heap.size + 1 + 1, 6, none⟩) (by simp only; omega) (.int .i64 e0)
            have xx := ((xx.setCell (p := ⟨w.heap.size + 1 + 1, 0, none⟩) (by simp only; omega) (.int .i64 x0)).setCell (p := ⟨w.heap.size + 1 + 1, 1, none⟩) (by simp only; omega) (.int .i64 y0)).setCell (p := ⟨w.heap.size + 1 + 1, 6, none⟩) (by simp only; omega) (.int .i64 e0)
            clear c10 f10
            generalize ((w4.setCell ⟨w.heap.size + 1 + 1, 0, none⟩ (.int .i64 x0)).setCell ⟨w.heap.size + 1 + 1, 1, none⟩ (.int .i64 y0)).setCell ⟨w.heap.size + 1 + 1, 6, none⟩ (.int .i64 e0) = w5 at *
            have kk4 := B4.cell
            have eN : #[.int .i64 x0, .int .i64 y0, .int .i64 0, .int .i64 0, .int .i64 0, .int .i64 0, .int .i64 e0, .int .i64 0, .int .i64 0, .int .i64 0, .int .i64 0, .int .i64 0, .int .i64 0, .int .i64 0, .int .i64 0, .int .i64 0, .int .i64 0, .int .i64 0, .int .i64 0, .int .i64 0, .int .i64 0, .int .i64 0, .int .i64 0, .int .i64 0] = ptU x0 x1 x2 y0 y1 y2 e0 e1 e2 (i + 1) := by rw [hc]; rfl
            rw [eN] at B10
            by_cases hs : a3 < m
            · have hl : lst a3 b3 c3 (i + 1) = a3 := by
                have hm' := hm
                rw [hc] at hm' ⊢
                (simp [lst] at hm' ⊢) <;> omega
              clear hm hmm
              go_wp2
              go_roundg (gk - 1)
              case measure => omega
              case rel => exact ⟨i + 1, a3, by omega, by simp; omega, rfl, hl, B10, B4, B8, xx⟩
            · have hl : lst a3 b3 c3 (i + 1) = m := by
                have hm' := hm
                rw [hc] at hm' ⊢
                (simp [lst] at hm' ⊢) <;> omega
              clear hm hmm
              go_wp2
              go_roundg (gk - 1)
              case measure => omega
              case rel => exact ⟨i + 1, m, by omega, by simp; omega, rfl, hl, B10, B4, B8, xx⟩
          · have hI0 : (i : Int) = 1 := by omega
            have eU : ptU x0 x1 x2 y0 y1 y2 e0 e1 e2 i = #[.int .i64 x0, .int .i64 y0, .int .i64 0, .int .i64 0, .int .i64 0, .int .i64 0, .int .i64 e0, .int .i64 0, .int .i64 0, .int .i64 0, .int .i64 0, .int .i64 0, .int .i64 0, .int .i64 0, .int .i64 0, .int .i64 0, .int .i64 0, .int .i64 0, .int .i64 0, .int .i64 0, .int .i64 0, .int .i64 0, .int .i64 0, .int .i64 0] := by rw [hc]; rfl
            rw [eU] at B10
            have hm : lst a3 b3 c3 i = m := hmm
            have R := Lib.hid (B4.mid13 8 [.int .i64 b0, .int .i64 b1, .int .i64 b2, .int .i64 b3] rfl)
            go_wp2_with (first
              | ((with_reducible refine wpList_load_mid (op := ⟨some 29, _, _, _, _, _⟩) ?_ 29 (.tmp 28) ?_ w.heap.size 8 ?_ [.int .i64 b0, .int .i64 b1, .int .i64 b2, .int .i64 b3] _ R.out Try.underlying29 ?_ ?_ ?_); rfl; rfl; rfl; rfl; kernel_rfl)
              | fail)
            refine (HP1.out _).mono ?_
            rintro e w4 ⟨rfl, x4⟩
            have xx := xx.trans x4
            have B4 := B4.ext x4
            have B8 := B8.ext x4
            have B10 := B10.ext x4
            clear x4 R
            have c10 := B10.cell
            have f10 := B10.frozen
            go_upto_region 7 with fail
            have B10 : Blk (((w4.setCell ⟨w.heap.size + 1 + 1, 2, none⟩ (.int .i64 x1)).setCell ⟨w.heap.size + 1 + 1, 3, none⟩ (.int .i64 y1)).setCell ⟨w.heap.size + 1 + 1, 7, none⟩ (.int .i64 e1)) (w.heap.size + 1 + 1) #[.int .i64 x0, .int .i64 y0, .int .i64 x1, .int .i64 y1, .int .i64 0, .int .i64 0, .int .i64 e0, .int .i64 e1, .int .i64 0, .int .i64 0, .int .i64 0, .int .i64 0, .int .i64 0, .int .i64 0, .int .i64 0, .int .i64 0, .int .i64 0, .int .i64 0, .int .i64 0, .int .i64 0, .int .i64 0, .int .i64 0, .int .i64 0, .int .i64 0] 42 := by simpa using ((B10.set 2 (.int .i64 x1)).set 3 (.int .i64 y1)).set 7 (.int .i64 e1)
            have B4 := ((B4.far (p := ⟨w.heap.size + 1 + 1, 2, none⟩) (by simp only; omega) (.int .i64 x1)).far (p := ⟨w.heap.size + 1 + 1, 3, none⟩) (by simp only; omega) (.int .i64 y1)).far (p := ⟨w.heap.size + 1 + 1, 7, none⟩) (by simp only; omega) (.int .i64 e1)
            have B8 := ((B8.far (p := ⟨w.heap.size + 1 + 1, 2, none⟩) (by simp only; omega) (.int .i64 x1)).far (p := ⟨w.heap.size + 1 + 1, 3, none⟩) (by simp only; omega) (.int .i64 y1)).far (p := ⟨w.heap.size + 1 + 1, 7, none⟩) (by simp only; omega) (.int .i64 e1)
            have xx := ((xx.setCell (p := ⟨w.heap.size + 1 + 1, 2, none⟩) (by simp only; omega) (.int .i64 x1)).setCell (p := ⟨w.heap.size + 1 + 1, 3, none⟩) (by simp only; omega) (.int .i64 y1)).setCell (p := ⟨w.heap.size + 1 + 1, 7, none⟩) (by simp only; omega) (.int .i64 e1)
            clear c10 f10
            generalize ((w4.setCell ⟨w.heap.size + 1 + 1, 2, none⟩ (.int .i64 x1)).setCell ⟨w.heap.size + 1 + 1, 3, none⟩ (.int .i64 y1)).setCell ⟨w.heap.size + 1 + 1, 7, none⟩ (.int .i64 e1) = w5 at *
            have kk4 := B4.cell
            have eN : #[.int .i64 x0, .int .i64 y0, .int .i64 x1, .int .i64 y1, .int .i64 0, .int .i64 0, .int .i64 e0, .int .i64 e1, .int .i64 0, .int .i64 0, .int .i64 0, .int .i64 0, .int .i64 0, .int .i64 0, .int .i64 0, .int .i64 0, .int .i64 0, .int .i64 0, .int .i64 0, .int .i64 0, .int .i64 0, .int .i64 0, .int .i64 0, .int .i64 0] = ptU x0 x1 x2 y0 y1 y2 e0 e1 e2 (i + 1) := by rw [hc]; rfl
            rw [eN] at B10
            by_cases hs : b3 < m
            · have hl : lst a3 b3 c3 (i + 1) = b3 := by
                have hm' := hm
                rw [hc] at hm' ⊢
                (simp [lst] at hm' ⊢) <;> omega
              clear hm hmm
              go_wp2
              go_roundg (gk - 1)
              case measure => omega
              case rel => exact ⟨i + 1, b3, by omega, by simp; omega, rfl, hl, B10, B4, B8, xx⟩
            · have hl : lst a3 b3 c3 (i + 1) = m := by
                have hm' := hm
                rw [hc] at hm' ⊢
                (simp [lst] at hm' ⊢) <;> omega
              clear hm hmm
              go_wp2
              go_roundg (gk - 1)
              case measure => omega
              case rel => exact ⟨i + 1, m, by omega, by simp; omega, rfl, hl, B10, B4, B8, xx⟩
          · have hI0 : (i : Int) = 2 := by omega
            have eU : ptU x0 x1 x2 y0 y1 y2 e0 e1 e2 i = #[.int .i64 x0, .int .i64 y0, .int .i64 x1, .int .i64 y1, .int .i64 0, .int .i64 0, .int .i64 e0, .int .i64 e1, .int .i64 0, .int .i64 0, .int .i64 0, .int .i64 0, .int .i64 0, .int .i64 0, .int .i64 0, .int .i64 0, .int .i64 0, .int .i64 0, .int .i64 0, .int .i64 0, .int .i64 0, .int .i64 0, .int .i64 0, .int .i64 0] := by rw [hc]; rfl
            rw [eU] at B10
            have hm : lst a3 b3 c3 i = m := hmm
            have R := Lib.hid (B4.mid13 16 [.int .i64 c0, .int .i64 c1, .int .i64 c2, .int .i64 c3] rfl)
            go_wp2_with (first
              | ((with_reducible refine wpList_load_mid (op := ⟨some 29, _, _, _, _, _⟩) ?_ 29 (.tmp 28) ?_ w.heap.size 16 ?_ [.int .i64 c0, .int .i64 c1, .int .i64 c2, .int .i64 c3] _ R.out Try.underlying29 ?_ ?_ ?_); rfl; rfl; rfl; rfl; kernel_rfl)
              | fail)
            refine (HP2.out _).mono ?_
            rintro e w4 ⟨rfl, x4⟩
            have xx := xx.trans x4
            have B4 := B4.ext x4
            have B8 := B8.ext x4
            have B10 := B10.ext x4
            clear x4 R
            have c10 := B10.cell
            have f10 := B10.frozen
            go_upto_region 7 with fail
            have B10 : Blk (((w4.setCell ⟨w.heap.size + 1 + 1, 4, none⟩ (.int .i64 x2)).setCell ⟨w.heap.size + 1 + 1, 5, none⟩ (.int .i64 y2)).setCell ⟨w.heap.size + 1 + 1, 8, none⟩ (.int .i64 e2)) (w.heap.size + 1 + 1) #[.int .i64 x0, .int .i64 y0, .int .i64 x1, .int .i64 y1, .int .i64 x2, .int .i64 y2, .int .i64 e0, .int .i64 e1, .int .i64 e2, .int .i64 0, .int .i64 0, .int .i64 0, .int .i64 0, .int .i64 0, .int .i64 0, .int .i64 0, .int .i64 0, .int .i64 0, .int .i64 0, .int .i64 0, .int .i64 0, .int .i64 0, .int .i64 0, .int .i64 0] 42 := by simpa using ((B10.set 4 (.int .i64 x2)).set 5 (.int .i64 y2)).set 8 (.int .i64 e2)
            have B4 := ((B4.far (p := ⟨w.heap.size + 1 + 1, 4, none⟩) (by simp only; omega) (.int .i64 x2)).far (p := ⟨w.heap.size + 1 + 1, 5, none⟩) (by simp only; omega) (.int .i64 y2)).far (p := ⟨w.heap.size + 1 + 1, 8, none⟩) (by simp only; omega) (.int .i64 e2)
            have B8 := ((B8.far (p := ⟨w.heap.size + 1 + 1, 4, none⟩) (by simp only; omega) (.int .i64 x2)).far (p := ⟨w.heap.size + 1 + 1, 5, none⟩) (by simp only; omega) (.int .i64 y2)).far (p := ⟨w.heap.size + 1 + 1, 8, none⟩) (by simp only; omega) (.int .i64 e2)
            have xx := ((xx.setCell (p := ⟨w.heap.size + 1 + 1, 4, none⟩) (by simp only; omega) (.int .i64 x2)).setCell (p := ⟨w.heap.size + 1 + 1, 5, none⟩) (by simp only; omega) (.int .i64 y2)).setCell (p := ⟨w.heap.size + 1 + 1, 8, none⟩) (by simp only; omega) (.int .i64 e2)
            clear c10 f10
            generalize ((w4.setCell ⟨w.heap.size + 1 + 1, 4, none⟩ (.int .i64 x2)).setCell ⟨w.heap.size + 1 + 1, 5, none⟩ (.int .i64 y2)).setCell ⟨w.heap.size + 1 + 1, 8, none⟩ (.int .i64 e2) = w5 at *
            have kk4 := B4.cell
            have eN : #[.int .i64 x0, .int .i64 y0, .int .i64 x1, .int .i64 y1, .int .i64 x2, .int .i64 y2, .int .i64 e0, .int .i64 e1, .int .i64 e2, .int .i64 0, .int .i64 0, .int .i64 0, .int .i64 0, .int .i64 0, .int .i64 0, .int .i64 0, .int .i64 0, .int .i64 0, .int .i64 0, .int .i64 0, .int .i64 0, .int .i64 0, .int .i64 0, .int .i64 0] = ptU x0 x1 x2 y0 y1 y2 e0 e1 e2 (i + 1) := by rw [hc]; rfl
            rw [eN] at B10
            by_cases hs : c3 < m
            · have hl : lst a3 b3 c3 (i + 1) = c3 := by
                have hm' := hm
                rw [hc] at hm' ⊢
                (simp [lst] at hm' ⊢) <;> omega
              clear hm hmm
              go_wp2
              go_roundg (gk - 1)
              case measure => omega
              case rel => exact ⟨i + 1, c3, by omega, by simp; omega, rfl, hl, B10, B4, B8, xx⟩
            · have hl : lst a3 b3 c3 (i + 1) = m := by
                have hm' := hm
                rw [hc] at hm' ⊢
                (simp [lst] at hm' ⊢) <;> omega
              clear hm hmm
              go_wp2
              go_roundg (gk - 1)
              case measure => omega
              case rel => exact ⟨i + 1, m, by omega, by simp; omega, rfl, hl, B10, B4, B8, xx⟩
        · obtain rfl : i = 3 := by omega
          have hm3 : min (min a3 b3) c3 = m := hmm
          have B10 : Blk wy (w.heap.size + 1 + 1) #[.int .i64 x0, .int .i64 y0, .int .i64 x1, .int .i64 y1, .int .i64 x2, .int .i64 y2, .int .i64 e0, .int .i64 e1, .int .i64 e2, .int .i64 0, .int .i64 0, .int .i64 0, .int .i64 0, .int .i64 0, .int .i64 0, .int .i64 0, .int .i64 0, .int .i64 0, .int .i64 0, .int .i64 0, .int .i64 0, .int .i64 0, .int .i64 0, .int .i64 0] 42 := B10
          clear hmm hik HP0 HP1 HP2
          have c10 := B10.cell
          go_wp2_with fail
          refine (HS.out _).mono ?_
          rintro e w6 ⟨rfl, x6⟩
          have xx := xx.trans x6
          have B4 := B4.ext x6
          have B8 := B8.ext x6
          have B10 := B10.ext x6
          clear x6 c10 HS
          have wm : IntKind.i64.wrap (m * 1024) = m * 1024 := by rw [IntKind.wrap_i64]; omega
          have hmb : 256 ≤ m ∧ m ≤ 4194304 := by omega
          have hN0 := hN0 m hm3
          have qb0 := tdiv_bd (m * 1024) a3 (M := 4294967296) (by omega) (by omega)
          obtain ⟨q0, hq0⟩ : ∃ q, (m * 1024).tdiv a3 = q := ⟨_, rfl⟩
          rw [hq0] at hN0 qb0
          have wq0 : IntKind.i64.wrap q0 = q0 := by rw [IntKind.wrap_i64]; omega
          have nz0 : ¬ a3 = 0 := by omega
          have HN0 := Lib.hid hN0
          clear hN0 qb0
          have hN1 := hN1 m hm3
          have qb1 := tdiv_bd (m * 1024) b3 (M := 4294967296) (by omega) (by omega)
          obtain ⟨q1, hq1⟩ : ∃ q, (m * 1024).tdiv b3 = q := ⟨_, rfl⟩
          rw [hq1] at hN1 qb1
          have wq1 : IntKind.i64.wrap q1 = q1 := by rw [IntKind.wrap_i64]; omega
          have nz1 : ¬ b3 = 0 := by omega
          have HN1 := Lib.hid hN1
          clear hN1 qb1
          have hN2 := hN2 m hm3
          have qb2 := tdiv_bd (m * 1024) c3 (M := 4294967296) (by omega) (by omega)
          obtain ⟨q2, hq2⟩ : ∃ q, (m * 1024).tdiv c3 = q := ⟨_, rfl⟩
          rw [hq2] at hN2 qb2
          have wq2 : IntKind.i64.wrap q2 = q2 := by rw [IntKind.wrap_i64]; omega
          have nz2 : ¬ c3 = 0 := by omega
          have HN2 := Lib.hid hN2
          clear hN2 qb2
          clear hm3 hmb
          go_wp2_with fail
          refine wp_loop_rounds 4 ?_
          rw [rounds_succ]
          have R := Lib.hid (B4.mid13 4 [.int .i64 a4, .int .i64 a5, .int .i64 a6, .int .i64 a7] rfl)
          have kk4 := B4.cell
          go_wp2_with fail
          refine (HN0.out _).mono ?_
          rintro e w8_0 ⟨rfl, x8⟩
          have xx := xx.trans x8
          have B4 := B4.ext x8
          have B8 := B8.ext x8
          have B10 := B10.ext x8
          have R := Lib.hid (B4.mid13 4 [.int .i64 a4, .int .i64 a5, .int .i64 a6, .int .i64 a7] rfl)
          have R' := Lib.hid ((B4.far (p := ⟨w.heap.size + 1 + 1, 9, none⟩) (by simp only; omega) (.int .i64 n0)).mid13 4 [.int .i64 a4, .int .i64 a5, .int .i64 a6, .int .i64 a7] rfl)
          clear x8 kk4
          have c10 := B10.cell
          have f10 := B10.frozen
          go_upto_region 16 with (first
            | ((with_reducible refine wpList_load_mid (op := ⟨some 114, _, _, _, _, _⟩) ?_ 29 (.tmp 113) ?_ w.heap.size 4 ?_ [.int .i64 a4, .int .i64 a5, .int .i64 a6, .int .i64 a7] _ R'.out Try.underlying29 ?_ ?_ ?_); rfl; rfl; rfl; rfl; kernel_rfl)
            | fail)
          have B10 : Blk (((((w8_0.setCell ⟨w.heap.size + 1 + 1, 9, none⟩ (.int .i64 n0)).setCell ⟨w.heap.size + 1 + 1, 12, none⟩ (.int .i64 a4)).setCell ⟨w.heap.size + 1 + 1, 13, none⟩ (.int .i64 a5)).setCell ⟨w.heap.size + 1 + 1, 14, none⟩ (.int .i64 a6)).setCell ⟨w.heap.size + 1 + 1, 15, none⟩ (.int .i64 a7)) (w.heap.size + 1 + 1) #[.int .i64 x0, .int .i64 y0, .int .i64 x1, .int .i64 y1, .int .i64 x2, .int .i64 y2, .int .i64 e0, .int .i64 e1, .int .i64 e2, .int .i64 n0, .int .i64 0, .int .i64 0, .int .i64 a4, .int .i64 a5, .int .i64 a6, .int .i64 a7, .int .i64 0, .int .i64 0, .int .i64 0, .int .i64 0, .int .i64 0, .int .i64 0, .int .i64 0, .int .i64 0] 42 := by simpa using (((((B10.set 9 (.int .i64 n0)).set 12 (.int .i64 a4)).set 13 (.int .i64 a5)).set 14 (.int .i64 a6)).set 15 (.int .i64 a7))
          have B4 := (((((B4.far (p := ⟨w.heap.size + 1 + 1, 9, none⟩) (by simp only; omega) (.int .i64 n0)).far (p := ⟨w.heap.size + 1 + 1, 12, none⟩) (by simp only; omega) (.int .i64 a4)).far (p := ⟨w.heap.size + 1 + 1, 13, none⟩) (by simp only; omega) (.int .i64 a5)).far (p := ⟨w.heap.size + 1 + 1, 14, none⟩) (by simp only; omega) (.int .i64 a6)).far (p := ⟨w.heap.size + 1 + 1, 15, none⟩) (by simp only; omega) (.int .i64 a7))
          have B8 := (((((B8.far (p := ⟨w.heap.size + 1 + 1, 9, none⟩) (by simp only; omega) (.int .i64 n0)).far (p := ⟨w.heap.size + 1 + 1, 12, none⟩) (by simp only; omega) (.int .i64 a4)).far (p := ⟨w.heap.size + 1 + 1, 13, none⟩) (by simp only; omega) (.int .i64 a5)).far (p := ⟨w.heap.size + 1 + 1, 14, none⟩) (by simp only; omega) (.int .i64 a6)).far (p := ⟨w.heap.size + 1 + 1, 15, none⟩) (by simp only; omega) (.int .i64 a7))
          have xx := (((((xx.setCell (p := ⟨w.heap.size + 1 + 1, 9, none⟩) (by simp only; omega) (.int .i64 n0)).setCell (p := ⟨w.heap.size + 1 + 1, 12, none⟩) (by simp only; omega) (.int .i64 a4)).setCell (p := ⟨w.heap.size + 1 + 1, 13, none⟩) (by simp only; omega) (.int .i64 a5)).setCell (p := ⟨w.heap.size + 1 + 1, 14, none⟩) (by simp only; omega) (.int .i64 a6)).setCell (p := ⟨w.heap.size + 1 + 1, 15, none⟩) (by simp only; omega) (.int .i64 a7))
          clear c10 f10 R R'
          generalize (((((w8_0.setCell ⟨w.heap.size + 1 + 1, 9, none⟩ (.int .i64 n0)).setCell ⟨w.heap.size + 1 + 1, 12, none⟩ (.int .i64 a4)).setCell ⟨w.heap.size + 1 + 1, 13, none⟩ (.int .i64 a5)).setCell ⟨w.heap.size + 1 + 1, 14, none⟩ (.int .i64 a6)).setCell ⟨w.heap.size + 1 + 1, 15, none⟩ (.int .i64 a7)) = w9_0 at *
          go_wp2_with fail
          rw [rounds_succ]
          have R := Lib.hid (B4.mid13 12 [.int .i64 b4, .int .i64 b5, .int .i64 b6, .int .i64 b7] rfl)
          have kk4 := B4.cell
          go_wp2_with fail
          refine (HN1.out _).mono ?_
          rintro e w8_1 ⟨rfl, x8⟩
          have xx := xx.trans x8
          have B4 := B4.ext x8
          have B8 := B8.ext x8
          have B10 := B10.ext x8
          have R := Lib.hid (B4.mid13 12 [.int .i64 b4, .int .i64 b5, .int .i64 b6, .int .i64 b7] rfl)
          have R' := Lib.hid ((B4.far (p := ⟨w.heap.size + 1 + 1, 10, none⟩) (by simp only; omega) (.int .i64 n1)).mid13 12 [.int .i64 b4, .int .i64 b5, .int .i64 b6, .int .i64 b7] rfl)
          clear x8 kk4
          have c10 := B10.cell
          have f10 := B10.frozen
          go_upto_region 16 with (first
            | ((with_reducible refine wpList_load_mid (op := ⟨some 114, _, _, _, _, _⟩) ?_ 29 (.tmp 113) ?_ w.heap.size 12 ?_ [.int .i64 b4, .int .i64 b5, .int .i64 b6, .int .i64 b7] _ R'.out Try.underlying29 ?_ ?_ ?_); rfl; rfl; rfl; rfl; kernel_rfl)
            | fail)
          have B10 : Blk (((((w8_1.setCell ⟨w.heap.size + 1 + 1, 10, none⟩ (.int .i64 n1)).setCell ⟨w.heap.size + 1 + 1, 16, none⟩ (.int .i64 b4)).setCell ⟨w.heap.size + 1 + 1, 17, none⟩ (.int .i64 b5)).setCell ⟨w.heap.size + 1 + 1, 18, none⟩ (.int .i64 b6)).setCell ⟨w.heap.size + 1 + 1, 19, none⟩ (.int .i64 b7)) (w.heap.size + 1 + 1) #[.int .i64 x0, .int .i64 y0, .int .i64 x1, .int .i64 y1, .int .i64 x2, .int .i64 y2, .int .i64 e0, .int .i64 e1, .int .i64 e2, .int .i64 n0, .int .i64 n1, .int .i64 0, .int .i64 a4, .int .i64 a5, .int .i64 a6, .int .i64 a7, .int .i64 b4, .int .i64 b5, .int .i64 b6, .int .i64 b7, .int .i64 0, .int .i64 0, .int .i64 0, .int .i64 0] 42 := by simpa using (((((B10.set 10 (.int .i64 n1)).set 16 (.int .i64 b4)).set 17 (.int .i64 b5)).set 18 (.int .i64 b6)).set 19 (.int .i64 b7))
          have B4 := (((((B4.far (p := ⟨w.heap.size + 1 + 1, 10, none⟩) (by simp only; omega) (.int .i64 n1)).far (p := ⟨w.heap.size + 1 + 1, 16, none⟩) (by simp only; omega) (.int .i64 b4)).far (p := ⟨w.heap.size + 1 + 1, 17, none⟩) (by simp only; omega) (.int .i64 b5)).far (p := ⟨w.heap.size + 1 + 1, 18, none⟩) (by simp only; omega) (.int .i64 b6)).far (p := ⟨w.heap.size + 1 + 1, 19, none⟩) (by simp only; omega) (.int .i64 b7))
          have B8 := (((((B8.far (p := ⟨w.heap.size + 1 + 1, 10, none⟩) (by simp only; omega) (.int .i64 n1)).far (p := ⟨w.heap.size + 1 + 1, 16, none⟩) (by simp only; omega) (.int .i64 b4)).far (p := ⟨w.heap.size + 1 + 1, 17, none⟩) (by simp only; omega) (.int .i64 b5)).far (p := ⟨w.heap.size + 1 + 1, 18, none⟩) (by simp only; omega) (.int .i64 b6)).far (p := ⟨w.heap.size + 1 + 1, 19, none⟩) (by simp only; omega) (.int .i64 b7))
          have xx := (((((xx.setCell (p := ⟨w.heap.size + 1 + 1, 10, none⟩) (by simp only; omega) (.int .i64 n1)).setCell (p := ⟨w.heap.size + 1 + 1, 16, none⟩) (by simp only; omega) (.int .i64 b4)).setCell (p := ⟨w.heap.size + 1 + 1, 17, none⟩) (by simp only; omega) (.int .i64 b5)).setCell (p := ⟨w.heap.size + 1 + 1, 18, none⟩) (by simp only; omega) (.int .i64 b6)).setCell (p := ⟨w.heap.size + 1 + 1, 19, none⟩) (by simp only; omega) (.int .i64 b7))
          clear c10 f10 R R'
          generalize (((((w8_1.setCell ⟨w.heap.size + 1 + 1, 10, none⟩ (.int .i64 n1)).setCell ⟨w.heap.size + 1 + 1, 16, none⟩ (.int .i64 b4)).setCell ⟨w.heap.size + 1 + 1, 17, none⟩ (.int .i64 b5)).setCell ⟨w.heap.size + 1 + 1, 18, none⟩ (.int .i64 b6)).setCell ⟨w.heap.size + 1 + 1, 19, none⟩ (.int .i64 b7)) = w9_1 at *
          go_wp2_with fail
          rw [rounds_succ]
          have R := Lib.hid (B4.mid13 20 [.int .i64 c4, .int .i64 c5, .int .i64 c6, .int .i64 c7] rfl)
          have kk4 := B4.cell
          go_wp2_with fail
          refine (HN2.out _).mono ?_
          rintro e w8_2 ⟨rfl, x8⟩
          have xx := xx.trans x8
          have B4 := B4.ext x8
          have B8 := B8.ext x8
          have B10 := B10.ext x8
          have R := Lib.hid (B4.mid13 20 [.int .i64 c4, .int .i64 c5, .int .i64 c6, .int .i64 c7] rfl)
          have R' := Lib.hid ((B4.far (p := ⟨w.heap.size + 1 + 1, 11, none⟩) (by simp only; omega) (.int .i64 n2)).mid13 20 [.int .i64 c4, .int .i64 c5, .int .i64 c6, .int .i64 c7] rfl)
          clear x8 kk4
          have c10 := B10.cell
          have f10 := B10.frozen
          go_upto_region 16 with (first
            | ((with_reducible refine wpList_load_mid (op := ⟨some 114, _, _, _, _, _⟩) ?_ 29 (.tmp 113) ?_ w.heap.size 20 ?_ [.int .i64 c4, .int .i64 c5, .int .i64 c6, .int .i64 c7] _ R'.out Try.underlying29 ?_ ?_ ?_); rfl; rfl; rfl; rfl; kernel_rfl)
            | fail)
          have B10 : Blk (((((w8_2.setCell ⟨w.heap.size + 1 + 1, 11, none⟩ (.int .i64 n2)).setCell ⟨w.heap.size + 1 + 1, 20, none⟩ (.int .i64 c4)).setCell ⟨w.heap.size + 1 + 1, 21, none⟩ (.int .i64 c5)).setCell ⟨w.heap.size + 1 + 1, 22, none⟩ (.int .i64 c6)).setCell ⟨w.heap.size + 1 + 1, 23, none⟩ (.int .i64 c7)) (w.heap.size + 1 + 1) #[.int .i64 x0, .int .i64 y0, .int .i64 x1, .int .i64 y1, .int .i64 x2, .int .i64 y2, .int .i64 e0, .int .i64 e1, .int .i64 e2, .int .i64 n0, .int .i64 n1, .int .i64 n2, .int .i64 a4, .int .i64 a5, .int .i64 a6, .int .i64 a7, .int .i64 b4, .int .i64 b5, .int .i64 b6, .int .i64 b7, .int .i64 c4, .int .i64 c5, .int .i64 c6, .int .i64 c7] 42 := by simpa using (((((B10.set 11 (.int .i64 n2)).set 20 (.int .i64 c4)).set 21 (.int .i64 c5)).set 22 (.int .i64 c6)).set 23 (.int .i64 c7))
          have B4 := (((((B4.far (p := ⟨w.heap.size + 1 + 1, 11, none⟩) (by simp only; omega) (.int .i64 n2)).far (p := ⟨w.heap.size + 1 + 1, 20, none⟩) (by simp only; omega) (.int .i64 c4)).far (p := ⟨w.heap.size + 1 + 1, 21, none⟩) (by simp only; omega) (.int .i64 c5)).far (p := ⟨w.heap.size + 1 + 1, 22, none⟩) (by simp only; omega) (.int .i64 c6)).far (p := ⟨w.heap.size + 1 + 1, 23, none⟩) (by simp only; omega) (.int .i64 c7))
          have B8 := (((((B8.far (p := ⟨w.heap.size + 1 + 1, 11, none⟩) (by simp only; omega) (.int .i64 n2)).far (p := ⟨w.heap.size + 1 + 1, 20, none⟩) (by simp only; omega) (.int .i64 c4)).far (p := ⟨w.heap.size + 1 + 1, 21, none⟩) (by simp only; omega) (.int .i64 c5)).far (p := ⟨w.heap.size + 1 + 1, 22, none⟩) (by simp only; omega) (.int .i64 c6)).far (p := ⟨w.heap.size + 1 + 1, 23, none⟩) (by simp only; omega) (.int .i64 c7))
          have xx := (((((xx.setCell (p := ⟨w.heap.size + 1 + 1, 11, none⟩) (by simp only; omega) (.int .i64 n2)).setCell (p := ⟨w.heap.size + 1 + 1, 20, none⟩) (by simp only; omega) (.int .i64 c4)).setCell (p := ⟨w.heap.size + 1 + 1, 21, none⟩) (by simp only; omega) (.int .i64 c5)).setCell (p := ⟨w.heap.size + 1 + 1, 22, none⟩) (by simp only; omega) (.int .i64 c6)).setCell (p := ⟨w.heap.size + 1 + 1, 23, none⟩) (by simp only; omega) (.int .i64 c7))
          clear c10 f10 R R'
          generalize (((((w8_2.setCell ⟨w.heap.size + 1 + 1, 11, none⟩ (.int .i64 n2)).setCell ⟨w.heap.size + 1 + 1, 20, none⟩ (.int .i64 c4)).setCell ⟨w.heap.size + 1 + 1, 21, none⟩ (.int .i64 c5)).setCell ⟨w.heap.size + 1 + 1, 22, none⟩ (.int .i64 c6)).setCell ⟨w.heap.size + 1 + 1, 23, none⟩ (.int .i64 c7)) = w9_2 at *
          go_wp2_with fail
          rw [rounds_succ]
          have Bf := B8.setRow #[.int .i64 x0, .int .i64 y0, .int .i64 x1, .int .i64 y1, .int .i64 x2, .int .i64 y2, .int .i64 e0, .int .i64 e1, .int .i64 e2, .int .i64 n0, .int .i64 n1, .int .i64 n2, .int .i64 a4, .int .i64 a5, .int .i64 a6, .int .i64 a7, .int .i64 b4, .int .i64 b5, .int .i64 b6, .int .i64 b7, .int .i64 c4, .int .i64 c5, .int .i64 c6, .int .i64 c7]
          have Ef := xx.setRow (g := w.heap.size + 1) (by omega) #[.int .i64 x0, .int .i64 y0, .int .i64 x1, .int .i64 y1, .int .i64 x2, .int .i64 y2, .int .i64 e0, .int .i64 e1, .int .i64 e2, .int .i64 n0, .int .i64 n1, .int .i64 n2, .int .i64 a4, .int .i64 a5, .int .i64 a6, .int .i64 a7, .int .i64 b4, .int .i64 b5, .int .i64 b6, .int .i64 b7, .int .i64 c4, .int .i64 c5, .int .i64 c6, .int .i64 c7]
          go_wp2_with (first
            | ((with_reducible refine wpList_load_blk (op := ⟨some 117, _, _, _, _, _⟩) ?_ 42 (.tmp 10) ?_ (w.heap.size + 1 + 1) ?_ (z := _) (T := 42) B10 Try.underlying42 ?_ ?_ ?_); rfl; rfl; rfl; rfl; kernel_rfl)
            | ((with_reducible refine wpList_store_blk (op := ⟨none, .store 42 (.tmp 8) (.tmp 117), _, _, _, _⟩) ?_ 42 (.tmp 8) (.tmp 117) ?_ (w.heap.size + 1) ?_ (cs := #[.int .i64 x0, .int .i64 y0, .int .i64 x1, .int .i64 y1, .int .i64 x2, .int .i64 y2, .int .i64 e0, .int .i64 e1, .int .i64 e2, .int .i64 n0, .int .i64 n1, .int .i64 n2, .int .i64 a4, .int .i64 a5, .int .i64 a6, .int .i64 a7, .int .i64 b4, .int .i64 b5, .int .i64 b6, .int .i64 b7, .int .i64 c4, .int .i64 c5, .int .i64 c6, .int .i64 c7]) ?_ (z := #[.int .i64 0, .int .i64 0, .int .i64 0, .int .i64 0, .int .i64 0, .int .i64 0, .int .i64 0, .int .i64 0, .int .i64 0, .int .i64 0, .int .i64 0, .int .i64 0, .int .i64 0, .int .i64 0, .int .i64 0, .int .i64 0, .int .i64 0, .int .i64 0, .int .i64 0, .int .i64 0, .int .i64 0, .int .i64 0, .int .i64 0, .int .i64 0]) (T := 42) ?_ ?_ ?_ ?_ ?_); rfl; rfl; rfl; rfl; exact B8; kernel_rfl; kernel_rfl; kernel_rfl)
            | fail)
          exact bodyPost_ret (v := .tuple #[.agg #[.int .i64 x0, .int .i64 y0, .int .i64 x1, .int .i64 y1, .int .i64 x2, .int .i64 y2, .int .i64 e0, .int .i64 e1, .int .i64 e2, .int .i64 n0, .int .i64 n1, .int .i64 n2, .int .i64 a4, .int .i64 a5, .int .i64 a6, .int .i64 a7, .int .i64 b4, .int .i64 b5, .int .i64 b6, .int .i64 b7, .int .i64 c4, .int .i64 c5, .int .i64 c6, .int .i64 c7], .bool true]) (results_blk2 (b := w.heap.size + 1) (t := 8) (s := 9) (ty := 42) rfl rfl Bf Try.underlying42 rfl (by kernel_rfl) rfl) rfl ⟨rfl, Ef⟩
end Go.Proofs.Ytglehnmkdapnpaa

