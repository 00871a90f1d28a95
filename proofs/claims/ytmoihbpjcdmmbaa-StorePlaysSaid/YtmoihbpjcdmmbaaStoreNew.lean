/-
  DERIVED. THE WALKS of layer 6 (store): copied, New.
-/
import Derived.Test.YtmoihbpjcdmmbaaStoreWalks
import Derived.Deep.RegionWith
import Derived.Laws.IdiomRangeMap
namespace Go.Proofs.Ytmoihbpjcdmmbaa
open Go.RowKit Go.Maps
set_option linter.unusedVariables false

def bendV (c : Int × Nat) : Value := .agg #[.int .i64 c.1, .int .u32 c.2]
def BendIs (v : Value) : Prop := ∃ (f : Int) (m : Nat), v = .agg #[.int .i64 f, .int .u32 m] ∧ (-9223372036854775808 ≤ f ∧ f ≤ 9223372036854775807) ∧ m < 4294967296
open Classical in
noncomputable def bendG (v : Value) : Bool := decide (BendIs v)
theorem bendG_mk {f : Int} {m : Nat} (hf : -9223372036854775808 ≤ f ∧ f ≤ 9223372036854775807) (hm : m < 4294967296) : bendG (.agg #[.int .i64 f, .int .u32 m]) = true := by
  unfold bendG
  simp only [decide_eq_true_eq]
  exact ⟨f, m, rfl, hf, hm⟩
theorem bendG_inv {v : Value} (h : bendG v = true) : BendIs v := by
  unfold bendG at h
  simpa only [decide_eq_true_eq] using h
/-- the step of a range over a map of bends -/
theorem wpList_next_bend (w : World) {ops : Array Oper} {rest : List Oper} {o : Oper} {a : Act} {Q : Exit → Act → World → Prop} (hg : o.guard = none) (it : Operand) (hop : o.op = Op.next it false) (b r n : Nat) (D : DataW Value) (left : Lit → Bool) (cnt : Nat)
    (hit : a.eval it = .pointer (some ⟨r, 0, none⟩)) (h : w.ranges Try.prog 3 (heldV bendG) b r n D left cnt)
    (hDone : cnt = 0 → (∀ kl, left kl = false) → wpList Try.prog ops Q rest (a.put o.dst (.tuple #[.bool false])) w)
    (hMore : ∀ (x f : Int) (m : Nat) (w' : World) (cnt' : Nat), (Lit.int .i64 x).wf = true → (-9223372036854775808 ≤ f ∧ f ≤ 9223372036854775807) → m < 4294967296 → (∀ zd, D.atKey (.int .i64 x) zd = .held (.agg #[.int .i64 f, .int .u32 m])) → w'.ranges Try.prog 3 (heldV bendG) b r n D (fun z => left z && !z.sameKey (.int .i64 x)) cnt' → cnt' < cnt →
      w.grownBy w' (some r) → (Instr.entry (.pointer (some ⟨r, 0, none⟩))).run Try.prog w' = .ok (.tuple #[.int .i64 x, .agg #[.int .i64 f, .int .u32 m]]) w' → wpList Try.prog ops Q rest (a.put o.dst (.tuple #[.bool true, .int .i64 x, .agg #[.int .i64 f, .int .u32 m]])) w') :
    wpList Try.prog ops Q (o :: rest) a w :=
  wpList_next_ranges w hg it hop 3 int_law (heldV bendG) (Value.int .i64) bendV (fun key kl hkey => by obtain ⟨x, rfl, _⟩ := Maps.keyOf_int_inv Try.underlying3 hkey; exact ⟨x, rfl⟩) (fun v y hv => by
      obtain ⟨f, m, rfl, _⟩ := bendG_inv (heldV_inv hv).1
      exact ⟨(f, m), rfl⟩)
    b r n D left cnt hit h hDone (fun x c kl y w' cnt' hkey hlk hv hat hrg hlt hgr hsz hen => by
      obtain ⟨x', ex, rfl, hwx⟩ := Maps.keyOf_int_inv Try.underlying3 hkey
      cases ex
      obtain ⟨h1, rfl⟩ := heldV_inv hv
      obtain ⟨f, m, e, hf, hm⟩ := bendG_inv h1
      obtain ⟨c1, c2⟩ := c
      unfold bendV at e hat hen hv ⊢
      simp at e
      obtain ⟨rfl, e2⟩ := e
      have e3 : c2 = m := by omega
      subst e3
      exact hMore x _ _ w' cnt' hwx hf hm hat hrg hlt hgr hen)
theorem calm_set (w : World) (b o : Nat) (u : Value) : Calm [b] w (w.setCell ⟨b, o, none⟩ u) := by
  exact ⟨rfl, rfl, rfl, by simp [World.setCell], fun k hk hne => Below.heap_setCell w ⟨b, o, none⟩ u k (by simpa using hne)⟩
theorem grown_ext {a w w' : World} {r : Nat} (e : Ext a w) (h : w.grownBy w' (some r)) (hr : a.heap.size ≤ r) : Ext a w' := Ext.calm_trans e (calm_grownBy h) (by simpa using hr)
theorem Blk.grown {w w' : World} {b r : Nat} {z : Array Value} {T : TypeId} (h : Blk w b z T) (hg : w.grownBy w' (some r)) (hr : b ≠ r) : Blk w' b z T := (hg.block b h.lt (by simpa using hr)).trans h

set_option maxRecDepth 100000 in
set_option maxHeartbeats 4000000 in
theorem copied_map (w : World) (vf vl : Value) (full fail : List Int) (b s : Nat) (bf : Int → Option Value) (hf : Arr w .i64 vf full) (hl : Arr w .i64 vl fail) (hfl : full.length ≤ 1000) (hll : fail.length ≤ 1000) (hb : Mp bendG w b bf s) (hs : s ≤ 1000) :
    Calls Try.prog 19 #[.agg #[vf, vl, .map (some b)]] w fun e w' => ∃ sf sl bb s', e = .returned (.agg #[sf, sl, .map (some bb)]) ∧ OwnI w' w.heap.size sf full ∧ OwnI w' w.heap.size sl fail ∧ Mp bendG w' bb bf s' ∧ w.heap.size ≤ bb ∧ Ext w w' := by
  have hmm := @run_makeMap Try.prog
  obtain ⟨D0, hown, hsz, hD⟩ := hb
  have hbl := hown.lt
  obtain ⟨⟨af, cf, rfl, -, -, -⟩, -, -⟩ := id hf
  obtain ⟨⟨al, cl, rfl, -, -, -⟩, -, -⟩ := id hl
  have B1 := Blk.new w #[.slice af full.length cf, .slice al fail.length cl, .map (some b)] 29
  go_enter Try.func19, Try.ntmps19
  go_wp2_with (first
    | (at_range; refine wpList_range_own _ rfl _ 26 rfl 3 32 int_law Try.underlying26 _ b s _ rfl (((hown.alloc _).alloc _).alloc _) ?_; intro w0 hrg0 hg0 hs0)
    | go_in)
  go_frame
  have e1 : (((w.alloc (.cells #[.slice af full.length cf, .slice al fail.length cl, .map (some b)] 29)).alloc (.cells #[.slice none 0 0, .slice none 0 0, .map none] 29)).alloc (.map #[] 0)).heap.size = w.heap.size + 3 := by simp
  rw [e1] at hrg0 hs0 ⊢
  have E0 : Ext w w0 := ⟨(((((Below.refl _ w).alloc (Nat.le_refl _) _).alloc (by simp) _).alloc (by simp; omega) _).grown hg0 (by simp; omega) (fun j hj => by cases hj))⟩
  have B0 : Blk w0 w.heap.size #[.slice af full.length cf, .slice al fail.length cl, .map (some b)] 29 := (hg0.block _ (by simp; omega) (by simp)).trans ((B1.alloc _).alloc _)
  have B0' : Blk w0 (w.heap.size + 1) #[.slice none 0 0, .slice none 0 0, .map none] 29 := (hg0.block _ (by simp) (by simp)).trans ((Blk.new' (by simp) _ _).alloc _)
  have M0 : w0.ownsMap Try.prog 3 (heldV bendG) (w.heap.size + 2) 0 (.map []) := by
    have := (World.ownsMap_made ((w.alloc (.cells #[.slice af full.length cf, .slice al fail.length cl, .map (some b)] 29)).alloc (.cells #[.slice none 0 0, .slice none 0 0, .map none] 29)) Try.prog 3 (heldV bendG)).kept hg0 (by simp)
    simpa using this
  clear hg0 hs0 B1 e1
  generalize hn0 : w.heap.size = n0 at *
  go_loopw [4] (fun _ wr => ∃ (left : Lit → Bool) (cnt : Nat) (Dout : DataW Value), wr.ranges Try.prog 3 (heldV bendG) b (n0 + 3) s D0 left cnt ∧ cnt ≤ Maps.size D0 ∧
      wr.ownsMap Try.prog 3 (heldV bendG) (n0 + 2) (Maps.size D0 - cnt) Dout ∧ Agree Dout D0 left ∧ Blk wr n0 #[.slice af full.length cf, .slice al fail.length cl, .map (some b)] 29 ∧ Blk wr (n0 + 1) #[.slice none 0 0, .slice none 0 0, .map none] 29 ∧ Ext w wr)
    (fun _ wr => wr.rangeLeft b (n0 + 3))
  case atStart => exact ⟨_, _, .map [], hrg0, Nat.le_refl _, M0.mono (Nat.zero_le _), agree_start D0, B0, B0', E0⟩
  case round =>
    clear B0 B0' M0 hrg0 E0
    obtain ⟨left, cnt, Dout, hrg, hcs, hout, hA, B2, B3, E2⟩ := hrel
    go_wp2_with (first
      | (at_next; refine wpList_next_bend _ rfl _ rfl b (n0 + 3) s _ _ _ rfl hrg ?_ ?_)
      | go_in)
    · intro hc0 hl0
      subst hc0
      have e := agree_end hA hl0 (hout.canon int_law) (hown.canon int_law)
      subst e
      have M2 : Mp bendG wr (n0 + 2) bf s := ⟨_, by simpa [hsz] using hout, hsz, hD⟩
      clear hout hA hrg hown hD hl0
      have hcell := B2.cell
      have hF := hf.ext E2.drew
      have hL := hl.ext E2.drew
      clear hf hl
      go_wp2
      go_region_with (first
        | (go_at_call_of 26 (Value.slice af full.length cf); refine (clonei_any _ _ full hF (by omega)).mono ?_; rintro e w3 ⟨sf, rfl, o3, x3⟩; have E3 := E2.drew.trans x3; have L3 := hL.ext x3; have C3 := (B2.drew.ext x3).cell; have z3 := x3.size)
        | (go_at_call_of 26 (Value.slice al fail.length cl); refine (clonei_any _ _ fail L3 (by omega)).mono ?_; rintro e w4 ⟨sl, rfl, o4, x4⟩; have E4 := E3.trans x4; have B4 := (B3.drew.ext x3).ext x4; have C4 := B4.cell; have D4 := B4.frozen; have z4 := x4.size; obtain ⟨sa, sc, rfl, -, -⟩ := o3.slice; obtain ⟨ta, tc, rfl, -, -⟩ := o4.slice))
      all_goals
        have B5 := ((B4.set 0 (.slice sa full.length sc)).set 1 (.slice ta fail.length tc)).set 2 (.map (some (n0 + 2)))
        have K5 := ((calm_set w4 (n0 + 1) 0 (.slice sa full.length sc)).trans (calm_set _ (n0 + 1) 1 (.slice ta fail.length tc))).trans (calm_set _ (n0 + 1) 2 (.map (some (n0 + 2))))
        simp only [List.setIfInBounds_toArray, List.set_cons_succ, List.set_cons_zero] at B5
        generalize ((w4.setCell ⟨n0 + 1, 0, none⟩ (.slice sa full.length sc)).setCell ⟨n0 + 1, 1, none⟩ (.slice ta fail.length tc)).setCell ⟨n0 + 1, 2, none⟩ (.map (some (n0 + 1 + 1))) = w5 at *
        have z0 := B3.lt
        have z1 : wr.heap.size ≤ w3.heap.size := z3
        have o5 := (o3.ext x4).calm K5 (fun k hk => by have := (o3.lt k hk).1; simp at this ⊢; omega)
        have o6 := o4.calm K5 (fun k hk => by have := (o4.lt k hk).1; simp; omega)
        have M5 := ((M2.ext (Ext.drew (Ext.refl _))).ext x3).ext x4 |>.calm K5 (by simp)
        have E5 := Ext.calm_trans E4 K5 (by simp; omega)
        have c5 := B5.cell
        clear o3 o4 M2 E4 B4 C4 D4 C3 L3 hF hL B2 B3 hcell
        go_wp2
        exact bodyPost_ret (v := .agg #[.slice sa full.length sc, .slice ta fail.length tc, .map (some (n0 + 2))]) (by simp [results, Try.results19, go_sem, c5]) rfl ⟨_, _, _, _, rfl, o5.mono (by simp; omega), o6.mono (by omega), M5, by omega, E5⟩
    · intro x f m w1 cnt1 hwx hbf1 hbf2 hbm hat hrg1 hlt hg1 hen
      have hout1 := hout.kept hg1 (by simp)
      have E3 := grown_ext E2 hg1 (by omega)
      have B4 := B2.grown hg1 (by omega)
      have B5 := B3.grown hg1 (by omega)
      clear B2 B3 hg1 E2
      have hout2 := hout1.alloc (.cells #[.int .i64 f, .int .u32 m] 32)
      have hrg2 := hrg1.alloc (.cells #[.int .i64 f, .int .u32 m] 32)
      have E4 := E3.alloc #[.int .i64 f, .int .u32 m] 32
      have B6 := B4.alloc (.cells #[.int .i64 f, .int .u32 m] 32)
      have B7 := B5.alloc (.cells #[.int .i64 f, .int .u32 m] 32)
      clear hout1 hrg1 E3 B4 B5
      go_wp2_with (first
        | (at_mapUpdate; refine wpList_mapUpdate_own _ rfl _ _ _ 26 rfl 3 32 int_law Try.underlying26 _ (n0 + 2) _ _ rfl hout2 (by unfold maxLen; omega) _ _ _ rfl rfl (int_key hwx) _ [] (heldV_mk (bendG_mk ⟨hbf1, hbf2⟩ hbm)) ?_; intro w2 hout3 hg2; go_frame)
        | go_in)
      have hrg3 := hrg2.kept hg2 (fun e => by have := Option.some.inj e; omega) (fun e => by have := Option.some.inj e; omega)
      have E5 := grown_ext E4 hg2 (by omega)
      have B8 := B6.grown hg2 (by omega)
      have B9 := B7.grown hg2 (by omega)
      go_roundw
      case rel => exact ⟨_, cnt1, _, hrg3, by omega, hout3.mono (by omega), agree_step hA hout.isMap trivial hat, B8, B9, E5⟩
      case measure => rw [hrg3.left_eq, hrg.left_eq]; exact hlt

set_option maxRecDepth 100000 in
set_option maxHeartbeats 4000000 in
theorem copied_nil (w : World) (vf vl : Value) (full fail : List Int) (hf : Arr w .i64 vf full) (hl : Arr w .i64 vl fail) (hfl : full.length ≤ 1000) (hll : fail.length ≤ 1000) :
    Calls Try.prog 19 #[.agg #[vf, vl, .map none]] w fun e w' => ∃ sf sl bb s', e = .returned (.agg #[sf, sl, .map (some bb)]) ∧ OwnI w' w.heap.size sf full ∧ OwnI w' w.heap.size sl fail ∧ Mp bendG w' bb (fun _ => none) s' ∧ w.heap.size ≤ bb ∧ Ext w w' := by
  have hmm := @run_makeMap Try.prog
  obtain ⟨⟨af, cf, rfl, -, -, -⟩, -, -⟩ := id hf
  obtain ⟨⟨al, cl, rfl, -, -, -⟩, -, -⟩ := id hl
  have B1 := Blk.new w #[.slice af full.length cf, .slice al fail.length cl, .map none] 29
  have e1 : (((w.alloc (.cells #[.slice af full.length cf, .slice al fail.length cl, .map none] 29)).alloc (.cells #[.slice none 0 0, .slice none 0 0, .map none] 29)).alloc (.map #[] 0)).heap.size = w.heap.size + 3 := by simp
  have hrg := run_range_nilMap (P := Try.prog) (((w.alloc (.cells #[.slice af full.length cf, .slice al fail.length cl, .map none] 29)).alloc (.cells #[.slice none 0 0, .slice none 0 0, .map none] 29)).alloc (.map #[] 0)) 26 3 32 Try.underlying26
  have hnx : ∀ ty, (Instr.next (.pointer (some ⟨(((w.alloc (.cells #[.slice af full.length cf, .slice al fail.length cl, .map none] 29)).alloc (.cells #[.slice none 0 0, .slice none 0 0, .map none] 29)).alloc (.map #[] 0)).heap.size, 0, none⟩)) false ty).run Try.prog ((((w.alloc (.cells #[.slice af full.length cf, .slice al fail.length cl, .map none] 29)).alloc (.cells #[.slice none 0 0, .slice none 0 0, .map none] 29)).alloc (.map #[] 0)).alloc (.mapIter none 0 #[] 0)) = _ := fun ty => run_next_nilMap _ ty 0 0 #[]
  have B2 : Blk ((((w.alloc (.cells #[.slice af full.length cf, .slice al fail.length cl, .map none] 29)).alloc (.cells #[.slice none 0 0, .slice none 0 0, .map none] 29)).alloc (.map #[] 0)).alloc (.mapIter none 0 #[] 0)) w.heap.size #[.slice af full.length cf, .slice al fail.length cl, .map none] 29 := ((B1.alloc _).alloc _).alloc _
  have B3 : Blk ((((w.alloc (.cells #[.slice af full.length cf, .slice al fail.length cl, .map none] 29)).alloc (.cells #[.slice none 0 0, .slice none 0 0, .map none] 29)).alloc (.map #[] 0)).alloc (.mapIter none 0 #[] 0)) (w.heap.size + 1) #[.slice none 0 0, .slice none 0 0, .map none] 29 := ((Blk.new' (by simp) _ _).alloc _).alloc _
  have M2 : Mp bendG ((((w.alloc (.cells #[.slice af full.length cf, .slice al fail.length cl, .map none] 29)).alloc (.cells #[.slice none 0 0, .slice none 0 0, .map none] 29)).alloc (.map #[] 0)).alloc (.mapIter none 0 #[] 0)) (w.heap.size + 2) (fun _ => none) 0 := by
    have := (Mp.made bendG ((w.alloc (.cells #[.slice af full.length cf, .slice al fail.length cl, .map none] 29)).alloc (.cells #[.slice none 0 0, .slice none 0 0, .map none] 29))).kept (w' := ((((w.alloc (.cells #[.slice af full.length cf, .slice al fail.length cl, .map none] 29)).alloc (.cells #[.slice none 0 0, .slice none 0 0, .map none] 29)).alloc (.map #[] 0)).alloc (.mapIter none 0 #[] 0))) (Below.heap_alloc _ _ _ (by simp))
    simpa using this
  have E2 : Ext w ((((w.alloc (.cells #[.slice af full.length cf, .slice al fail.length cl, .map none] 29)).alloc (.cells #[.slice none 0 0, .slice none 0 0, .map none] 29)).alloc (.map #[] 0)).alloc (.mapIter none 0 #[] 0)) := ⟨((((Below.refl _ w).alloc (Nat.le_refl _) _).alloc (by simp) _).alloc (by simp; omega) _).alloc (by simp; omega) _⟩
  rw [e1] at hrg hnx
  go_enter Try.func19, Try.ntmps19
  go_wp2
  clear B1 hrg e1
  generalize hn0 : w.heap.size = n0 at *
  generalize ((((w.alloc (.cells #[.slice af full.length cf, .slice al fail.length cl, .map none] 29)).alloc (.cells #[.slice none 0 0, .slice none 0 0, .map none] 29)).alloc (.map #[] 0)).alloc (.mapIter none 0 #[] 0)) = wr at *
  refine wp_loop_rounds 1 ?_
  rw [rounds_succ]
  have hcell := B2.cell
  have hF := hf.ext E2.drew
  have hL := hl.ext E2.drew
  clear hf hl
  go_wp2
  go_region_with (first
    | (go_at_call_of 26 (Value.slice af full.length cf); refine (clonei_any _ _ full hF (by omega)).mono ?_; rintro e w3 ⟨sf, rfl, o3, x3⟩; have E3 := E2.drew.trans x3; have L3 := hL.ext x3; have C3 := (B2.drew.ext x3).cell; have z3 := x3.size)
    | (go_at_call_of 26 (Value.slice al fail.length cl); refine (clonei_any _ _ fail L3 (by omega)).mono ?_; rintro e w4 ⟨sl, rfl, o4, x4⟩; have E4 := E3.trans x4; have B4 := (B3.drew.ext x3).ext x4; have C4 := B4.cell; have D4 := B4.frozen; have z4 := x4.size; obtain ⟨sa, sc, rfl, -, -⟩ := o3.slice; obtain ⟨ta, tc, rfl, -, -⟩ := o4.slice))
  all_goals
    have B5 := ((B4.set 0 (.slice sa full.length sc)).set 1 (.slice ta fail.length tc)).set 2 (.map (some (n0 + 2)))
    have K5 := ((calm_set w4 (n0 + 1) 0 (.slice sa full.length sc)).trans (calm_set _ (n0 + 1) 1 (.slice ta fail.length tc))).trans (calm_set _ (n0 + 1) 2 (.map (some (n0 + 2))))
    simp only [List.setIfInBounds_toArray, List.set_cons_succ, List.set_cons_zero] at B5
    generalize ((w4.setCell ⟨n0 + 1, 0, none⟩ (.slice sa full.length sc)).setCell ⟨n0 + 1, 1, none⟩ (.slice ta fail.length tc)).setCell ⟨n0 + 1, 2, none⟩ (.map (some (n0 + 1 + 1))) = w5 at *
    have z0 := B3.lt
    have z1 : wr.heap.size ≤ w3.heap.size := z3
    have o5 := (o3.ext x4).calm K5 (fun k hk => by have := (o3.lt k hk).1; simp at this ⊢; omega)
    have o6 := o4.calm K5 (fun k hk => by have := (o4.lt k hk).1; simp; omega)
    have M5 := ((M2.ext (Ext.drew (Ext.refl _))).ext x3).ext x4 |>.calm K5 (by simp)
    have E5 := Ext.calm_trans E4 K5 (by simp; omega)
    have c5 := B5.cell
    clear o3 o4 M2 E4 B4 C4 D4 C3 L3 hF hL B2 B3 hcell
    go_wp2
    exact bodyPost_ret (v := .agg #[.slice sa full.length sc, .slice ta fail.length tc, .map (some (n0 + 2))]) (by simp [results, Try.results19, go_sem, c5]) rfl ⟨_, _, _, _, rfl, o5.mono (by simp; omega), o6.mono (by omega), M5, by omega, E5⟩
end Go.Proofs.Ytmoihbpjcdmmbaa
