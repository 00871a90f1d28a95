/-
  DERIVED. The walk of the law WireBack: it returns true, whatever the numbers and bytes.
-/
import Derived.Test.YtgmjfmmandbekaaWireBackParts
import Derived.Test.YtgmjfmmandbekaaWireRdr6
import Derived.Test.YtgmjfmmandbekaaArr
import Derived.Deep.LoopGhost
import Derived.Deep.RegionWith
import Derived.Deep.DeepCutAuto
namespace Go.Proofs.Ytgmjfmmandbekaa
open Go.RowKit
set_option linter.unusedVariables false

/-- numbers' bytes, one behind the other -/
def encs (f : Int → Nat) (xs : List Int) : List Int := (xs.map fun n => leb (f n)).flatten
theorem encs_succ (f : Int → Nat) (xs : List Int) (j : Nat) (hj : j < xs.length) : encs f (xs.take (j + 1)) = encs f (xs.take j) ++ leb (f (xs.getD j 0)) := by
  unfold encs
  rw [List.take_succ_eq_append_getElem hj, List.map_append, List.flatten_append]
  simp [List.getD, hj]
theorem encs_drop (f : Int → Nat) (xs : List Int) (j : Nat) (hj : j < xs.length) : encs f (xs.drop j) = leb (f (xs.getD j 0)) ++ encs f (xs.drop (j + 1)) := by
  unfold encs
  rw [List.drop_eq_getElem_cons hj, List.map_cons, List.flatten_cons, show xs.getD j 0 = xs[j] by simp [List.getD, hj]]
theorem drop_on {L a b : List Int} {K : Nat} (h : L.drop K = a ++ b) : L.drop (K + a.length) = b := by
  rw [← List.drop_drop, h, List.drop_left]
theorem encs_bytes (f : Int → Nat) (xs : List Int) : ∀ y ∈ encs f xs, 0 ≤ y ∧ y ≤ 255 := by
  intro y hy
  obtain ⟨q, hq, hy⟩ := List.mem_flatten.1 hy
  obtain ⟨n, _, rfl⟩ := List.mem_map.1 hq
  exact leb_bytes _ y hy
theorem encs_len (f : Int → Nat) : ∀ (xs : List Int), (∀ n ∈ xs, f n < 18446744073709551616) → (encs f xs).length ≤ 10 * xs.length
  | [], _ => by simp [encs]
  | x :: xs, h => by
    have h1 := leb_len10 (h x (by simp))
    have h2 := encs_len f xs fun n hn => h n (by simp [hn])
    simp only [encs, List.map_cons, List.flatten_cons, List.length_append, List.length_cons] at h2 ⊢
    omega
set_option maxRecDepth 100000 in
set_option maxHeartbeats 4000000 in
theorem wireBack_late (w : World) (v0 : Value) (xs0 : List Int) (v1 : Value) (xs1 : List Int) (v2 : Value) (xs2 : List Int) (h0 : Arr w .i64 v0 xs0) (h1 : Arr w .u32 v1 xs1) (h2 : Arr w .u8 v2 xs2) (k0 : xs0.length ≤ 30) (k1 : xs1.length ≤ 30) (k2 : xs2.length ≤ 100) :
    Calls Try.prog 3 #[v0, v1, v2] w fun e w' => e = .returned (.bool true) ∧ Ext w w' := by
  obtain ⟨⟨a0, c0, rfl, hc0, hs0, hn0⟩, hm0, hw0⟩ := h0
  obtain ⟨⟨a1, c1, rfl, hc1, hs1, hn1⟩, hm1, hw1⟩ := h1
  obtain ⟨⟨a2, c2, rfl, hc2, hs2, hn2⟩, hm2, hw2⟩ := h2
  unfold maxLen at hm0 hm1 hm2
  have d0 : decide (30 < (xs0.length : Int)) = false := by rw [decide_eq_false_iff_not]; omega
  have d1 : decide (30 < (xs1.length : Int)) = false := by rw [decide_eq_false_iff_not]; omega
  have d2 : decide (100 < (xs2.length : Int)) = false := by rw [decide_eq_false_iff_not]; omega
  have bd0 : ∀ n ∈ xs0, -9223372036854775808 ≤ n ∧ n ≤ 9223372036854775807 := fun n hn => bounds_i64 (hw0 n hn)
  have bd1 : ∀ n ∈ xs1, 0 ≤ n ∧ n ≤ 4294967295 := fun n hn => bounds_u32 (hw1 n hn)
  go_enter Try.func3, Try.ntmps3
  go_wp2_with fail
  with_reducible refine (awake4_any _).mono ?_
  rintro e w1 ⟨rfl, hx1⟩
  go_wp2
  go_loopg [8, 37] xs0.length (fun k wv iv wr => ∃ (j : Nat) (l : List Int) (F : List Nat), j + k = xs0.length ∧ iv = .int .i64 j ∧ Pen wr w.heap.size w1.heap.size l F ∧ Own wr w.heap.size wv l ∧ (∀ x, wv.ownBlock = some x → x ∉ F) ∧ l = [] ++ encs zig (xs0.take j) ∧ Ext w wr)
  case atStart => exact ⟨0, [], _, by omega, rfl, Pen.new hx1.size, Own.nil _ _, (fun x hx => by cases hx), rfl, hx1.alloc _ _⟩
  case round =>
    obtain ⟨j, l, F, hjk, rfl, hP, ho, hd, hl, hx⟩ := hrel
    by_cases hj : j < xs0.length
    · obtain ⟨b, off, rfl, hcell⟩ := hs0 (by intro h; rw [h] at hj; simp at hj)
      have hc := hx.old (hcell j hj)
      have hmem : xs0.getD j 0 ∈ xs0 := by simp [List.getD, hj]
      have hb := bd0 _ hmem
      have hlen : l.length ≤ 700 := by
        rw [hl, List.length_append]
        have := encs_len zig (xs0.take j) fun n hn => zig_lt (bd0 n (List.mem_of_mem_take hn))
        simp at this
        simp; omega
      have hez := encs_succ zig xs0 j hj
      have HL := Lib.hid (And.intro hl hez)
      clear hl hez
      generalize xs0.getD j 0 = n at *
      have hz := hx.size
      go_wp2_with fail
      refine (pen_int n hb _ _ _ _ _ hP (by omega) hz).mono ?_
      rintro e w2 ⟨rfl, F2, P2, s2⟩
      have e2 : Ext w w2 := Step.ext hx s2 (fun b hb => (hP.lt b hb).1)
      have o2 := ho.calm s2.1 hd
      have d2' : ∀ x, Value.ownBlock u8 = some x → x ∉ F2 := fun x hx hm => by
        rcases s2.2 x hm with h | h
        · exact hd x hx h
        · have := (ho.lt x hx).2; omega
      go_wp2_with fail
      refine (rint_any n _ hb).mono ?_
      rintro e w3 ⟨v, rfl, o3, hx3⟩
      have e3 := e2.trans hx3
      have P3 := P2.kept (hx3.calm []) (by simp)
      have ow3 := o2.ext hx3
      obtain ⟨ao, c3, rfl, ha0, ha⟩ := o3.slice
      cases ao with
      | none => exact absurd (ha0 rfl).1 (leb_ne_nil _)
      | some a =>
        obtain ⟨g, rfl⟩ : ∃ g, a = ⟨g, 0, none⟩ := ⟨a.block, ha a rfl⟩
        clear ha ha0
        have h10 := leb_len10 (zig_lt hb)
        have z3 := e3.size
        have zz := hx3.size
        go_wp2_with (at_builtin; refine wpList_append_bytes rfl _ _ rfl w.heap.size _ l rfl ow3 ⟨g, 0, none⟩ c3 (leb (zig n)) rfl o3.cellA (by omega) z3 ?_)
        intro v' w4 o4 hc4 hk4
        go_wp2
        go_roundg (gk - 1)
        case measure => omega
        case rel =>
          obtain ⟨hl, hez⟩ := HL.out
          refine ⟨j + 1, _, F2, by omega, by simp, P3.kept hc4 (fun b hb hm => d2' b (Option.mem_toList.1 hm) hb), o4, (fun x hx hm => ?_), by rw [hez, hl]; simp, Ext.calm_trans e3 hc4 (fun g hg => (ho.lt g (Option.mem_toList.1 hg)).1)⟩
          rcases hk4 x hx with h | h
          · exact d2' x h hm
          · have := (P3.lt x hm).2; omega
    · have hj' : j = xs0.length := by omega
      subst hj'
      rw [List.take_length] at hl
      clear hjk hj
      go_wp2
      rw [List.nil_append] at hl
      have hlen0 : l.length ≤ 300 := by
        rw [hl]
        have := encs_len zig xs0 fun n hn => zig_lt (bd0 n hn)
        omega
      have HP := Lib.hid hl
      clear hl
      generalize wr = w2 at *
      generalize l = pre at *
      go_loopg [8, 51] xs1.length (fun k wv iv wr => ∃ (j : Nat) (l : List Int) (F : List Nat), j + k = xs1.length ∧ iv = .int .i64 j ∧ Pen wr w.heap.size w1.heap.size l F ∧ Own wr w.heap.size wv l ∧ (∀ x, wv.ownBlock = some x → x ∉ F) ∧ l = pre ++ encs Int.toNat (xs1.take j) ∧ Ext w wr)
      case atStart => exact ⟨0, pre, F, by omega, rfl, hP, ho, hd, by simp [encs], hx⟩
      case round =>
        obtain ⟨j, l, F, hjk, rfl, hP, ho, hd, hl, hx⟩ := hrel
        by_cases hj : j < xs1.length
        · obtain ⟨b, off, rfl, hcell⟩ := hs1 (by intro h; rw [h] at hj; simp at hj)
          have hc := hx.old (hcell j hj)
          have hmem : xs1.getD j 0 ∈ xs1 := by simp [List.getD, hj]
          have hb := bd1 _ hmem
          have hlen : l.length ≤ 700 := by
            rw [hl, List.length_append]
            have := encs_len Int.toNat (xs1.take j) fun n hn => by have := bd1 n (List.mem_of_mem_take hn); omega
            simp at this
            omega
          have hez := encs_succ Int.toNat xs1 j hj
          have HL := Lib.hid (And.intro hl hez)
          clear hl hez
          generalize xs1.getD j 0 = n at *
          obtain ⟨m, rfl⟩ := Int.eq_ofNat_of_zero_le hb.1
          have hz := hx.size
          go_wp2_with fail
          refine (pen_count (m : Int) (by omega) _ _ _ _ _ hP (by omega) hz).mono ?_
          rintro e w2 ⟨rfl, F2, P2, s2⟩
          rw [Int.toNat_natCast] at P2
          have e2 : Ext w w2 := Step.ext hx s2 (fun b hb => (hP.lt b hb).1)
          have o2 := ho.calm s2.1 hd
          have d2' : ∀ x, Value.ownBlock u8 = some x → x ∉ F2 := fun x hx hm => by
            rcases s2.2 x hm with h | h
            · exact hd x hx h
            · have := (ho.lt x hx).2; omega
          go_wp2_with fail
          refine (rcount_any m _ (by omega)).mono ?_
          rintro e w3 ⟨v, rfl, o3, hx3⟩
          have e3 := e2.trans hx3
          have P3 := P2.kept (hx3.calm []) (by simp)
          have ow3 := o2.ext hx3
          obtain ⟨ao, c3, rfl, ha0, ha⟩ := o3.slice
          cases ao with
          | none => exact absurd (ha0 rfl).1 (leb_ne_nil _)
          | some a =>
            obtain ⟨g, rfl⟩ : ∃ g, a = ⟨g, 0, none⟩ := ⟨a.block, ha a rfl⟩
            clear ha ha0
            have h10 := leb_len10 (n := m) (by omega)
            have z3 := e3.size
            have zz := hx3.size
            go_wp2_with (at_builtin; refine wpList_append_bytes rfl _ _ rfl w.heap.size _ l rfl ow3 ⟨g, 0, none⟩ c3 (leb m) rfl o3.cellA (by omega) z3 ?_)
            intro v' w4 o4 hc4 hk4
            go_wp2
            go_roundg (gk - 1)
            case measure => omega
            case rel =>
              obtain ⟨hl, hez⟩ := HL.out
              refine ⟨j + 1, _, F2, by omega, by simp, P3.kept hc4 (fun b hb hm => d2' b (Option.mem_toList.1 hm) hb), o4, (fun x hx hm => ?_), by rw [hez, hl]; simp, Ext.calm_trans e3 hc4 (fun g hg => (ho.lt g (Option.mem_toList.1 hg)).1)⟩
              rcases hk4 x hx with h | h
              · exact d2' x h hm
              · have := (P3.lt x hm).2; omega
        · have hj' : j = xs1.length := by omega
          subst hj'
          rw [List.take_length] at hl
          clear hjk hj
          go_wp2_with fail
          have hlen1 : l.length ≤ 700 := by
            rw [hl, List.length_append]
            have := encs_len Int.toNat xs1 fun n hn => by have := bd1 n hn; omega
            omega
          have HQ := Lib.hid hl
          clear hl
          have hz := hx.size
          have A2 : Arr w .u8 (.slice a2 xs2.length c2) xs2 := ⟨⟨a2, c2, rfl, hc2, hs2, hn2⟩, (by unfold maxLen; exact hm2), hw2⟩
          refine (pen_put _ _ _ _ _ hP _ _ (A2.ext hx) (by omega) hz).mono ?_
          rintro e w3 ⟨rfl, F3, P3, s3⟩
          have e3 : Ext w w3 := Step.ext hx s3 (fun b hb => (hP.lt b hb).1)
          have o3 := ho.calm s3.1 hd
          have d3 : ∀ x, Value.ownBlock u8 = some x → x ∉ F3 := fun x hx hm => by
            rcases s3.2 x hm with h | h
            · exact hd x hx h
            · have := (ho.lt x hx).2; omega
          have z3 := e3.size
          go_wp2_with fail
          refine (pen_byte 7 (by omega) _ _ _ _ _ P3 (by simp; omega) z3).mono ?_
          rintro e w4 ⟨rfl, F4, P4, s4⟩
          have e4 : Ext w w4 := Step.ext e3 s4 (fun b hb => (P3.lt b hb).1)
          have o4 := o3.calm s4.1 d3
          have d4 : ∀ x, Value.ownBlock u8 = some x → x ∉ F4 := fun x hx hm => by
            rcases s4.2 x hm with h | h
            · exact d3 x hx h
            · have := (o3.lt x hx).2; omega
          have z4 := e4.size
          have A4 := A2.ext e4
          go_wp2_with (at_builtin; refine wpList_append_arr rfl _ _ rfl w.heap.size _ l rfl o4 _ xs2 rfl A4 (by omega) z4 ?_)
          intro v5 w5 o5 hc5 hk5
          have e5 : Ext w w5 := Ext.calm_trans e4 hc5 (fun g hg => (o4.lt g (Option.mem_toList.1 hg)).1)
          have P5 := P4.kept hc5 (fun b hb hm => d4 b (Option.mem_toList.1 hm) hb)
          have d5 : ∀ x, Value.ownBlock v5 = some x → x ∉ F4 := fun x hx hm => by
            rcases hk5 x hx with h | h
            · exact d4 x h hm
            · have := (P4.lt x hm).2; omega
          have z5 := e5.size
          go_wp2_with (at_builtin; refine wpList_append_byte rfl _ _ rfl w.heap.size _ (l ++ xs2) rfl (o5.alloc _) w5.heap.size 1 7 rfl (by simp [go_sem]) (by simp; omega) (by simp; omega) ?_)
          intro v6 w6 o6 hc6 hk6
          have e6 : Ext w w6 := Ext.calm_trans (e5.alloc _ _) hc6 (fun g hg => (o5.lt g (Option.mem_toList.1 hg)).1)
          have P6 := (P5.kept (((Ext.refl w5).alloc _ _).calm []) (by simp)).kept hc6 (fun b hb hm => d5 b (Option.mem_toList.1 hm) hb)
          have z6 := e6.size
          rw [List.append_assoc] at P6
          generalize hL : l ++ (xs2 ++ [7]) = L at *
          have hLl : L.length ≤ 900 := by rw [← hL]; simp; omega
          obtain ⟨ao, c6, rfl, ha0, ha⟩ := o6.slice
          have k6 := o6.str
          clear ha ha0
          have hLb : ∀ y ∈ L, 0 ≤ y ∧ y ≤ 255 := by
            rw [← hL, HQ.out, HP.out]
            intro y hy
            rcases List.mem_append.1 hy with hy | hy
            · rcases List.mem_append.1 hy with hy | hy
              · exact encs_bytes _ _ y hy
              · exact encs_bytes _ _ y hy
            · rcases List.mem_append.1 hy with hy | hy
              · exact bounds_u8 (hw2 y hy)
              · simp at hy; omega
          go_upto_region 22 with fail
          refine back_r22 _ _ _ _ _ _ _ _ _ _ _ _ _ _ _ _ _ _ _ _ _ _ _ _ _ _ _ _ _ _ _ _ _ _ _ _ _ _ _ _ _ _ _ _ _ _ _ _ _ _ _ _ _ _ _ _ _ _ _ _ _ _ _ _ _ _ _ _ _ _ _ _ _ _ _ _ _ _ _ _ _ _ _ _ _ _ _ _ _ _ _ _ _ _ _ _ _ _ _ _ _ _ _ _ _ _ _ _ _ _ _ _ _ _ _ _ _ _ _ _ _ _ _ _ _ _ _ _ _ _ _ _ _ _ _ _ w1.heap.size ao c6 L hLl hLb w.heap.size F4 w6 P6 o6 (fun _ _ _ _ _ _ _ _ _ _ _ _ w7 hx7 => ?_)
          go_wp2_with fail
          have z7 := (e6.trans hx7).size
          refine (rd_read _ _ _ ((o6.ext hx7).arr hLb) (by omega)).mono ?_
          rintro e w8 ⟨p, F8, rfl, R8, hx8⟩
          have e8 := (e6.trans hx7).trans hx8
          have R8' := R8.mono z7
          have hT : L = pre ++ (encs Int.toNat xs1 ++ (xs2 ++ [7])) := by rw [← hL, HQ.out]; simp
          have hT0 : L.drop 0 = encs zig (xs0.drop 0) ++ (encs Int.toNat xs1 ++ (xs2 ++ [7])) := by rw [List.drop_zero, List.drop_zero, ← HP.out]; exact hT
          clear hL hT
          generalize hT2 : xs2 ++ [7] = T2 at *
          generalize hT1 : encs Int.toNat xs1 ++ T2 = T1 at *
          go_wp2
          go_loopg [92] xs0.length (fun k iv wr => ∃ (j K : Nat) (F : List Nat), j + k = xs0.length ∧ iv = .int .i64 j ∧ Rdr wr w.heap.size p L K 0 F ∧ L.drop K = encs zig (xs0.drop j) ++ T1 ∧ Ext w wr)
          case atStart => exact ⟨0, 0, F8, by omega, rfl, R8', hT0, e8⟩
          case round =>
            obtain ⟨j, K, F, hjk, rfl, hR, hr, hx⟩ := hrel
            by_cases hj : j < xs0.length
            · obtain ⟨b, off, rfl, hcell⟩ := hs0 (by intro h; rw [h] at hj; simp at hj)
              have hc := hx.old (hcell j hj)
              have hmem : xs0.getD j 0 ∈ xs0 := by simp [List.getD, hj]
              have hb := bd0 _ hmem
              rw [encs_drop zig xs0 j hj, List.append_assoc] at hr
              generalize xs0.getD j 0 = n at *
              have hdr := drop_on hr
              have HD := Lib.hid hdr
              clear hdr
              have hun := unzig_zig n
              go_wp2_with fail
              have hrd : rdAt 0 (L.drop K) = ((zig n), (leb (zig n)).length, 0) := by rw [rdAt_zero, hr]; exact rdNum_leb (zig_lt hb) _
              refine (rd_int _ _ _ _ _ _ _ hR _ _ _ hrd).mono ?_
              rintro e w9 ⟨rfl, R9, s9⟩
              clear hr
              go_wp2
              go_roundg (gk - 1)
              case measure => omega
              case rel => exact ⟨j + 1, _, _, by omega, by simp, R9, HD.out, Step.ext hx s9 (fun b hb => (hR.lt b hb).1)⟩
            · have hj' : j = xs0.length := by omega
              subst hj'
              rw [List.drop_length] at hr
              clear hjk hj
              go_wp2
              have hr1 : L.drop K = encs Int.toNat (xs1.drop 0) ++ T2 := by rw [hr, List.drop_zero, hT1]; rfl
              clear hr hT1
              generalize wr = w10 at *
              go_loopg [103] xs1.length (fun k iv wr => ∃ (j K : Nat) (F : List Nat), j + k = xs1.length ∧ iv = .int .i64 j ∧ Rdr wr w.heap.size p L K 0 F ∧ L.drop K = encs Int.toNat (xs1.drop j) ++ T2 ∧ Ext w wr)
              case atStart => exact ⟨0, K, F, by omega, rfl, hR, hr1, hx⟩
              case round =>
                obtain ⟨j, K, F, hjk, rfl, hR, hr, hx⟩ := hrel
                by_cases hj : j < xs1.length
                · obtain ⟨b, off, rfl, hcell⟩ := hs1 (by intro h; rw [h] at hj; simp at hj)
                  have hc := hx.old (hcell j hj)
                  have hmem : xs1.getD j 0 ∈ xs1 := by simp [List.getD, hj]
                  have hb := bd1 _ hmem
                  rw [encs_drop Int.toNat xs1 j hj, List.append_assoc] at hr
                  generalize xs1.getD j 0 = n at *
                  obtain ⟨m, rfl⟩ := Int.eq_ofNat_of_zero_le hb.1
                  rw [Int.toNat_natCast] at hr
                  have hdr := drop_on hr
                  have HD := Lib.hid hdr
                  clear hdr
                  go_wp2_with fail
                  have hrd : rdAt 0 (L.drop K) = (m, (leb m).length, 0) := by rw [rdAt_zero, hr]; exact rdNum_leb (by omega) _
                  refine (rd_count 4294967296 (by omega) _ _ _ _ _ _ _ hR _ _ _ hrd (by omega)).mono ?_
                  rintro e w9 ⟨rfl, R9, s9⟩
                  clear hr
                  go_wp2
                  go_roundg (gk - 1)
                  case measure => omega
                  case rel => exact ⟨j + 1, _, _, by omega, by simp, R9, HD.out, Step.ext hx s9 (fun b hb => (hR.lt b hb).1)⟩
                · have hj' : j = xs1.length := by omega
                  subst hj'
                  rw [List.drop_length] at hr
                  clear hjk hj
                  go_wp2_with fail
                  have hr2 : L.drop K = xs2 ++ [7] := by rw [hr, ← hT2]; rfl
                  have hK : K + xs2.length + 1 = L.length := by
                    have h1 := congrArg List.length hr2
                    have h2 := hR.most
                    simp at h1
                    omega
                  have hr3 := drop_on hr2
                  clear hr
                  have hr4 : (L.drop K).take xs2.length = xs2 := by rw [hr2]; simp
                  have hr5 : L[K + xs2.length]? = some 7 := by
                    have := congrArg (fun q => q[0]?) hr3
                    simpa using this
                  refine back_r37 _ _ _ _ _ _ _ _ _ _ _ _ _ _ _ _ _ _ _ _ _ _ _ _ _ _ _ _ _ _ _ _ _ _ _ _ _ _ _ _ _ _ _ _ _ _ _ _ _ _ _ _ _ _ _ _ _ _ _ _ _ _ _ _ _ _ _ _ _ _ _ _ _ _ _ _ _ _ _ _ _ _ _ _ _ _ _ _ _ _ _ _ _ _ _ _ _ _ _ _ _ _ _ _ _ _ _ _ _ _ _ _ _ _ _ _ _ _ _ _ _ _ _ _ _ _ _ _ _ _ _ _ _ _ _ p a2 c2 xs2 ao c6 L hLl k2 w _ hx A2 K F hR hr4 hr5 hK (fun _ _ _ _ _ _ _ _ _ _ _ _ _ _ _ _ _ _ _ _ _ _ _ _ _ w14 e14 => ?_)
                  go_wp2
                  go_ret
                  exact ⟨rfl, e14⟩
end Go.Proofs.Ytgmjfmmandbekaa
