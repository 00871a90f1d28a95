/-
  DERIVED. Layer 6's laws: among, bent.
-/
import Derived.Test.YtmoihbpjcdmmbaaStoreBlock
namespace Go.Proofs.Ytmoihbpjcdmmbaa
open Go.RowKit Go.Maps
set_option linter.unusedVariables false

set_option maxRecDepth 100000 in
theorem among_any (w : World) (v : Value) (l : List Int) (n : Int) (h : Arr w .i64 v l) (hlen : l.length ≤ 1000000) (hn : (Lit.int .i64 n).wf = true) :
    Calls Try.prog 11 #[.int .i64 n, v] w fun e w' => e = .returned (.bool (decide (n ∈ l))) ∧ w = w' := by
  have hA := h
  obtain ⟨⟨ao, c, rfl, h1, h2, h3⟩, _, _⟩ := h
  clear h1 h2 h3
  go_enter Try.func11, Try.ntmps11
  go_wp2
  go_loopg [9] l.length (fun k iv wr => ∃ i : Nat, i + k = l.length ∧ iv = .int .i64 i ∧ w = wr ∧ (l.take i).contains n = false)
  case atStart => exact ⟨0, by omega, rfl, rfl, by simp⟩
  case round =>
    obtain ⟨i, hik, rfl, rfl, hno⟩ := hrel
    by_cases hi : i < l.length
    · obtain ⟨b, off, y, rfl, hy, hyw, hc⟩ := hA.nthi i hi
      have ht := take_contains (n := n) hy
      rw [hno, Bool.false_or] at ht
      have HT := Lib.hid ht
      have HY := Lib.hid hy
      clear hA ht hno hy
      by_cases hyn : y = n
      · subst hyn
        go_wp2
        go_ret
        have : decide (y ∈ l) = true := by
          have := List.mem_of_getElem? HY.out
          simpa using this
        exact ⟨by rw [this]; rfl, rfl⟩
      · have hq : (y == n) = false := by simpa using hyn
        go_wp2
        go_roundg (gk - 1)
        case measure => omega
        case rel => exact ⟨i + 1, by omega, rfl, rfl, by rw [HT.out]; simpa using fun e => hyn e.symm⟩
    · obtain rfl : i = l.length := by omega
      rw [List.take_length] at hno
      have hno' : decide (n ∈ l) = false := by simpa using hno
      have HN := Lib.hid hno'
      clear hno hno'
      go_wp2
      go_ret
      exact ⟨by rw [HN.out]; rfl, rfl⟩

theorem shift7 (r : Nat) (h : r < 8) : (128 : Int) / 2 ^ r = ((2 ^ (7 - r) : Nat) : Int) := by
  have : ∀ r, r < 8 → (128 : Int) / 2 ^ r = ((2 ^ (7 - r) : Nat) : Int) := by decide
  exact this r h
theorem mask_and (m j : Nat) (hm : m < 4294967296) : bits .and .u32 ((m : Int) / 2 ^ j) 1 = if m.testBit j then 1 else 0 := by
  have e : (m : Int) / 2 ^ j = ((m / 2 ^ j : Nat) : Int) := by
    rw [Int.natCast_ediv, Int.natCast_pow]
    rfl
  rw [e, show (1 : Int) = ((1 : Nat) : Int) from rfl, u32_and_nat _ _ (Nat.lt_of_le_of_lt (Nat.div_le_self ..) hm) (by omega), Nat.and_one_is_mod, Nat.testBit_eq_decide_div_mod_eq]
  by_cases h : m / 2 ^ j % 2 = 1
  · simp [h]
  · have h0 : m / 2 ^ j % 2 = 0 := by omega
    simp [h0]

set_option maxRecDepth 100000 in
set_option maxHeartbeats 4000000 in
theorem bent_any (w : World) (f : Int) (m : Nat) (hf : -9223372036854775808 ≤ f ∧ f ≤ 9223372036854775807) (hm : m < 4294967296) (v : Value) (l : List Int) (hA : Arr w .u8 v l) (hl : l.length = 64) :
    Calls Try.prog 14 #[v, .agg #[.int .i64 f, .int .u32 m]] w fun e w' => ∃ v', e = .returned v' ∧ Own w' w.heap.size v' (bendL (putL l) f m) ∧ Ext w w' := by
  have hB0 := Blk.new w #[.int .i64 f, .int .u32 m] 32
  have hA0 := hA.ext ((Ext.refl w).alloc #[.int .i64 f, .int .u32 m] 32)
  have hlb := hA.bd
  obtain ⟨⟨ai, ci, rfl, -, -, -⟩, -, -⟩ := hA
  rw [hl] at hA0 ⊢
  go_enter Try.func14, Try.ntmps14
  go_wp2_with fail
  refine (put_any _ _ l hA0 (by omega)).mono ?_
  rintro e w1 ⟨v1, rfl, o1', x1⟩
  have o1 : Own w1 _ v1 (putL l) := o1'
  have hpl := putL_length hl
  have hpb := putL_bd hlb
  obtain ⟨g, c, hv1⟩ := o1.some (by omega)
  rw [hpl] at hv1
  subst hv1
  have hB1 := hB0.ext x1
  have E1 := ((Ext.refl w).alloc #[.int .i64 f, .int .u32 m] 32).trans x1
  have hg := o1.lt g rfl
  have hs1 : (w.alloc (.cells #[.int .i64 f, .int .u32 m] 32)).heap.size = w.heap.size + 1 := by simp
  rw [hs1] at hg o1
  have oB := o1.mono (Nat.le_succ _)
  clear o1' x1 hB0 hA0 hs1 o1
  generalize hd : w.heap.size = d at *
  go_wp2
  go_loopg [10] 32 (fun k iv wr => ∃ i : Nat, i + k = 32 ∧ iv = .int .i64 i ∧ Own wr d (.slice (some ⟨g, 0, none⟩) 68 c) (bendK (putL l) f m i) ∧ Blk wr d #[.int .i64 f, .int .u32 m] 32 ∧ Ext w wr)
  case atStart => exact ⟨0, by omega, rfl, oB, hB1, E1⟩
  case round =>
    obtain ⟨i, hik, rfl, hO2, hB2, hE2⟩ := hrel
    clear oB hB1 E1
    have hcell := hB2.cell
    have hLl := (bendK_length (putL l) f m i).trans hpl
    by_cases hi : i < 32
    · obtain ⟨j, hj⟩ : ∃ j : Nat, j = 31 - i := ⟨_, rfl⟩
      have hjI : (31 : Int) - (i : Int) = (j : Int) := by omega
      have hmb := mask_and m j hm
      obtain ⟨p, hP⟩ : ∃ p, IntKind.i64.wrap (f + (i : Int)) = p := ⟨_, rfl⟩
      cases hbit : m.testBit (31 - i)
      · rw [hj, hbit, if_neg (by simp), ← hj] at hmb
        have HS := Lib.hid (bendK_stay (putL l) f m i hbit)
        clear hj
        go_wp2
        go_roundg (gk - 1)
        case measure => omega
        case rel => exact ⟨i + 1, by omega, rfl, by rw [HS.out]; exact hO2, hB2, hE2⟩
      · rw [hj, hbit, if_pos rfl, ← hj] at hmb
        clear hj
        by_cases hr : 0 ≤ p ∧ p < 8 * ((putL l).length : Int)
        · obtain ⟨q, rfl⟩ : ∃ q : Nat, p = q := ⟨p.toNat, by omega⟩
          have hq544 : (q : Int) < 544 := by omega
          have HS := Lib.hid (bendK_in (putL l) f m i q hbit hP (by omega))
          have hBd := bendK_bd (putL l) f m hpb i
          generalize bendK (putL l) f m i = L at *
          have hq8 : q / 8 < L.length := by omega
          rw [← hLl] at hO2
          have hy : L[q / 8]? = some (L.getD (q / 8) 0) := by simp [List.getD, hq8]
          have hcell' := hO2.cell _ _ hy
          obtain ⟨cur, B, hcur, c1, c2, c3, hbg⟩ := hO2.blk
          have hyb := hBd _ (List.mem_of_getElem? hy)
          have hxo := xorI_u8 _ _ hyb (pow7_bd (q % 8))
          have hidx : (q : Int) / 8 = ((q / 8 : Nat) : Int) := by omega
          have hrem : (q : Int) % 8 = ((q % 8 : Nat) : Int) := by omega
          have hr8 : q % 8 < 8 := Nat.mod_lt _ (by omega)
          have hsh := shift7 (q % 8) hr8
          have HC := Lib.hid hcur
          have HX := Lib.hid hxo
          have HL := Lib.hid hLl
          have HSH := Lib.hid hsh
          clear hy hcur hxo hr hsh
          generalize hyd : L.getD (q / 8) 0 = y at *
          clear hyd hO2 hLl
          go_wp2
          clear hmb hcell
          have hxo := HX.out
          have hLl := HL.out
          have hsh := HSH.out
          have hqc : q / 8 < cur.size := by omega
          have hp8 := pow7_bd (q % 8)
          generalize (2 ^ (7 - q % 8) : Nat) = p7 at *
          generalize hQ : q / 8 = qq at *
          have hqq : (qq : Int) < 68 := by omega
          generalize q % 8 = r at *
          clear hQ
          apply wp_region_vars_early 6 [false, false, false, false, false, false, false, false, false, false, true] [g] [⟨none, 0, g, some 10, 5, cur, (cur.toList.set qq (.int .u8 (xorI y p7))).toArray⟩] _ (by kernel_rfl) (by kernel_rfl) (by kernel_rfl) (by kernel_rfl) (by kernel_rfl)
          case H =>
            intro x' hx
            have hne : Nonempty (Wx x') := ⟨⟨x', Ext.refl x'⟩⟩
            have r0 := fun (y' : Wx x') => (hx.trans y'.ext).old hcell'
            simp only [eraseM]
            repeat (go_big_quiet_step (fail))
            exact wpQuiet_nil rfl
          case hok =>
            simp only [List.forall_mem_cons, List.not_mem_nil, false_implies, implies_true, and_true]
            exact tgt_row (n := xorI y p7) (by simp) B rfl rfl rfl rfl rfl rfl hqc
          case hdis =>
            intro k k' t t' hk hk' hne _ _
            rcases k with _ | k <;> rcases k' with _ | k' <;> simp at hk hk' hne
          rintro w5 ff hw ⟨k0, l0, d0, -, -⟩
          have k0' : ff 0 = g := k0
          have B1 : Blk w5 g (cur.toList.set qq (.int .u8 (xorI y p7))).toArray 5 := k0' ▸ d0
          have hE3 : Ext w w5 := Ext.calm_trans hE2 hw (by simp; omega)
          have hB3 : Blk w5 d #[.int .i64 f, .int .u32 m] 32 := (hw.block d hB2.lt (by simp; omega)).trans hB2
          simp only [pairs, putAll, Option.isSome_none, Bool.false_eq_true, if_false]
          clear hw k0 k0' l0 d0 B hE2 hB2
          go_wp2
          go_roundg (gk - 1)
          case measure => omega
          case rel =>
            have oN := Own.mk (base := d) B1 (L := L.set qq (xorI y p7)) (by simpa using take_set_bytes HC.out qq (xorI y p7)) (by simpa using c1) c2 (by simpa using c3) hbg
            rw [List.length_set, hLl] at oN
            exact ⟨i + 1, by omega, rfl, by rw [HS.out]; exact oN, hB3, hE3⟩
        · have HS := Lib.hid (bendK_out (putL l) f m i hbit (by rw [hP]; exact hr))
          rw [hpl] at hr
          by_cases hr0 : 0 ≤ p
          · have hr1 : ¬ p < 544 := by omega
            clear hr
            go_wp2
            go_roundg (gk - 1)
            case measure => omega
            case rel => exact ⟨i + 1, by omega, rfl, by rw [HS.out]; exact hO2, hB2, hE2⟩
          · clear hr
            go_wp2
            go_roundg (gk - 1)
            case measure => omega
            case rel => exact ⟨i + 1, by omega, rfl, by rw [HS.out]; exact hO2, hB2, hE2⟩
    · obtain rfl : i = 32 := by omega
      go_wp2
      go_ret
      exact ⟨_, rfl, by rw [hd]; exact hO2, hE2⟩
end Go.Proofs.Ytmoihbpjcdmmbaa
