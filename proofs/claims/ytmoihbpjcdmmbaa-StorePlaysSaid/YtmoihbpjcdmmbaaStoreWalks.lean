/-
  DERIVED. THE WALKS of layer 6 (store): contains, invert.
-/
import Derived.Test.YtmoihbpjcdmmbaaStoreBits
import Derived.Deep.LoopGhost
namespace Go.Proofs.Ytmoihbpjcdmmbaa
open Go.RowKit
set_option linter.unusedVariables false

theorem Arr.nthi {w : World} {k : IntKind} {ao : Option Addr} {c : Nat} {l : List Int} (h : Arr w k (.slice ao l.length c) l) (i : Nat) (hi : i < l.length) :
    ∃ b off y, ao = some ⟨b, off, none⟩ ∧ l[i]? = some y ∧ (Lit.int k y).wf = true ∧ w.cell? ⟨b, off + i, none⟩ = some (.int k y) := by
  obtain ⟨⟨ao', c', e, h1, h2, h3⟩, h4, h5⟩ := h
  cases e
  obtain ⟨b, off, rfl, hc⟩ := h2 (by intro e; subst e; simp at hi)
  refine ⟨b, off, l[i], rfl, by simp [hi], h5 _ (List.getElem_mem ..), ?_⟩
  rw [hc i hi]
  simp [List.getD, hi]
theorem take_contains {l : List Int} {i : Nat} {y n : Int} (h : l[i]? = some y) : (l.take (i + 1)).contains n = ((l.take i).contains n || decide (n = y)) := by
  rw [List.take_add_one, h]
  simp

set_option maxRecDepth 100000 in
theorem contains_any (w : World) (v : Value) (l : List Int) (n : Int) (h : Arr w .i64 v l) (hlen : l.length ≤ 1000000) (hn : (Lit.int .i64 n).wf = true) :
    Calls Try.prog 20 #[v, .int .i64 n] w fun e w' => e = .returned (.bool (decide (n ∈ l))) ∧ w = w' := by
  have hA := h
  obtain ⟨⟨ao, c, rfl, h1, h2, h3⟩, _, _⟩ := h
  clear h1 h2 h3
  go_enter Try.func20, Try.ntmps20
  go_wp2
  go_loopg [9] l.length (fun k iv wr => ∃ i : Nat, i + k = l.length ∧ iv = .int .i64 i ∧ w = wr ∧ (l.take i).contains n = false)
  case atStart => exact ⟨0, by omega, rfl, rfl, by simp⟩
  case round =>
    obtain ⟨i, hik, rfl, rfl, hno⟩ := hrel
    by_cases hi : i < l.length
    · obtain ⟨b, off, y, rfl, hy, hyw, hc⟩ := hA.nthi i hi
      have ht := take_contains (n := n) hy
      rw [hno, Bool.false_or] at ht
      have HT := Lib.hid ht
      have HY := Lib.hid hy
      clear hA ht hno hy
      by_cases hyn : y = n
      · subst hyn
        go_wp2
        go_ret
        have : decide (y ∈ l) = true := by
          have := List.mem_of_getElem? HY.out
          simpa using this
        exact ⟨by rw [this]; rfl, rfl⟩
      · have hq : (y == n) = false := by simpa using hyn
        go_wp2
        go_roundg (gk - 1)
        case measure => omega
        case rel => exact ⟨i + 1, by omega, rfl, rfl, by rw [HT.out]; simpa using fun e => hyn e.symm⟩
    · obtain rfl : i = l.length := by omega
      rw [List.take_length] at hno
      have hno' : decide (n ∈ l) = false := by simpa using hno
      have HN := Lib.hid hno'
      clear hno hno'
      go_wp2
      go_ret
      exact ⟨by rw [HN.out]; rfl, rfl⟩

set_option maxRecDepth 100000 in
set_option maxHeartbeats 4000000 in
theorem invert_any (w : World) (f : Int) (m : Nat) (hf : -9223372036854775808 ≤ f ∧ f ≤ 9223372036854775807) (hm : m < 4294967296) (v : Value) (X : List Int) (base : Nat) (hO : Own w base v X) (hX : X.length ≤ 1000000) (hb : ∀ y ∈ X, 0 ≤ y ∧ y ≤ 255) :
    Calls Try.prog 22 #[.agg #[.int .i64 f, .int .u32 m], v] w fun e w' => e = .returned (.tuple #[]) ∧ Own w' base v (bendL X f m) ∧ Calm v.ownBlock.toList w w' := by
  obtain ⟨ao, c, rfl, h0, ha⟩ := hO.slice
  go_enter Try.func22, Try.ntmps22
  go_wp2
  have hO1 := hO.alloc (.cells #[.int .i64 f, .int .u32 m] 32)
  have hB1 := Blk.new w #[.int .i64 f, .int .u32 m] 32
  have hC1 : Calm (Value.slice ao X.length c).ownBlock.toList w (w.alloc (.cells #[.int .i64 f, .int .u32 m] 32)) := ((Ext.refl w).alloc _ _).calm _
  have hlt := hO.lt
  clear hO
  generalize hd : w.heap.size = d at *
  generalize w.alloc (.cells #[.int .i64 f, .int .u32 m] 32) = w1 at *
  go_loopg [6] 32 (fun k iv wr => ∃ i : Nat, i + k = 32 ∧ iv = .int .i64 i ∧ Own wr base (.slice ao X.length c) (bendK X f m i) ∧ Blk wr d #[.int .i64 f, .int .u32 m] 32 ∧ Calm (Value.slice ao X.length c).ownBlock.toList w wr)
  case atStart => exact ⟨0, by omega, rfl, hO1, hB1, hC1⟩
  case round =>
    obtain ⟨i, hik, rfl, hO2, hB2, hC2⟩ := hrel
    clear hO1 hB1 hC1
    have hcell := hB2.cell
    by_cases hi : i < 32
    · have hmb := mask_bit m i (by omega) hi
      cases hbit : m.testBit (31 - i)
      · rw [hbit, if_neg (by simp)] at hmb
        have HS := Lib.hid (bendK_stay X f m i hbit)
        go_wp2
        go_roundg (gk - 1)
        case measure => omega
        case rel => exact ⟨i + 1, by omega, rfl, by rw [HS.out]; exact hO2, hB2, hC2⟩
      · rw [hbit, if_pos rfl] at hmb
        obtain ⟨p, hP⟩ : ∃ p, IntKind.i64.wrap (f + (i : Int)) = p := ⟨_, rfl⟩
        by_cases hr : 0 ≤ p ∧ p < 8 * (X.length : Int)
        · obtain ⟨q, rfl⟩ : ∃ q : Nat, p = q := ⟨p.toNat, by omega⟩
          have hq8 : q / 8 < X.length := by omega
          have HS := Lib.hid (bendK_in X f m i q hbit hP (by omega))
          have hLl := bendK_length X f m i
          have hBd := bendK_bd X f m hb i
          generalize bendK X f m i = L at *
          rw [← hLl] at hO2
          cases ao with
          | none =>
            have := (h0 rfl).1
            subst this
            simp at hq8
          | some ad =>
            obtain ⟨g, rfl⟩ : ∃ g, ad = ⟨g, 0, none⟩ := ⟨ad.block, ha ad rfl⟩
            have hy : L[q / 8]? = some (L.getD (q / 8) 0) := by simp [List.getD, hLl, hq8]
            have hcell' := hO2.cell _ _ hy
            obtain ⟨cur, B, hcur, c1, c2, c3, hbg⟩ := hO2.blk
            have hyb := hBd _ (List.mem_of_getElem? hy)
            have hxo := xorI_u8 _ _ hyb (pow7_bd (q % 8))
            have hidx : (q : Int) / 8 = ((q / 8 : Nat) : Int) := by omega
            have hrem : (q : Int) % 8 = ((q % 8 : Nat) : Int) := by omega
            have hr8 : q % 8 < 8 := Nat.mod_lt _ (by omega)
            have HC := Lib.hid hcur
            have HX := Lib.hid hxo
            clear hy hcur hxo h0 ha
            generalize hyd : L.getD (q / 8) 0 = y at *
            clear hyd hO2
            go_wp2
            clear hmb hcell
            have hxo := HX.out
            have hqc : q / 8 < cur.size := by omega
            have h7 : (7 : Int) - ((q % 8 : Nat) : Int) = ((7 - q % 8 : Nat) : Int) := by omega
            have h78 : 7 - q % 8 < 8 := by omega
            have hp7 : (2 : Int) ^ (7 - q % 8) = ((2 ^ (7 - q % 8) : Nat) : Int) := by rw [Int.natCast_pow]; rfl
            have hp8 := pow7_bd (q % 8)
            generalize (2 ^ (7 - q % 8) : Nat) = p7 at *
            generalize 7 - q % 8 = r7 at *
            generalize hQ : q / 8 = qq at *
            generalize q % 8 = r at *
            clear hQ
            apply wp_region_vars_early 6 [false, false, false, false, false, false, false, false, false, false, false, true] [g] [⟨none, 0, g, some 11, 5, cur, (cur.toList.set qq (.int .u8 (xorI y p7))).toArray⟩] _ (by kernel_rfl) (by kernel_rfl) (by kernel_rfl) (by kernel_rfl) (by kernel_rfl)
            case H =>
              intro x' hx
              have hne : Nonempty (Wx x') := ⟨⟨x', Ext.refl x'⟩⟩
              have r0 := fun (y' : Wx x') => (hx.trans y'.ext).old hcell'
              simp only [eraseM]
              repeat (go_big_quiet_step (fail))
              exact wpQuiet_nil rfl
            case hok =>
              simp only [List.forall_mem_cons, List.not_mem_nil, false_implies, implies_true, and_true]
              exact tgt_row (n := xorI y p7) (by simp) B rfl rfl rfl rfl rfl rfl hqc
            case hdis =>
              intro k k' t t' hk hk' hne _ _
              rcases k with _ | k <;> rcases k' with _ | k' <;> simp at hk hk' hne
            rintro w5 ff hw ⟨k0, l0, d0, -, -⟩
            have k0' : ff 0 = g := k0
            have B1 : Blk w5 g (cur.toList.set qq (.int .u8 (xorI y p7))).toArray 5 := k0' ▸ d0
            have hC3 : Calm (Value.slice (some ⟨g, 0, none⟩) X.length c).ownBlock.toList w w5 := hC2.trans hw
            have hB3 : Blk w5 d #[.int .i64 f, .int .u32 m] 32 := (hw.block d hB2.lt (by
              have := (hlt g rfl).2
              simp
              omega)).trans hB2
            simp only [pairs, putAll, Option.isSome_none, Bool.false_eq_true, if_false]
            clear hw k0 k0' l0 d0 B hC2 hB2
            go_wp2
            go_roundg (gk - 1)
            case measure => omega
            case rel =>
              have oN := Own.mk (base := base) B1 (L := L.set qq (xorI y p7)) (by simpa using take_set_bytes HC.out qq (xorI y p7)) (by simpa using c1) c2 (by simpa using c3) hbg
              rw [List.length_set, hLl] at oN
              exact ⟨i + 1, by omega, rfl, by rw [HS.out]; exact oN, hB3, hC3⟩
        · have HS := Lib.hid (bendK_out X f m i hbit (by rw [hP]; exact hr))
          by_cases hr0 : 0 ≤ p
          · go_wp2
            go_roundg (gk - 1)
            case measure => omega
            case rel => exact ⟨i + 1, by omega, rfl, by rw [HS.out]; exact hO2, hB2, hC2⟩
          · go_wp2
            go_roundg (gk - 1)
            case measure => omega
            case rel => exact ⟨i + 1, by omega, rfl, by rw [HS.out]; exact hO2, hB2, hC2⟩
    · obtain rfl : i = 32 := by omega
      go_wp2
      exact bodyPost_end (v := .tuple #[]) (by simp [results, Try.results22]) rfl ⟨rfl, hO2, hC2⟩
end Go.Proofs.Ytmoihbpjcdmmbaa
