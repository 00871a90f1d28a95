/-
  DERIVED. THE WALK of CrcBursts.
-/
import Derived.Test.YtjghfknpgnecgaaCrcFacts
namespace Go.Proofs.Ytjghfknpgnecgaa
open Go.RowKit
set_option linter.unusedVariables false

theorem shift7 (r : Nat) (h : r < 8) : (128 : Int) / 2 ^ r = ((2 ^ (7 - r) : Nat) : Int) := by
  have : ∀ r, r < 8 → (128 : Int) / 2 ^ r = ((2 ^ (7 - r) : Nat) : Int) := by decide
  exact this r h
set_option maxRecDepth 100000 in
theorem crcBursts_row {w : World} (v0 : Value) (l : List Int) (at_ m0 : Int) (h0 : Arr w .u8 v0 l) (hat : 0 ≤ at_ ∧ at_ ≤ 65535) (hm0 : 0 ≤ m0 ∧ m0 ≤ 4294967295) :
    Calls Try.prog 4 #[v0, .int .u16 at_, .int .u32 m0] w fun e w' => e = .returned (.bool true) ∧ Ext w w' := by
  have k0 := h0
  have hb := h0.bd
  obtain ⟨⟨ao0, c0, rfl, p0, -, -⟩, -, -⟩ := h0
  obtain ⟨a, rfl⟩ : ∃ a : Nat, at_ = a := ⟨at_.toNat, by omega⟩
  obtain ⟨m, rfl⟩ : ∃ m : Nat, m0 = m := ⟨m0.toNat, by omega⟩
  by_cases hl : 200 < l.length
  · go_enter Try.func4, Try.ntmps4
    go_wp2_with fail
    refine (awake5_any _).mono ?_
    rintro e w1 ⟨rfl, e1⟩
    go_wp2
    go_ret
    exact ⟨rfl, e1⟩
  go_enter Try.func4, Try.ntmps4
  go_wp2_with fail
  refine (awake5_any _).mono ?_
  rintro e w1 ⟨rfl, e1⟩
  go_wp2_with fail
  refine (put_any _ _ _ (k0.ext e1) (by omega)).mono ?_
  rintro e w2 ⟨vx, rfl, ox, e2⟩
  have rX := put_reg l hb
  have bX := put_bd l hb
  have lX := put_length l (bN (crcSum l))
  generalize hX : l ++ sum4 (bN (crcSum l)) = X at *
  clear hX k0 hb
  obtain ⟨ao, c, rfl, hn, ha⟩ := ox.slice
  obtain ⟨g, rfl⟩ : ∃ g, ao = some ⟨g, 0, none⟩ := by
    cases ao with
    | none => have := (hn rfl).1; subst this; simp at lX
    | some ad => exact ⟨ad.block, by rw [← ha ad rfl]⟩
  have hg := (ox.lt g rfl).1
  have e3 := e1.trans e2
  have ox := ox.mono e1.size
  have hg : w.heap.size ≤ g := Nat.le_trans e1.size hg
  rw [lX] at ox
  obtain ⟨f, hf, hfl⟩ : ∃ f : Nat, (a : Int) % (8 * ((l.length : Int) + 4) - 31) = (f : Int) ∧ f + 32 ≤ 8 * (l.length + 4) := by
    have h1 : 8 * ((l.length : Int) + 4) - 31 = ((8 * l.length + 1 : Nat) : Int) := by omega
    have h2 := Nat.mod_lt a (show 8 * l.length + 1 > 0 by omega)
    refine ⟨a % (8 * l.length + 1), by rw [h1]; exact (Int.natCast_emod _ _).symm, by omega⟩
  clear e1 e2 hn ha
  go_wp2
  rw [hf]
  clear hf
  go_loopg [24] 32 (fun gk iv wr => ∃ k : Nat, k + gk = 32 ∧ iv = .int .i64 k ∧ ∃ L, Turned X L f m k ∧ Own wr w.heap.size (.slice (some ⟨g, 0, none⟩) (l.length + 4) c) L ∧ Ext w wr)
  case atStart => exact ⟨0, by omega, rfl, X, Turned.start X f m bX, ox, e3⟩
  case round =>
    obtain ⟨k, hk, rfl, L, hT, oL, e4⟩ := hrel
    clear ox e3
    have hLl : L.length = l.length + 4 := by rw [hT.1, lX]
    by_cases hk32 : k < 32
    · have hmb := mask_bit m k (by omega) hk32
      cases hbit : m.testBit (31 - k)
      · rw [hbit, if_neg (by simp)] at hmb
        go_wp2
        go_roundg (gk - 1)
        case measure => omega
        case rel => exact ⟨k + 1, by omega, rfl, L, hT.stay hk32 hbit, oL, e4⟩
      · rw [hbit, if_pos rfl] at hmb
        have hq : (f + k) / 8 < L.length := by omega
        have hy : L[(f + k) / 8]? = some (L.getD ((f + k) / 8) 0) := by simp [List.getD, hq]
        rw [← hLl] at oL
        have hcell := oL.cell _ _ hy
        obtain ⟨cur, B, hcur, c1, c2, c3, -⟩ := oL.blk
        have hyb := hT.2.1 _ (List.mem_of_getElem? hy)
        have hxo := xorI_u8 _ _ hyb (pow7_bd ((f + k) % 8))
        have hidx : ((f : Int) + (k : Int)) / 8 = (((f + k) / 8 : Nat) : Int) := by omega
        have hrem : ((f : Int) + (k : Int)) % 8 = (((f + k) % 8 : Nat) : Int) := by omega
        have hsh := shift7 ((f + k) % 8) (Nat.mod_lt _ (by omega))
        have hT' := hT.turn hk32 hbit (by rw [lX]; omega)
        have HT := Lib.hid hT'
        have HC := Lib.hid hcur
        have HX := Lib.hid hxo
        clear hT' hy hcur hT rX bX hxo
        generalize hyd : L.getD ((f + k) / 8) 0 = y at *
        clear hyd
        go_wp2
        clear hmb
        have hxo := HX.out
        have hqc : (f + k) / 8 < cur.size := by omega
        generalize (2 ^ (7 - (f + k) % 8) : Nat) = p7 at *
        generalize hQ : (f + k) / 8 = q at *
        have hr8 := Nat.mod_lt (f + k) (show 8 > 0 by omega)
        generalize (f + k) % 8 = r at *
        clear hQ
        apply wp_region_vars_early 6 [false, false, false, false, false, false, false, false, false, false, false, false, false, false, true] [g] [⟨none, 0, g, some 14, 5, cur, (cur.toList.set q (.int .u8 (xorI y p7))).toArray⟩] _ (by kernel_rfl) (by kernel_rfl) (by kernel_rfl) (by kernel_rfl) (by kernel_rfl)
        case H =>
          intro x' hx
          have hne : Nonempty (Wx x') := ⟨⟨x', Ext.refl x'⟩⟩
          have r0 := fun (y' : Wx x') => (hx.trans y'.ext).old hcell
          simp only [eraseM]
          repeat (go_big_quiet_step (fail))
          exact wpQuiet_nil rfl
        case hok =>
          simp only [List.forall_mem_cons, List.not_mem_nil, false_implies, implies_true, and_true]
          exact tgt_row (n := xorI y p7) (by simp) B rfl rfl rfl rfl rfl rfl hqc
        case hdis =>
          intro k k' t t' hk hk' hne _ _
          rcases k with _ | k <;> rcases k' with _ | k' <;> simp at hk hk' hne
        rintro w5 ff hw ⟨k0, l0, d0, -, -⟩
        have k0' : ff 0 = g := k0
        have B1 : Blk w5 g (cur.toList.set q (.int .u8 (xorI y p7))).toArray 5 := k0' ▸ d0
        have e5 := Ext.calm_trans e4 hw (by simp; omega)
        simp only [pairs, putAll, Option.isSome_none, Bool.false_eq_true, if_false]
        clear hw k0 k0' l0 d0 e4 B
        go_wp2
        go_roundg (gk - 1)
        case measure => omega
        case rel =>
          have oN := Own.mk (base := w.heap.size) B1 (L := L.set q (xorI y p7)) (by simpa using take_set_bytes HC.out q (xorI y p7)) (by simpa using c1) c2 (by simpa using c3) hg
          rw [List.length_set, hLl] at oN
          exact ⟨k + 1, by omega, rfl, _, HT.out, oN, e5⟩
    · obtain rfl : k = 32 := by omega
      have hR := hT.right bX (by omega) (by rw [lX]; omega) rX
      have aL := oL.arr hT.2.1
      clear hT bX rX oL
      go_wp2_with fail
      refine (right_any _ _ _ aL (by omega)).mono ?_
      rintro e w5 ⟨rfl, e5⟩
      rw [hR]
      by_cases hm : m = 0
      · subst hm
        go_wp2
        go_ret
        exact ⟨rfl, e4.trans e5⟩
      · have hm1 : decide (m = 0) = false := by simpa using hm
        have hm2 : ((m : Int) == 0) = false := by simp; omega
        rw [hm1]
        go_wp2
        go_ret
        exact ⟨rfl, e4.trans e5⟩
end Go.Proofs.Ytjghfknpgnecgaa
