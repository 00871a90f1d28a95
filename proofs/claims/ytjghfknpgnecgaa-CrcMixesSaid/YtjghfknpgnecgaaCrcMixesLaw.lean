/-
  DERIVED. THE WALK of CrcMixes.
-/
import Derived.Test.YtjghfknpgnecgaaCrcAid
namespace Go.Proofs.Ytjghfknpgnecgaa
open Go.RowKit
set_option linter.unusedVariables false

/-- the first i bytes mixed, noughts behind -/
def mixed (a m : List Int) (n i : Nat) : List Int := List.zipWith xorI (a.take i) (m.take i) ++ List.replicate (n - i) 0
theorem mixed_length (a m : List Int) (n i : Nat) (hi : i ≤ n) (ha : n ≤ a.length) (hm : n ≤ m.length) : (mixed a m n i).length = n := by
  simp [mixed]
  omega
theorem mixed_set (a m : List Int) (n i : Nat) (hi : i < n) (ha : n ≤ a.length) (hm : n ≤ m.length) (x y : Int) (hx : a[i]? = some x) (hy : m[i]? = some y) : (mixed a m n i).set i (xorI x y) = mixed a m n (i + 1) := by
  have hl : (List.zipWith xorI (a.take i) (m.take i)).length = i := by simp; omega
  unfold mixed
  rw [List.set_append_right _ _ (by omega), hl, Nat.sub_self, List.take_add_one, List.take_add_one, hx, hy, show n - i = (n - (i + 1)) + 1 by omega, List.replicate_succ, List.set_cons_zero]
  rw [show (some x).toList = [x] from rfl, show (some y).toList = [y] from rfl, List.zipWith_append (by simp; omega)]
  simp
theorem mixed_bd (a m : List Int) (n i : Nat) (ha : ∀ y ∈ a, 0 ≤ y ∧ y ≤ 255) (hm : ∀ y ∈ m, 0 ≤ y ∧ y ≤ 255) : ∀ y ∈ mixed a m n i, 0 ≤ y ∧ y ≤ 255 := by
  intro y hy
  rcases List.mem_append.1 hy with h | h
  · obtain ⟨j, hj, rfl⟩ := List.getElem_of_mem h
    rw [List.getElem_zipWith]
    exact xorI_bd _ _ (ha _ (List.mem_of_mem_take (List.getElem_mem ..))) (hm _ (List.mem_of_mem_take (List.getElem_mem ..)))
  · rw [List.eq_of_mem_replicate h]
    omega
theorem not_xor_not (a b : B32) : ~~~ a ^^^ ~~~ b = a ^^^ b := by
  apply BitVec.eq_of_getLsbD_eq
  intro i hi
  simp [hi]
theorem crc_mix (a m : List Int) (n : Nat) (ha : ∀ y ∈ a, 0 ≤ y ∧ y ≤ 255) (hm : ∀ y ∈ m, 0 ≤ y ∧ y ≤ 255) (hna : n ≤ a.length) (hnm : n ≤ m.length) :
    bits .xor .u32 (bN (crcSum (mixed a m n n))) (bN (crcSum (a.take n))) = bN (crcReg 0#32 (bitsB (m.take n))) := by
  rw [bN_xor, crcSum, crcSum, not_xor_not]
  congr 1
  have e : mixed a m n n = List.zipWith (fun x y => ((x.toNat ^^^ y.toNat : Nat) : Int)) (a.take n) (m.take n) := by
    unfold mixed
    rw [Nat.sub_self, List.replicate_zero, List.append_nil]
    rfl
  have el : (a.take n).length = (m.take n).length := by simp; omega
  unfold crcR
  rw [e, bitsB_xor _ _ (fun y h => ha y (List.mem_of_mem_take h)) (fun y h => hm y (List.mem_of_mem_take h)) el, crcReg_ones_xor _ _ (by rw [bitsB_length, bitsB_length, el])]
  generalize crcReg ones (bitsB (a.take n)) = r
  generalize crcReg 0#32 (bitsB (m.take n)) = t
  rw [show r ^^^ t ^^^ r = t ^^^ (r ^^^ r) by ac_rfl, BitVec.xor_self, BitVec.xor_zero]
theorem run_min4 (w : World) (ts : Array TypeId) (t : TypeId) (a b c d : Int) : (Builtin.min_ ts t #[.int .i64 a, .int .i64 b, .int .i64 c, .int .i64 d]).run Try.prog w = .ok (.int .i64 (minI (minI (minI a b) c) d)) w := by
  unfold minI
  simp [Builtin.min_, Builtin.min2]

set_option maxRecDepth 100000 in
theorem crcMixes_row {w : World} (v0 : Value) (xs0 : List Int) (v1 : Value) (xs1 : List Int) (v2 : Value) (xs2 : List Int) (h0 : Arr w .u8 v0 xs0) (h1 : Arr w .u8 v1 xs1) (h2 : Arr w .u8 v2 xs2) :
    Calls Try.prog 6 #[v0, v1, v2] w fun e w' => e = .returned (.bool true) ∧ Ext w w' := by
  have k0 := h0
  have k1 := h1
  have k2 := h2
  obtain ⟨⟨ao0, c0, rfl, p0, -, -⟩, m0, -⟩ := h0
  obtain ⟨⟨ao1, c1, rfl, p1, -, -⟩, m1, -⟩ := h1
  obtain ⟨⟨ao2, c2, rfl, p2, -, -⟩, m2, -⟩ := h2
  simp only [maxLen] at m0 m1 m2
  obtain ⟨n, hn, hn0, hn1, hn2, hn3⟩ : ∃ n : Nat, minI (minI (minI xs0.length xs1.length) xs2.length) 200 = (n : Int) ∧ n ≤ xs0.length ∧ n ≤ xs1.length ∧ n ≤ xs2.length ∧ n ≤ 200 := by
    refine ⟨min (min (min xs0.length xs1.length) xs2.length) 200, ?_, by omega, by omega, by omega, by omega⟩
    simp only [minI_eq]
    omega
  have hmn := fun w ts t => run_min4 w ts t xs0.length xs1.length xs2.length 200
  rw [hn] at hmn
  have hmk := make_bytes n n (Nat.le_refl _) (by omega)
  clear hn
  go_enter Try.func6, Try.ntmps6
  go_wp2_with fail
  refine (awake5_any _).mono ?_
  rintro e w1 ⟨rfl, e1⟩
  go_upto_region 4 with fail
  go_cut [8, 9] (fun x y wx => ∃ gx gy : Nat, x = .slice (some ⟨gx, 0, none⟩) n n ∧ y = .slice (some ⟨gy, 0, none⟩) n n ∧ gx ≠ gy ∧ w.heap.size ≤ gx ∧ w.heap.size ≤ gy ∧ Blk wx gx (bytesV (List.replicate n 0)).toArray 5 ∧ Blk wx gy (bytesV (List.replicate n 0)).toArray 5 ∧ Ext w wx)
  case first =>
    have z1 := e1.size
    have ez : madeCells #[.int .u8 0] n = (bytesV (List.replicate n 0)).toArray := by
      rw [← Array.toArray_toList (xs := madeCells _ _), toList_madeCells_one, bytesV, List.map_replicate]
    go_region
    all_goals
      go_wp2
      go_meet
      first
      | exact ⟨_, _, rfl, rfl, by omega, by omega, by omega, ((Blk.new _ _ _).alloc _).drew, (Blk.new' (by simp) _ _).drew, ((e1.alloc _ _).alloc _ _).drew⟩
      | exact ⟨_, _, rfl, rfl, by omega, by omega, by omega, (Blk.new' (by simp) _ _).drew, ((Blk.new _ _ _).alloc _).drew, ((e1.alloc _ _).alloc _ _).drew⟩
  obtain ⟨gx, gy, rfl, rfl, hxy, hgx, hgy, X0, Y0, e2⟩ := hcut
  clear hmk hmn e1
  go_wp2
  go_loopg [25] n (fun k iv wr => ∃ i : Nat, i + k = n ∧ iv = .int .i64 i ∧ Blk wr gx (bytesV (mixed xs0 xs2 n i)).toArray 5 ∧ Blk wr gy (bytesV (mixed xs1 xs2 n i)).toArray 5 ∧ Ext w wr)
  case atStart => exact ⟨0, by omega, rfl, by simpa [mixed] using X0, by simpa [mixed] using Y0, e2⟩
  case round =>
    obtain ⟨i, hik, rfl, X, Y, e3⟩ := hrel
    clear X0 Y0 e2
    by_cases hi : i < n
    · obtain ⟨b0, o0, y0, rfl, g0, d0, q0⟩ := k0.nth i (by omega)
      obtain ⟨b1, o1, y1, rfl, g1, d1, q1⟩ := k1.nth i (by omega)
      obtain ⟨b2, o2, y2, rfl, g2, d2, q2⟩ := k2.nth i (by omega)
      have x0 := xorI_u8 y0 y2 d0 d2
      have x1 := xorI_u8 y1 y2 d1 d2
      have lX := mixed_length xs0 xs2 n i (by omega) hn0 hn2
      have lY := mixed_length xs1 xs2 n i (by omega) hn1 hn2
      have sX := mixed_set xs0 xs2 n i hi hn0 hn2 y0 y2 g0 g2
      have sY := mixed_set xs1 xs2 n i hi hn1 hn2 y1 y2 g1 g2
      clear k0 k1 k2 g0 g1 g2
      go_wp2
      apply wp_region_vars [false, false, false, false, false, false, false, false, false, false, false, false, false, false, false, false, false, false, false, false, false, false, false, true, false, true] [gx, gy] [⟨none, 0, gx, some 23, 5, (bytesV (mixed xs0 xs2 n i)).toArray, (bytesV (mixed xs0 xs2 n (i + 1))).toArray⟩, ⟨none, 0, gy, some 25, 5, (bytesV (mixed xs1 xs2 n i)).toArray, (bytesV (mixed xs1 xs2 n (i + 1))).toArray⟩] _ (by kernel_rfl) (by kernel_rfl) (by kernel_rfl)
      case H =>
        intro x' hx
        have hne : Nonempty (Wx x') := ⟨⟨x', Ext.refl x'⟩⟩
        have ex : Ext w x' := Ext.calm_trans e3 hx (by simp; omega)
        have r0 := fun (y' : Wx x') => (ex.trans y'.ext).old q0
        have r1 := fun (y' : Wx x') => (ex.trans y'.ext).old q1
        have r2 := fun (y' : Wx x') => (ex.trans y'.ext).old q2
        simp only [eraseM]
        repeat (go_big_quiet_step (fail))
        exact wpQuiet_nil rfl
      case hok =>
        simp only [List.forall_mem_cons, List.not_mem_nil, false_implies, implies_true, and_true]
        exact ⟨tgt_byte (n := xorI y0 y2) (by simp) X rfl rfl rfl rfl rfl rfl (by omega) sX, tgt_byte (n := xorI y1 y2) (by simp) Y rfl rfl rfl rfl rfl rfl (by omega) sY⟩
      case hdis =>
        intro k k' t t' hk hk' hne _ _
        rcases k with _ | _ | k <;> rcases k' with _ | _ | k' <;> simp at hk hk' hne <;> (subst hk; subst hk'; simp; omega)
      rintro w4 f hw ⟨k0, l0, d0, -, k1, l1, d1, -, -⟩
      have k0' : f 0 = gx := k0
      have k1' : f 1 = gy := k1
      have X1 : Blk w4 gx (bytesV (mixed xs0 xs2 n (i + 1))).toArray 5 := k0' ▸ d0
      have Y1 : Blk w4 gy (bytesV (mixed xs1 xs2 n (i + 1))).toArray 5 := k1' ▸ d1
      have e4 := Ext.calm_trans e3 hw (by simp; omega)
      clear hw k0 k0' k1 k1' l0 l1 d0 d1 X Y e3
      simp only [pairs, putAll, Option.isSome_none, Bool.false_eq_true, if_false]
      go_wp2
      go_roundg (gk - 1)
      case measure => omega
      case rel => exact ⟨i + 1, by omega, rfl, X1, Y1, e4⟩
    · obtain rfl : i = n := by omega
      have bX := mixed_bd xs0 xs2 i i k0.bd k2.bd
      have bY := mixed_bd xs1 xs2 i i k1.bd k2.bd
      have AX := row_arr X bX (by rw [mixed_length _ _ _ _ (Nat.le_refl _) hn0 hn2]; omega)
      have AY := row_arr Y bY (by rw [mixed_length _ _ _ _ (Nat.le_refl _) hn1 hn2]; omega)
      rw [mixed_length _ _ _ _ (Nat.le_refl _) hn0 hn2] at AX
      rw [mixed_length _ _ _ _ (Nat.le_refl _) hn1 hn2] at AY
      have A0 := (k0.take i hn0).ext e3
      have A1 := (k1.take i hn1).ext e3
      have D0 := crc_mix xs0 xs2 i k0.bd k2.bd hn0 hn2
      have D1 := crc_mix xs1 xs2 i k1.bd k2.bd hn1 hn2
      clear bX bY X Y k0 k1 k2
      go_wp2
      apply wp_region_reads2 _ (by kernel_rfl) (by kernel_rfl)
      case H =>
        intro x hx
        have hne : Nonempty (Wx x) := ⟨⟨x, Ext.refl x⟩⟩
        have qX := fun (y : Wx x) => AX.ext (hx.trans y.ext)
        have qY := fun (y : Wx x) => AY.ext (hx.trans y.ext)
        have q0 := fun (y : Wx x) => A0.ext (hx.trans y.ext)
        have q1 := fun (y : Wx x) => A1.ext (hx.trans y.ext)
        try simp only [List.append_eq, List.cons_append, List.nil_append]
        repeat (go_big_quiet_step (first
          | (go_at_call 10; first | exact calm_eq (sum_any _ _ _ (qX _)) | exact calm_eq (sum_any _ _ _ (qY _)) | exact calm_eq (sum_any _ _ _ (q0 _)) | exact calm_eq (sum_any _ _ _ (q1 _)))))
        exact wpQuiet_nil rfl
      intro w5 hx5
      go_wp2
      go_ret
      exact ⟨rfl, e3.trans hx5⟩
end Go.Proofs.Ytjghfknpgnecgaa
