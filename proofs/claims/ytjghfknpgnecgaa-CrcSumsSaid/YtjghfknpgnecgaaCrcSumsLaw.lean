/-
  DERIVED. THE WALK of CrcSums.
-/
import Derived.Test.YtjghfknpgnecgaaCrcAnyLaw
namespace Go.Proofs.Ytjghfknpgnecgaa
open Go.RowKit
set_option linter.unusedVariables false

theorem xor_falses (l : List Bool) : List.zipWith (· ^^ ·) l (List.replicate l.length false) = l := by
  apply List.ext_getElem
  · simp
  · intro i h1 h2; simp
/-- one byte changed: wrong, unless it is as it was -/
theorem byte_right (X : List Int) (hX : ∀ y ∈ X, 0 ≤ y ∧ y ≤ 255) (h4 : 4 ≤ X.length) (hr : crcR X = crcIt 32 ones) (p : Nat) (hp : p < X.length) (d : Int) (hd : 0 ≤ d ∧ d ≤ 255) :
    rightB (X.set p (xorI (X.getD p 0) d)) = decide (d = 0) := by
  have hc : 0 ≤ X.getD p 0 ∧ X.getD p 0 ≤ 255 := by
    rw [List.getD, List.getElem?_eq_getElem hp]
    exact hX _ (List.getElem_mem ..)
  have hY : ∀ y ∈ X.set p (xorI (X.getD p 0) d), 0 ≤ y ∧ y ≤ 255 := by
    intro y hy
    rcases List.mem_or_eq_of_mem_set hy with h1 | h1
    · exact hX y h1
    · rw [h1]
      exact xorI_bd _ _ hc hd
  rw [rightB_eq _ hY (by rw [List.length_set]; exact h4)]
  congr 1
  apply propext
  have eX : X = X.take p ++ X.getD p 0 :: X.drop (p + 1) := by
    rw [List.getD, List.getElem?_eq_getElem hp]
    simp
  have eY : X.set p (xorI (X.getD p 0) d) = X.take p ++ xorI (X.getD p 0) d :: X.drop (p + 1) := by
    rw [List.set_eq_take_append_cons_drop, if_pos hp]
  have lA : (X.take p).length = p := by simp; omega
  have lB : (X.drop (p + 1)).length = X.length - (p + 1) := by simp
  generalize X.getD p 0 = c at *
  generalize X.take p = A at *
  generalize X.drop (p + 1) = B at *
  have bX : bitsB X = bitsB A ++ bitsOf 8 c.toNat ++ bitsB B := by rw [eX, bitsB_append, bitsB_cons, List.append_assoc]
  have bY : bitsB (X.set p (xorI c d)) = List.zipWith (· ^^ ·) (bitsB X) (List.replicate (8 * p) false ++ bitsOf 8 d.toNat ++ List.replicate (8 * (X.length - (p + 1))) false) := by
    rw [eY, bX, bitsB_append, bitsB_cons, List.zipWith_append (by simp [bitsB_length, bitsOf_length, lA]), List.zipWith_append (by simp [bitsB_length, lA])]
    have h1 := xor_falses (bitsB A)
    have h2 := xor_falses (bitsB B)
    rw [bitsB_length, lA] at h1
    rw [bitsB_length, lB] at h2
    rw [h1, h2, ← bitsOf_xor, List.append_assoc]
    rfl
  have kb := crc_burst (bitsB X) (8 * p) 8 d.toNat (8 * (X.length - (p + 1))) (by omega) (by omega) (by rw [bitsB_length]; omega)
  rw [← bY] at kb
  unfold crcR at hr ⊢
  rw [← hr, kb]
  omega
theorem str_append (l m : List Int) : strOfNums l ++ strOfNums m = strOfNums (l ++ m) := by
  apply ByteArray.ext
  simp [strOfNums]

theorem Arr.room {w : World} {k : IntKind} {ao : Option Addr} {n c : Nat} {l : List Int} (h : Arr w k (.slice ao n c) l) : n ≤ c := by
  obtain ⟨⟨ao', c', e, h1, h2, h3⟩, h4, h5⟩ := h
  cases e
  exact h1
set_option maxHeartbeats 4000000 in
set_option maxRecDepth 100000 in
theorem crcSums_row {w : World} (v0 : Value) (b : List Int) (at_ d : Int) (h0 : Arr w .u8 v0 b) (hat : 0 ≤ at_ ∧ at_ ≤ 65535) (hd : 0 ≤ d ∧ d ≤ 255) :
    Calls Try.prog 3 #[v0, .int .u16 at_, .int .u8 d] w fun e w' => e = .returned (.bool true) ∧ Ext w w' := by
  have k0 := h0
  have hb := h0.bd
  obtain ⟨⟨ao0, c0, rfl, p0, -, -⟩, -, -⟩ := h0
  obtain ⟨a, rfl⟩ : ∃ a : Nat, at_ = a := ⟨at_.toNat, by omega⟩
  have HB := Lib.hid hb
  clear hb
  by_cases hl : 200 < b.length
  · go_enter Try.func3, Try.ntmps3
    go_wp2_with fail
    refine (awake5_any _).mono ?_
    rintro e w1 ⟨rfl, e1⟩
    go_wp2
    go_ret
    exact ⟨rfl, e1⟩
  go_enter Try.func3, Try.ntmps3
  go_wp2_with fail
  refine (awake5_any _).mono ?_
  rintro e w1 ⟨rfl, e1⟩
  go_wp2_with fail
  refine (rsum_any _ _ b (k0.ext e1) (by omega)).mono ?_
  rintro e w2 ⟨rfl, e2⟩
  have e12 := e1.trans e2
  go_wp2_with fail
  refine (put_any _ _ _ (k0.ext e12) (by omega)).mono ?_
  rintro e w3 ⟨vx, rfl, ox, ex⟩
  have e3 := e12.trans ex
  have rX := put_reg b HB.out
  have tX := put_right b
  have bX := put_bd b HB.out
  have lX := put_length b (bN (crcSum b))
  have hs := bN_lt (crcSum b)
  have ox := ox.mono e12.size
  have hk3 := (k0.ext e3).str
  have f0 := four_arr w3 (bN (crcSum b) / 16777216) (bN (crcSum b) / 65536 % 256) (bN (crcSum b) / 256 % 256) (bN (crcSum b) % 256) (by omega) (by omega) (by omega) (by omega)
  have hk4 := f0.str
  have hk5 := ((k0.ext e3).ext ((Ext.refl w3).alloc #[.int .u8 (bN (crcSum b) / 16777216), .int .u8 (bN (crcSum b) / 65536 % 256), .int .u8 (bN (crcSum b) / 256 % 256), .int .u8 (bN (crcSum b) % 256)] 5)).str
  have hz1 := strOfNums_size b
  have hz2 : (strOfNums [bN (crcSum b) / 16777216, bN (crcSum b) / 65536 % 256, bN (crcSum b) / 256 % 256, bN (crcSum b) % 256]).size = 4 := strOfNums_size _
  have hsa : strOfNums b ++ strOfNums [bN (crcSum b) / 16777216, bN (crcSum b) / 65536 % 256, bN (crcSum b) / 256 % 256, bN (crcSum b) % 256] = strOfNums (b ++ sum4 (bN (crcSum b))) := str_append _ _
  generalize b ++ sum4 (bN (crcSum b)) = X at *
  generalize hS : bN (crcSum b) = s at *
  have HS := Lib.hid hS
  clear hS
  obtain ⟨ao, c, rfl, -, -⟩ := ox.slice
  have aX := ox.arr bX
  rw [lX] at ox aX ⊢
  generalize hF : (Obj.cells #[.int .u8 (s / 16777216), .int .u8 (s / 65536 % 256), .int .u8 (s / 256 % 256), .int .u8 (s % 256)] 5) = FF at *
  have e5 : Ext w ((w3.alloc FF).alloc (.cells #[] 5)) := by subst hF; exact (e3.alloc _ _).alloc _ _
  have x5 : Ext w3 ((w3.alloc FF).alloc (.cells #[] 5)) := by subst hF; exact ((Ext.refl w3).alloc _ _).alloc _ _
  have a5 := aX.ext x5
  have hO : Own ((w3.alloc FF).alloc (.cells #[] 5)) (w3.alloc FF).heap.size (.slice (some ⟨(w3.alloc FF).heap.size, 0, none⟩) 0 0) [] := World.ownsRow_made (w3.alloc FF) #[] 0 (Nat.le_refl _) (Nat.zero_le _) rfl
  rw [show (w3.alloc FF).heap.size = w3.heap.size + 1 by simp] at hO
  clear f0
  go_wp2_with (at_builtin; refine wpList_append_arr rfl _ _ rfl (w3.heap.size + 1) _ [] rfl hO _ X rfl a5 (by simp; omega) (by simp) ?_)
  intro vy w6 oy hc6 hk6
  have z3 := e3.size
  have e6 : Ext w w6 := Ext.calm_trans e5 hc6 (fun g hg => by
    have := Option.mem_toList.1 hg
    simp [Value.ownBlock] at this
    omega)
  have x6 : Ext w3 w6 := Ext.calm_trans x5 hc6 (fun g hg => by
    have := Option.mem_toList.1 hg
    simp [Value.ownBlock] at this
    omega)
  obtain ⟨aoy, cy, rfl, hny, hay⟩ := oy.slice
  obtain ⟨g, rfl⟩ : ∃ g, aoy = some ⟨g, 0, none⟩ := by
    cases aoy with
    | none => have := (hny rfl).1; subst this; simp at lX
    | some ad => exact ⟨ad.block, by rw [← hay ad rfl]⟩
  have hg3 := (oy.lt g rfl).1
  have hlX := lX.symm
  have HLX := Lib.hid lX
  rw [lX] at oy ⊢
  have a6 := a5
  clear hny hay hc6 hk6 hk3 hk4 hk5 hsa hz1 hz2 hO a5 hF e5 e1 e2 e12 ex lX
  obtain ⟨p, hp, hpl⟩ : ∃ p : Nat, (a : Int) % ((b.length : Int) + 4) = (p : Int) ∧ p < b.length + 4 := by
    refine ⟨a % (b.length + 4), ?_, Nat.mod_lt _ (by omega)⟩
    rw [show (b.length : Int) + 4 = ((b.length + 4 : Nat) : Int) by omega]
    exact (Int.natCast_emod _ _).symm
  have hy : X[p]? = some (X.getD p 0) := by simp [List.getD, show p < X.length by omega]
  have hcell := oy.at hlX hy
  have hfr := oy.thaw hlX p
  have hyb := bX _ (List.mem_of_getElem? hy)
  have hxo := xorI_u8 _ _ hyb hd
  have oz := oy.put hlX p (xorI (X.getD p 0) d)
  have ry := byte_right X bX (by omega) rX p (by omega) d hd
  have HO := Lib.hid oz
  have HR := Lib.hid ry
  clear hy oz ry oy hlX rX
  generalize X.getD p 0 = yp at *
  have hgw : w.heap.size ≤ g := by omega
  have e7 := e6.setCell (p := ⟨g, p, none⟩) hgw (.int .u8 (xorI yp d))
  have x7 := x6.setCell (p := ⟨g, p, none⟩) (show w3.heap.size ≤ g by omega) (.int .u8 (xorI yp d))
  have hY : ∀ y ∈ X.set p (xorI yp d), 0 ≤ y ∧ y ≤ 255 := by
    intro y hy
    rcases List.mem_or_eq_of_mem_set hy with h1 | h1
    · exact bX y h1
    · rw [h1]
      exact xorI_bd _ _ hyb hd
  have aY := HO.out.arr hY
  have a7 := aX.ext x7
  have hcX := a7.room
  have e78 : Ext w (w6.setCell ⟨g, p, none⟩ (.int .u8 (xorI yp d))) := e7
  clear HO hY x6 x7 aX a6 bX
  go_wp2_with fail
  generalize w6.setCell ⟨g, p, none⟩ (.int .u8 (xorI yp d)) = w7 at *
  have hk7 := a7.str
  refine (sum_any _ _ _ (k0.ext e7)).mono ?_
  rintro e w8 ⟨rfl, rfl⟩
  rw [HS.out]
  go_wp2_with fail
  refine (right_any _ _ _ a7 (by rw [HLX.out]; omega)).mono ?_
  rintro e w8 ⟨rfl, e8⟩
  rw [tX]
  go_wp2_with fail
  refine (right_any _ _ _ (aY.ext e8) (by rw [List.length_set, HLX.out]; omega)).mono ?_
  rintro e w9 ⟨rfl, e9⟩
  rw [HR.out]
  have t9 := (((HLX.out.symm ▸ a7 : Arr w7 .u8 (.slice ao X.length c) X).take 3 (by rw [HLX.out]; omega)).ext (e8.trans e9))
  have r9 : rightB (X.take 3) = false := by
    have : (X.take 3).length = 3 := by rw [List.length_take, HLX.out]; omega
    simp [rightB, this]
  have e10 := e7.trans (e8.trans e9)
  by_cases hd0 : d = 0
  · subst hd0
    go_wp2_with fail
    refine (right_any _ _ _ t9 (by simp; omega)).mono ?_
    rintro e w11 ⟨rfl, e11⟩
    rw [r9]
    go_wp2
    go_ret
    exact ⟨rfl, e10.trans e11⟩
  · have hd1 : decide (d = 0) = false := by simpa using hd0
    have hd2 : (d == 0) = false := by simpa using hd0
    rw [hd1]
    go_wp2_with fail
    refine (right_any _ _ _ t9 (by simp; omega)).mono ?_
    rintro e w11 ⟨rfl, e11⟩
    rw [r9]
    go_wp2
    go_ret
    exact ⟨rfl, e10.trans e11⟩
end Go.Proofs.Ytjghfknpgnecgaa
