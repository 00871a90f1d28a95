/-
  DERIVED. THE WALK of CrcAny.
-/
import Derived.Test.YtjghfknpgnecgaaCrcRef
namespace Go.Proofs.Ytjghfknpgnecgaa
open Go.RowKit
set_option linter.unusedVariables false

theorem strOfNums_inj {l m : List Int} (hl : ∀ y ∈ l, 0 ≤ y ∧ y ≤ 255) (hm : ∀ y ∈ m, 0 ≤ y ∧ y ≤ 255) (h : strOfNums l = strOfNums m) : l = m := by
  have h1 : l.map (fun n => UInt8.ofNat n.toNat) = m.map (fun n => UInt8.ofNat n.toNat) := by
    rw [← strOfNums_data, ← strOfNums_data, h]
  have h2 : ∀ x, 0 ≤ x ∧ x ≤ 255 → ((UInt8.ofNat x.toNat).toNat : Int) = x := fun x hx => by
    rw [UInt8.toNat_ofNat']
    omega
  have h3 : ∀ l : List Int, (∀ y ∈ l, 0 ≤ y ∧ y ≤ 255) → (l.map (fun n => UInt8.ofNat n.toNat)).map (fun u => (u.toNat : Int)) = l := fun l hl => by
    rw [List.map_map]
    conv => rhs; rw [← List.map_id l]
    exact List.map_congr_left fun y hy => h2 y (hl y hy)
  rw [← h3 l hl, ← h3 m hm, h1]
theorem str_eq (a b : ByteArray) : (a.toList == b.toList) = decide (a = b) := by
  rw [ByteArray.toList_eq, ByteArray.toList_eq]
  by_cases h : a = b
  · subst h
    simp
  · simp [h]
    intro k
    apply h
    cases a
    cases b
    congr 1
/-- four bytes are a sum's just if they are its number -/
theorem four_sum (l : List Int) (h4 : l.length = 4) (hb : ∀ y ∈ l, 0 ≤ y ∧ y ≤ 255) (s : Int) (hs : 0 ≤ s ∧ s < 4294967296) : (strOfNums l = strOfNums (sum4 s)) ↔ s = (beN l : Nat) := by
  constructor
  · intro h
    rw [strOfNums_inj hb (sum4_bd s hs) h, beN_sum4 s hs]
  · intro h
    obtain ⟨a, b, c, d, rfl⟩ := list_four h4
    have ha := hb a (by simp)
    have hb' := hb b (by simp)
    have hc := hb c (by simp)
    have hd := hb d (by simp)
    rw [beN_four] at h
    unfold be4 at h
    congr 1
    unfold sum4
    rw [show s / 16777216 = a by omega, show s / 65536 % 256 = b by omega, show s / 256 % 256 = c by omega, show s % 256 = d by omega]

set_option maxHeartbeats 4000000 in
set_option maxRecDepth 100000 in
theorem crcAny_row {w : World} (v0 : Value) (b : List Int) (h0 : Arr w .u8 v0 b) :
    Calls Try.prog 5 #[v0] w fun e w' => e = .returned (.bool true) ∧ Ext w w' := by
  have k0 := h0
  have hb := h0.bd
  obtain ⟨⟨ao0, c0, rfl, p0, q0, -⟩, -, -⟩ := h0
  have HB := Lib.hid hb
  clear hb
  by_cases hl : 200 < b.length
  · go_enter Try.func5, Try.ntmps5
    go_wp2_with fail
    refine (awake5_any _).mono ?_
    rintro e w1 ⟨rfl, e1⟩
    go_wp2
    go_ret
    exact ⟨rfl, e1⟩
  by_cases h4 : b.length < 4
  · have hr : rightB b = false := by simp [rightB]; omega
    have hd : decide ((4 : Int) ≤ b.length) = false := by simp; omega
    go_enter Try.func5, Try.ntmps5
    go_wp2_with fail
    refine (awake5_any _).mono ?_
    rintro e w1 ⟨rfl, e1⟩
    go_wp2_with fail
    refine (right_any _ _ _ (k0.ext e1) (by omega)).mono ?_
    rintro e w2 ⟨rfl, e2⟩
    rw [hr]
    go_wp2
    go_ret
    exact ⟨rfl, e1.trans e2⟩
  obtain ⟨g, off, rfl, -⟩ := q0 (by intro e; subst e; simp at h4)
  obtain ⟨n, hn⟩ : ∃ n, b.length = n + 4 := ⟨b.length - 4, by omega⟩
  have ht := k0.take n (by omega)
  have hp := k0.drop n (by omega)
  rw [show b.length - n = 4 by omega] at hp
  have hdl : (b.drop n).length = 4 := by rw [List.length_drop]; omega
  have hs := bN_lt (crcSum (b.take n))
  have hr : rightB b = decide (strOfNums (b.drop n) = strOfNums (sum4 (bN (crcSum (b.take n))))) := by
    unfold rightB
    rw [show decide (4 ≤ b.length) = true by simp; omega, Bool.true_and, show b.length - 4 = n by omega]
    congr 1
    exact propext (four_sum _ hdl (fun y hy => HB.out y (List.mem_of_mem_drop hy)) _ hs).symm
  have HR := Lib.hid hr
  have hd4 : 4 ≤ b.length := by omega
  clear hr hdl q0
  go_enter Try.func5, Try.ntmps5
  go_wp2_with fail
  refine (awake5_any _).mono ?_
  rintro e w1 ⟨rfl, e1⟩
  go_wp2_with fail
  refine (rsum_any _ _ (b.take n) (ht.ext e1) (by simp; omega)).mono ?_
  rintro e w2 ⟨rfl, e2⟩
  have e3 := e1.trans e2
  generalize hS : bN (crcSum (b.take n)) = s at *
  go_upto_region 9 with fail
  go_cut [3] (fun v wx => v = .bool (rightB b) ∧ Ext w wx)
  case first =>
    have hp2 := hp.ext e3
    have s0 := hp2.str
    have s1 := (hp2.ext (Ext.refl w2).drew).str
    have s2 := (hp2.ext ((Ext.refl w2).alloc #[.int .u8 (s / 16777216), .int .u8 (s / 65536 % 256), .int .u8 (s / 256 % 256), .int .u8 (s % 256)] 5)).str
    have s3 := (hp2.ext ((Ext.refl w2).alloc #[.int .u8 (s / 16777216), .int .u8 (s / 65536 % 256), .int .u8 (s / 256 % 256), .int .u8 (s % 256)] 5).drew).str
    have f0 := four_arr w2 (s / 16777216) (s / 65536 % 256) (s / 256 % 256) (s % 256) (by omega) (by omega) (by omega) (by omega)
    have f1 := f0.str
    have f2 := (f0.ext (Ext.refl _).drew).str
    clear hp hp2 f0 ht k0
    go_region
    all_goals
      go_wp2
      go_meet
      exact ⟨by rw [HR.out, str_eq]; rfl, (e3.alloc _ _).drew⟩
  obtain ⟨rfl, e4⟩ := hcut
  rw [hn] at k0
  clear HR
  go_wp2_with fail
  refine (right_any _ _ _ (k0.ext e4) (by omega)).mono ?_
  rintro e w5 ⟨rfl, e5⟩
  cases hrb : rightB b
  · go_wp2
    go_ret
    exact ⟨rfl, e4.trans e5⟩
  · go_wp2
    go_ret
    exact ⟨rfl, e4.trans e5⟩
end Go.Proofs.Ytjghfknpgnecgaa
