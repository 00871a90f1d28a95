/-
  DERIVED. THE WALKS of layer 4 (wire): the Reader's numbers, read.
-/
import Derived.Test.YtkdonkebnnjkkaaWireRdr2
namespace Go.Proofs.Ytkdonkebnnjkkaa
open Go.RowKit
set_option linter.unusedVariables false

theorem Own.cap {w : World} {base : Nat} {l : List Int} {ao : Option Addr} {n c : Nat} (h : Own w base (.slice ao n c) l) : n ≤ c ∧ c ≤ maxLen := by
  rcases h.2 with ⟨h1, _⟩ | ⟨g, cap, cur, e, a1, a2, a3, a4, a5, a6⟩
  · cases h1; exact ⟨Nat.le_refl _, Nat.zero_le _⟩
  · cases e; exact ⟨a3, a4⟩
/-- a part of a slice of the call's own -/
theorem Own.sub {w : World} {base : Nat} {l : List Int} {g c : Nat} (h : Own w base (.slice (some ⟨g, 0, none⟩) l.length c) l) (hb : ∀ y ∈ l, 0 ≤ y ∧ y ≤ 255) (k j : Nat) (hj : k + j ≤ l.length) : Arr w .u8 (.slice (some ⟨g, k, none⟩) j (c - k)) ((l.drop k).take j) := by
  have hlen : ((l.drop k).take j).length = j := by simp; omega
  have hcap := h.cap
  refine ⟨⟨_, c - k, by rw [hlen], by rw [hlen]; omega, fun _ => ⟨g, k, rfl, fun i hi => ?_⟩, fun h => by cases h⟩, by rw [hlen]; omega, fun n hn => wfu8 (hb n (List.mem_of_mem_drop (List.mem_of_mem_take hn)))⟩
  rw [hlen] at hi
  rw [h.cell (k + i) (l.getD (k + i) 0) (by
    have : k + i < l.length := by omega
    simp [this])]
  congr 2
  simp [List.getD, hi, List.getElem?_drop]
set_option maxRecDepth 100000 in
theorem rd_number (w : World) (base p : Nat) (l : List Int) (k : Nat) (F : List Nat) (h : Rdr w base p l k 0 F) (n j : Nat) (e : Int) (hrd : rdNum (l.drop k) = (n, j, e)) :
    Calls Try.prog 33 #[.pointer (some ⟨p, 0, none⟩)] w fun r w' => r = .returned (.int .u64 n) ∧ Rdr w' base p l (k + j) e F ∧ Step F F w w' := by
  have hmost := h.most
  have hby := h.bytes
  have HR := Lib.hid hrd
  clear hrd
  go_enter Try.func33, Try.ntmps33
  go_wp2_with fail
  refine (rd_at _ _ _ _ _ _ _ h).mono ?_
  rintro e w1 ⟨rfl, rfl⟩
  go_wp2
  go_loopg [] (l.length - k) (fun gk wr => ∃ i : Nat, i + gk = l.length - k ∧ Rdr wr base p l (k + i) 0 F ∧ (∀ y ∈ (l.drop k).take i, 128 ≤ y) ∧ Step F F w wr)
  case atStart => exact ⟨0, by omega, h, by simp, Step.refl _ _⟩
  case round =>
    obtain ⟨i, hik, hr, hbig, hs⟩ := hrel
    have HB := Lib.hid hbig
    clear hbig
    by_cases hi : k + i < l.length
    · obtain ⟨y, hy⟩ : ∃ y, l[k + i]? = some y := ⟨l[k + i], by simp [hi]⟩
      have hyb := hby y (List.mem_of_getElem? hy)
      go_wp2_with fail
      refine (rd_byte _ _ _ _ _ _ hr y hy).mono ?_
      rintro e1 w2 ⟨rfl, h2, s2⟩
      by_cases hy2 : 128 ≤ y
      · go_wp2
        go_roundg (gk - 1)
        case measure => omega
        case rel =>
          refine ⟨i + 1, by omega, h2, ?_, hs.trans s2⟩
          intro x hx
          rw [List.take_add_one, List.mem_append] at hx
          rcases hx with hx | hx
          · exact HB.out x hx
          · rw [List.getElem?_drop, hy] at hx
            simp at hx
            omega
      · go_wp2_with fail
        refine (rd_err _ _ _ _ _ _ _ h2).mono ?_
        rintro e2 w3 ⟨rfl, rfl⟩
        have hend : numEnd (l.drop k) = some (i + 1) := by
          rw [numEnd_skip i _ HB.out (by simp; omega), List.drop_drop]
          rw [List.drop_eq_getElem_cons hi]
          have : l[k + i] = y := by
            rw [List.getElem?_eq_getElem hi] at hy
            exact Option.some.inj hy
          rw [this]
          simp [numEnd, hy2]
          omega
        have hsh := numEnd_shape (fun x hx => hby x (List.mem_of_mem_drop hx)) hend
        have hr' := HR.out
        unfold rdNum at hr'
        rw [hend] at hr'
        dsimp only at hr'
        have h2' := h2
        obtain ⟨v, B, ho, hb, rfl, hne, hk⟩ := h2
        obtain ⟨ao, c', rfl, hnone, hadr⟩ := ho.slice
        obtain ⟨g, rfl⟩ : ∃ g, ao = some ⟨g, 0, none⟩ := by
          cases ao with
          | none => have := (hnone rfl).1; subst this; simp at hi
          | some a => exact ⟨a.block, by rw [← hadr a rfl]⟩
        clear hadr hnone
        have cB := B.cell
        have hcap := ho.cap
        have hlen : ((l.drop k).take (i + 1)).length = i + 1 := by simp; omega
        have hA : Arr w2 .u8 (.slice (some ⟨g, k, none⟩) (k + i + 1 - k) (c' - k)) ((l.drop k).take (i + 1)) := by
          rw [show k + i + 1 - k = i + 1 by omega]
          exact ho.sub hby k (i + 1) (by omega)
        have hl6 : ((l.drop k).take (i + 1)).length < 1000000 := by omega
        cases hbad : badB ((l.drop k).take (i + 1)) with
        | true =>
          rw [hbad] at hr'
          cases hr'
          go_wp2
          go_quiet ((go_at_call 40; exact quiet_eq (decoded_bad _ _ _ (hA.ext ((Ext.refl _).drewN _)) hsh hl6 hbad)))
          go_wp2_with fail
          refine (rd_fail _ _ _ _ _ _ 4 _ (h2'.qt ⟨_, rfl⟩)).mono ?_
          rintro e3 w3 ⟨rfl, h3, s3⟩
          rw [errOr_zero] at h3
          go_wp2
          go_ret
          exact ⟨rfl, h3, (hs.trans s2).trans ((Step.qt ⟨_, rfl⟩).trans s3)⟩
        | false =>
          rw [hbad] at hr'
          cases hr'
          go_wp2
          go_quiet ((go_at_call 40; exact quiet_eq (decoded_good _ _ _ (hA.ext ((Ext.refl _).drewN _)) hsh hl6 hbad)))
          go_wp2
          go_ret
          exact ⟨rfl, h2'.qt ⟨_, rfl⟩, (hs.trans s2).trans (Step.qt ⟨_, rfl⟩)⟩
    · have ek : k + i = l.length := by omega
      go_wp2_with fail
      refine (rd_byte_no _ _ _ _ _ _ _ hr (.inr ek)).mono ?_
      rintro e1 w2 ⟨rfl, h2, s2⟩
      rw [errOr_zero] at h2
      go_wp2_with fail
      refine (rd_err _ _ _ _ _ _ _ h2).mono ?_
      rintro e2 w3 ⟨rfl, rfl⟩
      have hend : numEnd (l.drop k) = none := by
        rw [numEnd_skip i _ HB.out (by simp; omega), List.drop_drop, List.drop_eq_nil_of_le (by omega)]
        rfl
      have hr' := HR.out
      unfold rdNum at hr'
      rw [hend] at hr'
      cases hr'
      go_wp2
      go_ret
      refine ⟨rfl, ?_, hs.trans s2⟩
      rw [List.length_drop, show k + (l.length - k) = k + i by omega]
      exact h2
end Go.Proofs.Ytkdonkebnnjkkaa
