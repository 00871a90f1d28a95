/-
  DERIVED. A region of the law IsaAny, walked apart (made by mkisaany.py).
-/
import Derived.Test.YtkdonkebnnjkkaaIsaAid
import Derived.Test.YtkdonkebnnjkkaaParts
import Derived.Deep.RegionWith
import Derived.Deep.RegionHeld3
import Derived.Deep.RegionHeldLaw
namespace Go.Proofs.Ytkdonkebnnjkkaa
open Go.RowKit
set_option linter.unusedVariables false

theorem Arr.upto {w : World} {k : IntKind} {ao : Option Addr} {n c : Nat} {l : List Int} (h : Arr w k (.slice ao n c) l) (j : Nat) (hj : j ≤ l.length) : Arr w k (.slice ao j c) (l.take j) := by
  obtain ⟨⟨ao', c', e, h1, h2, h3⟩, h4, h5⟩ := h
  cases e
  have hl : (l.take j).length = j := by simp; omega
  refine ⟨⟨ao, c, by rw [hl], by omega, fun hne => ?_, h3⟩, by omega, fun n hn => h5 n (List.mem_of_mem_take hn)⟩
  obtain ⟨b, off, rfl, hc⟩ := h2 (fun e => hne (by rw [e]; simp))
  refine ⟨b, off, rfl, fun i hi => ?_⟩
  rw [hc i (by omega)]
  have : i < j := by omega
  simp [List.getD, this]
set_option maxRecDepth 100000 in
set_option maxHeartbeats 4000000 in
theorem any_r17 (f0 f1 f3 f4 f5 f6 f7 f8 f13 f14 f15 f16 f17 f18 f19 f20 f21 f22 f23 f24 f25 f26 f27 f28 f29 f30 f31 f32 f33 f34 f35 f36 f37 f38 f39 f40 f41 f42 f43 f44 f45 f46 f47 f48 f49 f50 f51 f52 f53 f54 f55 f56 f57 f58 f59 f60 f61 f62 f63 f64 f65 f66 f67 f68 f69 : Value) (d : Bool) (bx ox nx cx pr pp br bp bw k : Nat) (vp : Value) (lx : List Int) (xs : List In) (Fr Fw : List Nat) (w : World) (hx : Arr w .u8 (.slice (some ⟨bx, ox, none⟩) nx cx) lx) (hr : Rdr w br pr lx k 0 Fr) (hp : OwnP w bp vp xs) (hok : ∀ x ∈ xs, x.ok) (hxl : xs.length ≤ 24) (hck : chk d xs = 0) (hP : Pen w bw pp (enc xs) Fw) (hk : lx.take k = enc xs) {Q : Exit → Act → World → Prop}
    (hQ : ∀ (c54 c55 c56 c57 c58 c59 c60 c61 c62 c63 c64 c65 c66 c67 : Value) (wx : World), Ext w wx → Q .normal ⟨(f0 :: f1 :: Value.bool d :: f3 :: f4 :: f5 :: f6 :: f7 :: f8 :: Value.slice (some ⟨bx, ox, none⟩) nx cx :: Value.pointer (some ⟨pr, 0, none⟩) :: vp :: Value.pointer (some ⟨pp, 0, none⟩) :: f13 :: f14 :: f15 :: f16 :: f17 :: f18 :: f19 :: f20 :: f21 :: f22 :: f23 :: f24 :: f25 :: f26 :: f27 :: f28 :: f29 :: f30 :: f31 :: f32 :: f33 :: f34 :: f35 :: f36 :: f37 :: f38 :: f39 :: f40 :: f41 :: f42 :: f43 :: f44 :: f45 :: f46 :: f47 :: f48 :: f49 :: f50 :: f51 :: f52 :: f53 :: c54 :: c55 :: c56 :: c57 :: c58 :: c59 :: c60 :: c61 :: c62 :: c63 :: c64 :: c65 :: c66 :: c67 :: Value.bool false :: f69 :: List.nil).toArray, []⟩ wx) : Code.wp Try.prog (regionOf Try.f4 17) Q ⟨(f0 :: f1 :: Value.bool d :: f3 :: f4 :: f5 :: f6 :: f7 :: f8 :: Value.slice (some ⟨bx, ox, none⟩) nx cx :: Value.pointer (some ⟨pr, 0, none⟩) :: vp :: Value.pointer (some ⟨pp, 0, none⟩) :: f13 :: f14 :: f15 :: f16 :: f17 :: f18 :: f19 :: f20 :: f21 :: f22 :: f23 :: f24 :: f25 :: f26 :: f27 :: f28 :: f29 :: f30 :: f31 :: f32 :: f33 :: f34 :: f35 :: f36 :: f37 :: f38 :: f39 :: f40 :: f41 :: f42 :: f43 :: f44 :: f45 :: f46 :: f47 :: f48 :: f49 :: f50 :: f51 :: f52 :: f53 :: f54 :: f55 :: f56 :: f57 :: f58 :: f59 :: f60 :: f61 :: f62 :: f63 :: f64 :: f65 :: f66 :: f67 :: f68 :: f69 :: List.nil).toArray, []⟩ w := by
  change Code.wp Try.prog (Code.region _ _ true) _ _ _
  refine wp_region_noPanic ?_
  have hmost := hr.most
  have hcap : k ≤ cx := by
    obtain ⟨⟨ao', c', e, h1, _⟩, _⟩ := hx
    cases e
    omega
  have hA := hx.upto k hmost.1
  rw [hk] at hA
  have hen : (enc xs).length < 1000 := by
    have h1 := encs_len hok
    have h2 := leb_len10 (n := xs.length) (by omega)
    simp only [enc, List.length_append]
    omega
  have hby := enc_bytes hok
  have HC := Lib.hid hck
  have HEN := Lib.hid hen
  have HBY := Lib.hid hby
  clear hck hen hk hby
  go_region_held (fun w' => Ext w w' ∧ (convert 28 9 (.slice (some ⟨bx, ox, none⟩) k cx)).run Try.prog w' = .ok (.string (strOfNums (enc xs))) w') (first | exact ⟨(Ext.refl w).drew, (hA.ext (Ext.refl w).drew).str⟩ | exact ⟨E4, (hA.ext E4).str⟩ | assumption)
    (first
      | (go_at_call 18; obtain ⟨E3, hC3⟩ : Ext w _ ∧ _ := (by assumption); refine (check_any d _ _ _ xs (hp.ext E3) hok (by omega)).mono ?_; rintro e w4 ⟨rfl, x4⟩; rw [HC.out]; have E4 := E3.trans x4)
      | (go_at_call 11; obtain ⟨E3, hC3⟩ : Ext w _ ∧ _ := (by assumption); refine (pen_bytes _ _ _ _ _ (hP.ext E3) HBY.out (Nat.lt_trans HEN.out (by decide))).mono ?_; rintro e w4 ⟨v4, rfl, o4, x4⟩; have E4 := E3.trans x4; have s4 := o4.str)
      | (go_at_call 19; obtain ⟨E3, hC3⟩ : Ext w _ ∧ _ := (by assumption); refine (rd_at _ _ _ _ _ _ _ (hr.ext E3)).mono ?_; rintro e w4 ⟨rfl, rfl⟩))
  all_goals exact NoPanic.normal (hQ _ _ _ _ _ _ _ _ _ _ _ _ _ _ _ (by assumption))
end Go.Proofs.Ytkdonkebnnjkkaa
