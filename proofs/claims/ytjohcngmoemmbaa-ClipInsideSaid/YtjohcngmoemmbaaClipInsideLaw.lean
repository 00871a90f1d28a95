/-
  DERIVED. ClipInside (made by mkcliplaws.py).
-/
import Derived.Test.YtjohcngmoemmbaaClipInsideWalk
namespace Go.Proofs.Ytjohcngmoemmbaa
open Go.RowKit
set_option linter.unusedVariables false
theorem limP (a b c d : Int) : (⟨a, b, c, d, 0, 0, 0, 0⟩ : V8).lim = ⟨lim4 a, lim4 b, lim4 c, lim4 d, 0, 0, 0, 0⟩ := by
  have h : lim4 0 = 0 := by decide
  simp only [V8.lim, h]
theorem insZ_zero {v : V8} {k : Int} (h : k < 0 ∨ 6 < k) : insZ v k = 0 := by
  unfold insZ
  split
  · obtain ⟨j, hj⟩ : ∃ j : Nat, k = j + 7 := ⟨(k - 7).toNat, by omega⟩
    have : k.toNat = j + 7 := by omega
    rw [this]
    rfl
  · rfl
theorem plain_in64 {a b c d : Int} (ha : I64 a) (hb : I64 b) (hc : I64 c) (hd : I64 d) : (⟨a, b, c, d, 0, 0, 0, 0⟩ : V8).in64 :=
  by
  have h0 : I64 0 := by unfold I64; decide
  exact ⟨ha, hb, hc, hd, h0, h0, h0, h0⟩
theorem linA {a b c d : Int} (ha : I64 a) (hb : I64 b) (hc : I64 c) (hd : I64 d) (k : Nat) (u : World) : Calls Try.prog 15 #[.agg #[.int .i64 a, .int .i64 b, .int .i64 c, .int .i64 d, .int .i64 0, .int .i64 0, .int .i64 0, .int .i64 0], .int .i64 (k : Int)] u fun e w' => e = .returned (.int .i64 (insF ⟨lim4 a, lim4 b, lim4 c, lim4 d, 0, 0, 0, 0⟩ k)) ∧ Ext u w' := by
  have := insideN_any ⟨a, b, c, d, 0, 0, 0, 0⟩ (plain_in64 ha hb hc hd) k u
  rw [limP] at this
  exact this
theorem linB {a b c d : Int} (k : Nat) (hk : k < 7) (u : World) : Calls Try.prog 16 #[.agg #[.int .i64 (lim4 a), .int .i64 (lim4 b), .int .i64 (lim4 c), .int .i64 (lim4 d), .int .i64 0, .int .i64 0, .int .i64 0, .int .i64 0], .int .i64 (k : Int)] u fun e w' => e = .returned (.int .i64 (insF ⟨lim4 a, lim4 b, lim4 c, lim4 d, 0, 0, 0, 0⟩ k)) ∧ Ext u w' :=
  rinside_any ⟨lim4 a, lim4 b, lim4 c, lim4 d, 0, 0, 0, 0⟩ k hk ⟨lim4_bd a, lim4_bd b, lim4_bd c, lim4_bd d⟩ u
theorem linZ {a b c d k : Int} (ha : I64 a) (hb : I64 b) (hc : I64 c) (hd : I64 d) (hk : k < 0 ∨ 6 < k) (u : World) : Calls Try.prog 15 #[.agg #[.int .i64 a, .int .i64 b, .int .i64 c, .int .i64 d, .int .i64 0, .int .i64 0, .int .i64 0, .int .i64 0], .int .i64 k] u fun e w' => e = .returned (.int .i64 0) ∧ Ext u w' := by
  have := inside_any ⟨a, b, c, d, 0, 0, 0, 0⟩ (plain_in64 ha hb hc hd) k u
  rw [insZ_zero hk] at this
  exact this
theorem clipInside_row (vx : VSm) (r0 r1 r2 r3 pl : Int) (hx : vx.ok) (b0 : -9223372036854775808 ≤ r0 ∧ r0 ≤ 9223372036854775807) (b1 : -9223372036854775808 ≤ r1 ∧ r1 ≤ 9223372036854775807) (b2 : -9223372036854775808 ≤ r2 ∧ r2 ≤ 9223372036854775807) (b3 : -9223372036854775808 ≤ r3 ∧ r3 ≤ 9223372036854775807) (hp : -9223372036854775808 ≤ pl ∧ pl ≤ 9223372036854775807) (w : World) :
    Calls Try.prog 4 #[.agg vx.l.toArray, .agg #[.int .i64 r0, .int .i64 r1, .int .i64 r2, .int .i64 r3], .int .i64 pl] w fun e w' => e = .returned (.bool true) ∧ Ext w w' := by
  obtain ⟨a0, a1, a2, a3, -, -, -, -⟩ := (vx_fine hx).in64
  by_cases h1 : pl < 0
  · exact linside_0 vx.x vx.y vx.z vx.w vx.r vx.g vx.b vx.a vx.far (vxF vx).p0 (vxF vx).p1 (vxF vx).p2 (vxF vx).p3 (vxF vx).c0 (vxF vx).c1 (vxF vx).c2 (vxF vx).c3 r0 r1 r2 r3 _ _ _ _ _ _ _ _ pl _ _ (fun u => vertex11_any vx hx u) (fun u => vwithin_lim _ _ _ _ a0 a1 a2 a3 u) (fun k u _ => linA a0 a1 a2 a3 k u) (fun k u hk => linB k hk u) (fun hk u => linZ a0 a1 a2 a3 hk u) (fun u => vwithin_lim _ _ _ _ b0 b1 b2 b3 u) (fun k u _ => linA b0 b1 b2 b3 k u) (fun k u hk => linB k hk u) (fun hk u => linZ b0 b1 b2 b3 hk u) h1 w
  · by_cases h2 : 6 < pl
    · exact linside_1 vx.x vx.y vx.z vx.w vx.r vx.g vx.b vx.a vx.far (vxF vx).p0 (vxF vx).p1 (vxF vx).p2 (vxF vx).p3 (vxF vx).c0 (vxF vx).c1 (vxF vx).c2 (vxF vx).c3 r0 r1 r2 r3 _ _ _ _ _ _ _ _ pl _ _ (fun u => vertex11_any vx hx u) (fun u => vwithin_lim _ _ _ _ a0 a1 a2 a3 u) (fun k u _ => linA a0 a1 a2 a3 k u) (fun k u hk => linB k hk u) (fun hk u => linZ a0 a1 a2 a3 hk u) (fun u => vwithin_lim _ _ _ _ b0 b1 b2 b3 u) (fun k u _ => linA b0 b1 b2 b3 k u) (fun k u hk => linB k hk u) (fun hk u => linZ b0 b1 b2 b3 hk u) h1 h2 w
    · exact linside_2 vx.x vx.y vx.z vx.w vx.r vx.g vx.b vx.a vx.far (vxF vx).p0 (vxF vx).p1 (vxF vx).p2 (vxF vx).p3 (vxF vx).c0 (vxF vx).c1 (vxF vx).c2 (vxF vx).c3 r0 r1 r2 r3 _ _ _ _ _ _ _ _ pl _ _ (fun u => vertex11_any vx hx u) (fun u => vwithin_lim _ _ _ _ a0 a1 a2 a3 u) (fun k u _ => linA a0 a1 a2 a3 k u) (fun k u hk => linB k hk u) (fun hk u => linZ a0 a1 a2 a3 hk u) (fun u => vwithin_lim _ _ _ _ b0 b1 b2 b3 u) (fun k u _ => linA b0 b1 b2 b3 k u) (fun k u hk => linB k hk u) (fun hk u => linZ b0 b1 b2 b3 hk u) h1 h2 w
end Go.Proofs.Ytjohcngmoemmbaa
