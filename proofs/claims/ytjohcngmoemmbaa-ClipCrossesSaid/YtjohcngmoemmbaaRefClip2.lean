/-
  DERIVED. ref12's cross (made by mkrefclip.py).
-/
import Derived.Test.YtjohcngmoemmbaaRefClip1
namespace Go.Proofs.Ytjohcngmoemmbaa
open Go.RowKit
set_option linter.unusedVariables false
set_option maxRecDepth 100000 in
set_option maxHeartbeats 4000000 in
theorem rcross_main (v0 v1 v2 v3 v4 v5 v6 v7 u0 u1 u2 u3 u4 u5 u6 u7 a b : Int) (hv0 : -4194304 ≤ v0 ∧ v0 ≤ 4194304) (hv1 : -4194304 ≤ v1 ∧ v1 ≤ 4194304) (hv2 : -4194304 ≤ v2 ∧ v2 ≤ 4194304) (hv3 : -4194304 ≤ v3 ∧ v3 ≤ 4194304) (hv4 : -4194304 ≤ v4 ∧ v4 ≤ 4194304) (hv5 : -4194304 ≤ v5 ∧ v5 ≤ 4194304) (hv6 : -4194304 ≤ v6 ∧ v6 ≤ 4194304) (hv7 : -4194304 ≤ v7 ∧ v7 ≤ 4194304) (hu0 : -4194304 ≤ u0 ∧ u0 ≤ 4194304) (hu1 : -4194304 ≤ u1 ∧ u1 ≤ 4194304) (hu2 : -4194304 ≤ u2 ∧ u2 ≤ 4194304) (hu3 : -4194304 ≤ u3 ∧ u3 ≤ 4194304) (hu4 : -4194304 ≤ u4 ∧ u4 ≤ 4194304) (hu5 : -4194304 ≤ u5 ∧ u5 ≤ 4194304) (hu6 : -4194304 ≤ u6 ∧ u6 ≤ 4194304) (hu7 : -4194304 ≤ u7 ∧ u7 ≤ 4194304) (ha : 0 ≤ a ∧ a ≤ 37748736) (hb : -37748736 ≤ b ∧ b < 0) (k : Int) (w : World) (hA : ∀ u, Calls Try.prog 16 #[.agg #[.int .i64 v0, .int .i64 v1, .int .i64 v2, .int .i64 v3, .int .i64 v4, .int .i64 v5, .int .i64 v6, .int .i64 v7], .int .i64 k] u fun e w' => e = .returned (.int .i64 a) ∧ Ext u w') (hB : ∀ u, Calls Try.prog 16 #[.agg #[.int .i64 u0, .int .i64 u1, .int .i64 u2, .int .i64 u3, .int .i64 u4, .int .i64 u5, .int .i64 u6, .int .i64 u7], .int .i64 k] u fun e w' => e = .returned (.int .i64 b) ∧ Ext u w') : Calls Try.prog 19 #[.agg #[.int .i64 v0, .int .i64 v1, .int .i64 v2, .int .i64 v3, .int .i64 v4, .int .i64 v5, .int .i64 v6, .int .i64 v7], .agg #[.int .i64 u0, .int .i64 u1, .int .i64 u2, .int .i64 u3, .int .i64 u4, .int .i64 u5, .int .i64 u6, .int .i64 u7], .int .i64 k] w fun e w' => e = .returned (.agg #[.int .i64 (mixF v0 u0 a (a - b)), .int .i64 (mixF v1 u1 a (a - b)), .int .i64 (mixF v2 u2 a (a - b)), .int .i64 (mixF v3 u3 a (a - b)), .int .i64 (mixF v4 u4 a (a - b)), .int .i64 (mixF v5 u5 a (a - b)), .int .i64 (mixF v6 u6 a (a - b)), .int .i64 (mixF v7 u7 a (a - b))]) ∧ Ext w w' := by
  have HA := Lib.hid hA
  have HB := Lib.hid hB
  clear hA hB
  have x1 : Ext w (((w.alloc (.cells #[.int .i64 v0, .int .i64 v1, .int .i64 v2, .int .i64 v3, .int .i64 v4, .int .i64 v5, .int .i64 v6, .int .i64 v7] 38)).alloc (.cells #[.int .i64 u0, .int .i64 u1, .int .i64 u2, .int .i64 u3, .int .i64 u4, .int .i64 u5, .int .i64 u6, .int .i64 u7] 38)).alloc (.cells #[.int .i64 0, .int .i64 0, .int .i64 0, .int .i64 0, .int .i64 0, .int .i64 0, .int .i64 0, .int .i64 0] 38)) := (((Ext.refl w).alloc _ _).alloc _ _).alloc _ _
  have B3 := ((Blk.new w #[.int .i64 v0, .int .i64 v1, .int .i64 v2, .int .i64 v3, .int .i64 v4, .int .i64 v5, .int .i64 v6, .int .i64 v7] 38).alloc (.cells #[.int .i64 u0, .int .i64 u1, .int .i64 u2, .int .i64 u3, .int .i64 u4, .int .i64 u5, .int .i64 u6, .int .i64 u7] 38)).alloc (.cells #[.int .i64 0, .int .i64 0, .int .i64 0, .int .i64 0, .int .i64 0, .int .i64 0, .int .i64 0, .int .i64 0] 38)
  have B4 := (Blk.new (w.alloc (.cells #[.int .i64 v0, .int .i64 v1, .int .i64 v2, .int .i64 v3, .int .i64 v4, .int .i64 v5, .int .i64 v6, .int .i64 v7] 38)) #[.int .i64 u0, .int .i64 u1, .int .i64 u2, .int .i64 u3, .int .i64 u4, .int .i64 u5, .int .i64 u6, .int .i64 u7] 38).alloc (.cells #[.int .i64 0, .int .i64 0, .int .i64 0, .int .i64 0, .int .i64 0, .int .i64 0, .int .i64 0, .int .i64 0] 38)
  have B6 := Blk.new ((w.alloc (.cells #[.int .i64 v0, .int .i64 v1, .int .i64 v2, .int .i64 v3, .int .i64 v4, .int .i64 v5, .int .i64 v6, .int .i64 v7] 38)).alloc (.cells #[.int .i64 u0, .int .i64 u1, .int .i64 u2, .int .i64 u3, .int .i64 u4, .int .i64 u5, .int .i64 u6, .int .i64 u7] 38)) #[.int .i64 0, .int .i64 0, .int .i64 0, .int .i64 0, .int .i64 0, .int .i64 0, .int .i64 0, .int .i64 0] 38
  go_enter Try.func19, Try.ntmps19
  go_upto_region 1 with fail
  simp only [World.size_alloc] at B4 B6
  generalize ((w.alloc (.cells #[.int .i64 v0, .int .i64 v1, .int .i64 v2, .int .i64 v3, .int .i64 v4, .int .i64 v5, .int .i64 v6, .int .i64 v7] 38)).alloc (.cells #[.int .i64 u0, .int .i64 u1, .int .i64 u2, .int .i64 u3, .int .i64 u4, .int .i64 u5, .int .i64 u6, .int .i64 u7] 38)).alloc (.cells #[.int .i64 0, .int .i64 0, .int .i64 0, .int .i64 0, .int .i64 0, .int .i64 0, .int .i64 0, .int .i64 0] 38) = w1 at *
  have cB3 := B3.cell
  have cB4 := B4.cell
  apply wp_region_reads2 _ (by kernel_rfl) (by kernel_rfl)
  case H =>
    intro y0 hy0
    have hne : Nonempty (Wx y0) := ⟨⟨y0, Ext.refl y0⟩⟩
    have q3 := fun (t : Wx y0) => (B3.ext (hy0.trans t.ext)).cell
    have q4 := fun (t : Wx y0) => (B4.ext (hy0.trans t.ext)).cell
    repeat (go_big_quiet_step (first | (go_at_call 16; with_reducible exact calm_of (HA.out _)) | (go_at_call 16; with_reducible exact calm_of (HB.out _))))
    exact wpQuiet_nil rfl
  intro w2 x2
  have B3 := B3.ext x2
  have B4 := B4.ext x2
  have B6 := B6.ext x2
  have x12 := x1.trans x2
  clear x1 x2 HA HB cB3 cB4
  have cB3 := B3.cell
  go_upto_region 3 with fail
  have B9 := Blk.new w2 #[.int .i64 v0, .int .i64 v1, .int .i64 v2, .int .i64 v3, .int .i64 v4, .int .i64 v5, .int .i64 v6, .int .i64 v7] 38
  have hs := B6.lt
  have y3 : Ext w2 (w2.alloc (.cells #[.int .i64 v0, .int .i64 v1, .int .i64 v2, .int .i64 v3, .int .i64 v4, .int .i64 v5, .int .i64 v6, .int .i64 v7] 38)) := (Ext.refl w2).alloc _ _
  have B3 := B3.ext y3
  have B4 := B4.ext y3
  have B6 := B6.ext y3
  have x13 := x12.trans y3
  generalize w2.alloc (.cells #[.int .i64 v0, .int .i64 v1, .int .i64 v2, .int .i64 v3, .int .i64 v4, .int .i64 v5, .int .i64 v6, .int .i64 v7] 38) = w3 at *
  generalize w2.heap.size = b9 at *
  clear y3 x12 cB3
  go_wp2_with fail
  refine wp_loop_rounds 5 ?_
  rw [rounds_succ]
  go_upto_region 6 with fail
  refine rcross_r6 _ _ _ _ _ _ _ _ _ _ _ _ _ _ _ _ _ _ _ _ _ _ _ _ _ _ _ _ _ _ _ _ _ _ _ _ _ _ _ _ _ _ _ _ _ _ _ _ _ _ _ _ _ _ _ _ _ _ _ _ _ _ _ w.heap.size (w.heap.size + 1) b9 0 v0 u0 a b #[.int .i64 v0, .int .i64 v1, .int .i64 v2, .int .i64 v3, .int .i64 v4, .int .i64 v5, .int .i64 v6, .int .i64 v7] #[.int .i64 u0, .int .i64 u1, .int .i64 u2, .int .i64 u3, .int .i64 u4, .int .i64 u5, .int .i64 u6, .int .i64 u7] #[.int .i64 v0, .int .i64 v1, .int .i64 v2, .int .i64 v3, .int .i64 v4, .int .i64 v5, .int .i64 v6, .int .i64 v7] _ B3 B4 B9 (by omega) rfl rfl _ rfl hv0 hu0 ha hb ?_
  intro d22 d23 d24 d25 d26 d27 d28 d29 d30 d31 d32 d33 d34 d35 d36 d37 d38 d39 d40 d41 d42 d43 d44 w6_0 cx B9'
  have B9 : Blk w6_0 b9 #[.int .i64 (mixF v0 u0 a (a - b)), .int .i64 v1, .int .i64 v2, .int .i64 v3, .int .i64 v4, .int .i64 v5, .int .i64 v6, .int .i64 v7] 38 := by simpa using B9'
  have B3 := B3.calm cx (by simp; omega)
  have B4 := B4.calm cx (by simp; omega)
  have B6 := B6.calm cx (by simp; omega)
  have x13 := Ext.calm_trans x13 cx (by simp; omega)
  clear B9' cx
  go_upto_region 7 with fail
  refine rcross_r7 _ _ _ _ _ _ _ _ _ _ _ _ _ _ _ _ _ _ _ _ _ _ _ _ _ _ _ _ _ _ _ _ _ _ _ _ _ _ _ _ _ _ _ _ _ _ _ _ _ _ _ _ _ _ _ _ _ _ _ _ _ _ _ w.heap.size (w.heap.size + 1) b9 0 v4 u4 a b #[.int .i64 v0, .int .i64 v1, .int .i64 v2, .int .i64 v3, .int .i64 v4, .int .i64 v5, .int .i64 v6, .int .i64 v7] #[.int .i64 u0, .int .i64 u1, .int .i64 u2, .int .i64 u3, .int .i64 u4, .int .i64 u5, .int .i64 u6, .int .i64 u7] #[.int .i64 (mixF v0 u0 a (a - b)), .int .i64 v1, .int .i64 v2, .int .i64 v3, .int .i64 v4, .int .i64 v5, .int .i64 v6, .int .i64 v7] _ B3 B4 B9 (by omega) rfl rfl _ rfl hv4 hu4 ha hb ?_
  intro d45 d46 d47 d48 d49 d50 d51 d52 d53 d54 d55 d56 d57 d58 d59 d60 d61 d62 d63 d64 d65 d66 d67 w7_0 cx B9'
  have B9 : Blk w7_0 b9 #[.int .i64 (mixF v0 u0 a (a - b)), .int .i64 v1, .int .i64 v2, .int .i64 v3, .int .i64 (mixF v4 u4 a (a - b)), .int .i64 v5, .int .i64 v6, .int .i64 v7] 38 := by simpa using B9'
  have B3 := B3.calm cx (by simp; omega)
  have B4 := B4.calm cx (by simp; omega)
  have B6 := B6.calm cx (by simp; omega)
  have x13 := Ext.calm_trans x13 cx (by simp; omega)
  clear B9' cx
  go_wp2_with fail
  rw [rounds_succ]
  go_upto_region 6 with fail
  refine rcross_r6 _ _ _ _ _ _ _ _ _ _ _ _ _ _ _ _ _ _ _ _ _ _ _ _ _ _ _ _ _ _ _ _ _ _ _ _ _ _ _ _ _ _ _ _ _ _ _ _ _ _ _ _ _ _ _ _ _ _ _ _ _ _ _ w.heap.size (w.heap.size + 1) b9 1 v1 u1 a b #[.int .i64 v0, .int .i64 v1, .int .i64 v2, .int .i64 v3, .int .i64 v4, .int .i64 v5, .int .i64 v6, .int .i64 v7] #[.int .i64 u0, .int .i64 u1, .int .i64 u2, .int .i64 u3, .int .i64 u4, .int .i64 u5, .int .i64 u6, .int .i64 u7] #[.int .i64 (mixF v0 u0 a (a - b)), .int .i64 v1, .int .i64 v2, .int .i64 v3, .int .i64 (mixF v4 u4 a (a - b)), .int .i64 v5, .int .i64 v6, .int .i64 v7] _ B3 B4 B9 (by omega) rfl rfl _ rfl hv1 hu1 ha hb ?_
  intro d22 d23 d24 d25 d26 d27 d28 d29 d30 d31 d32 d33 d34 d35 d36 d37 d38 d39 d40 d41 d42 d43 d44 w6_1 cx B9'
  have B9 : Blk w6_1 b9 #[.int .i64 (mixF v0 u0 a (a - b)), .int .i64 (mixF v1 u1 a (a - b)), .int .i64 v2, .int .i64 v3, .int .i64 (mixF v4 u4 a (a - b)), .int .i64 v5, .int .i64 v6, .int .i64 v7] 38 := by simpa using B9'
  have B3 := B3.calm cx (by simp; omega)
  have B4 := B4.calm cx (by simp; omega)
  have B6 := B6.calm cx (by simp; omega)
  have x13 := Ext.calm_trans x13 cx (by simp; omega)
  clear B9' cx
  go_upto_region 7 with fail
  refine rcross_r7 _ _ _ _ _ _ _ _ _ _ _ _ _ _ _ _ _ _ _ _ _ _ _ _ _ _ _ _ _ _ _ _ _ _ _ _ _ _ _ _ _ _ _ _ _ _ _ _ _ _ _ _ _ _ _ _ _ _ _ _ _ _ _ w.heap.size (w.heap.size + 1) b9 1 v5 u5 a b #[.int .i64 v0, .int .i64 v1, .int .i64 v2, .int .i64 v3, .int .i64 v4, .int .i64 v5, .int .i64 v6, .int .i64 v7] #[.int .i64 u0, .int .i64 u1, .int .i64 u2, .int .i64 u3, .int .i64 u4, .int .i64 u5, .int .i64 u6, .int .i64 u7] #[.int .i64 (mixF v0 u0 a (a - b)), .int .i64 (mixF v1 u1 a (a - b)), .int .i64 v2, .int .i64 v3, .int .i64 (mixF v4 u4 a (a - b)), .int .i64 v5, .int .i64 v6, .int .i64 v7] _ B3 B4 B9 (by omega) rfl rfl _ rfl hv5 hu5 ha hb ?_
  intro d45 d46 d47 d48 d49 d50 d51 d52 d53 d54 d55 d56 d57 d58 d59 d60 d61 d62 d63 d64 d65 d66 d67 w7_1 cx B9'
  have B9 : Blk w7_1 b9 #[.int .i64 (mixF v0 u0 a (a - b)), .int .i64 (mixF v1 u1 a (a - b)), .int .i64 v2, .int .i64 v3, .int .i64 (mixF v4 u4 a (a - b)), .int .i64 (mixF v5 u5 a (a - b)), .int .i64 v6, .int .i64 v7] 38 := by simpa using B9'
  have B3 := B3.calm cx (by simp; omega)
  have B4 := B4.calm cx (by simp; omega)
  have B6 := B6.calm cx (by simp; omega)
  have x13 := Ext.calm_trans x13 cx (by simp; omega)
  clear B9' cx
  go_wp2_with fail
  rw [rounds_succ]
  go_upto_region 6 with fail
  refine rcross_r6 _ _ _ _ _ _ _ _ _ _ _ _ _ _ _ _ _ _ _ _ _ _ _ _ _ _ _ _ _ _ _ _ _ _ _ _ _ _ _ _ _ _ _ _ _ _ _ _ _ _ _ _ _ _ _ _ _ _ _ _ _ _ _ w.heap.size (w.heap.size + 1) b9 2 v2 u2 a b #[.int .i64 v0, .int .i64 v1, .int .i64 v2, .int .i64 v3, .int .i64 v4, .int .i64 v5, .int .i64 v6, .int .i64 v7] #[.int .i64 u0, .int .i64 u1, .int .i64 u2, .int .i64 u3, .int .i64 u4, .int .i64 u5, .int .i64 u6, .int .i64 u7] #[.int .i64 (mixF v0 u0 a (a - b)), .int .i64 (mixF v1 u1 a (a - b)), .int .i64 v2, .int .i64 v3, .int .i64 (mixF v4 u4 a (a - b)), .int .i64 (mixF v5 u5 a (a - b)), .int .i64 v6, .int .i64 v7] _ B3 B4 B9 (by omega) rfl rfl _ rfl hv2 hu2 ha hb ?_
  intro d22 d23 d24 d25 d26 d27 d28 d29 d30 d31 d32 d33 d34 d35 d36 d37 d38 d39 d40 d41 d42 d43 d44 w6_2 cx B9'
  have B9 : Blk w6_2 b9 #[.int .i64 (mixF v0 u0 a (a - b)), .int .i64 (mixF v1 u1 a (a - b)), .int .i64 (mixF v2 u2 a (a - b)), .int .i64 v3, .int .i64 (mixF v4 u4 a (a - b)), .int .i64 (mixF v5 u5 a (a - b)), .int .i64 v6, .int .i64 v7] 38 := by simpa using B9'
  have B3 := B3.calm cx (by simp; omega)
  have B4 := B4.calm cx (by simp; omega)
  have B6 := B6.calm cx (by simp; omega)
  have x13 := Ext.calm_trans x13 cx (by simp; omega)
  clear B9' cx
  go_upto_region 7 with fail
  refine rcross_r7 _ _ _ _ _ _ _ _ _ _ _ _ _ _ _ _ _ _ _ _ _ _ _ _ _ _ _ _ _ _ _ _ _ _ _ _ _ _ _ _ _ _ _ _ _ _ _ _ _ _ _ _ _ _ _ _ _ _ _ _ _ _ _ w.heap.size (w.heap.size + 1) b9 2 v6 u6 a b #[.int .i64 v0, .int .i64 v1, .int .i64 v2, .int .i64 v3, .int .i64 v4, .int .i64 v5, .int .i64 v6, .int .i64 v7] #[.int .i64 u0, .int .i64 u1, .int .i64 u2, .int .i64 u3, .int .i64 u4, .int .i64 u5, .int .i64 u6, .int .i64 u7] #[.int .i64 (mixF v0 u0 a (a - b)), .int .i64 (mixF v1 u1 a (a - b)), .int .i64 (mixF v2 u2 a (a - b)), .int .i64 v3, .int .i64 (mixF v4 u4 a (a - b)), .int .i64 (mixF v5 u5 a (a - b)), .int .i64 v6, .int .i64 v7] _ B3 B4 B9 (by omega) rfl rfl _ rfl hv6 hu6 ha hb ?_
  intro d45 d46 d47 d48 d49 d50 d51 d52 d53 d54 d55 d56 d57 d58 d59 d60 d61 d62 d63 d64 d65 d66 d67 w7_2 cx B9'
  have B9 : Blk w7_2 b9 #[.int .i64 (mixF v0 u0 a (a - b)), .int .i64 (mixF v1 u1 a (a - b)), .int .i64 (mixF v2 u2 a (a - b)), .int .i64 v3, .int .i64 (mixF v4 u4 a (a - b)), .int .i64 (mixF v5 u5 a (a - b)), .int .i64 (mixF v6 u6 a (a - b)), .int .i64 v7] 38 := by simpa using B9'
  have B3 := B3.calm cx (by simp; omega)
  have B4 := B4.calm cx (by simp; omega)
  have B6 := B6.calm cx (by simp; omega)
  have x13 := Ext.calm_trans x13 cx (by simp; omega)
  clear B9' cx
  go_wp2_with fail
  rw [rounds_succ]
  go_upto_region 6 with fail
  refine rcross_r6 _ _ _ _ _ _ _ _ _ _ _ _ _ _ _ _ _ _ _ _ _ _ _ _ _ _ _ _ _ _ _ _ _ _ _ _ _ _ _ _ _ _ _ _ _ _ _ _ _ _ _ _ _ _ _ _ _ _ _ _ _ _ _ w.heap.size (w.heap.size + 1) b9 3 v3 u3 a b #[.int .i64 v0, .int .i64 v1, .int .i64 v2, .int .i64 v3, .int .i64 v4, .int .i64 v5, .int .i64 v6, .int .i64 v7] #[.int .i64 u0, .int .i64 u1, .int .i64 u2, .int .i64 u3, .int .i64 u4, .int .i64 u5, .int .i64 u6, .int .i64 u7] #[.int .i64 (mixF v0 u0 a (a - b)), .int .i64 (mixF v1 u1 a (a - b)), .int .i64 (mixF v2 u2 a (a - b)), .int .i64 v3, .int .i64 (mixF v4 u4 a (a - b)), .int .i64 (mixF v5 u5 a (a - b)), .int .i64 (mixF v6 u6 a (a - b)), .int .i64 v7] _ B3 B4 B9 (by omega) rfl rfl _ rfl hv3 hu3 ha hb ?_
  intro d22 d23 d24 d25 d26 d27 d28 d29 d30 d31 d32 d33 d34 d35 d36 d37 d38 d39 d40 d41 d42 d43 d44 w6_3 cx B9'
  have B9 : Blk w6_3 b9 #[.int .i64 (mixF v0 u0 a (a - b)), .int .i64 (mixF v1 u1 a (a - b)), .int .i64 (mixF v2 u2 a (a - b)), .int .i64 (mixF v3 u3 a (a - b)), .int .i64 (mixF v4 u4 a (a - b)), .int .i64 (mixF v5 u5 a (a - b)), .int .i64 (mixF v6 u6 a (a - b)), .int .i64 v7] 38 := by simpa using B9'
  have B3 := B3.calm cx (by simp; omega)
  have B4 := B4.calm cx (by simp; omega)
  have B6 := B6.calm cx (by simp; omega)
  have x13 := Ext.calm_trans x13 cx (by simp; omega)
  clear B9' cx
  go_upto_region 7 with fail
  refine rcross_r7 _ _ _ _ _ _ _ _ _ _ _ _ _ _ _ _ _ _ _ _ _ _ _ _ _ _ _ _ _ _ _ _ _ _ _ _ _ _ _ _ _ _ _ _ _ _ _ _ _ _ _ _ _ _ _ _ _ _ _ _ _ _ _ w.heap.size (w.heap.size + 1) b9 3 v7 u7 a b #[.int .i64 v0, .int .i64 v1, .int .i64 v2, .int .i64 v3, .int .i64 v4, .int .i64 v5, .int .i64 v6, .int .i64 v7] #[.int .i64 u0, .int .i64 u1, .int .i64 u2, .int .i64 u3, .int .i64 u4, .int .i64 u5, .int .i64 u6, .int .i64 u7] #[.int .i64 (mixF v0 u0 a (a - b)), .int .i64 (mixF v1 u1 a (a - b)), .int .i64 (mixF v2 u2 a (a - b)), .int .i64 (mixF v3 u3 a (a - b)), .int .i64 (mixF v4 u4 a (a - b)), .int .i64 (mixF v5 u5 a (a - b)), .int .i64 (mixF v6 u6 a (a - b)), .int .i64 v7] _ B3 B4 B9 (by omega) rfl rfl _ rfl hv7 hu7 ha hb ?_
  intro d45 d46 d47 d48 d49 d50 d51 d52 d53 d54 d55 d56 d57 d58 d59 d60 d61 d62 d63 d64 d65 d66 d67 w7_3 cx B9'
  have B9 : Blk w7_3 b9 #[.int .i64 (mixF v0 u0 a (a - b)), .int .i64 (mixF v1 u1 a (a - b)), .int .i64 (mixF v2 u2 a (a - b)), .int .i64 (mixF v3 u3 a (a - b)), .int .i64 (mixF v4 u4 a (a - b)), .int .i64 (mixF v5 u5 a (a - b)), .int .i64 (mixF v6 u6 a (a - b)), .int .i64 (mixF v7 u7 a (a - b))] 38 := by simpa using B9'
  have B3 := B3.calm cx (by simp; omega)
  have B4 := B4.calm cx (by simp; omega)
  have B6 := B6.calm cx (by simp; omega)
  have x13 := Ext.calm_trans x13 cx (by simp; omega)
  clear B9' cx
  go_wp2_with fail
  rw [rounds_succ]
  go_upto_region 8 with fail
  have hz6 := B6.lt
  have Bf := B6.setRow #[.int .i64 (mixF v0 u0 a (a - b)), .int .i64 (mixF v1 u1 a (a - b)), .int .i64 (mixF v2 u2 a (a - b)), .int .i64 (mixF v3 u3 a (a - b)), .int .i64 (mixF v4 u4 a (a - b)), .int .i64 (mixF v5 u5 a (a - b)), .int .i64 (mixF v6 u6 a (a - b)), .int .i64 (mixF v7 u7 a (a - b))]
  have Ef := x13.setRow (g := w.heap.size + 1 + 1) (by omega) #[.int .i64 (mixF v0 u0 a (a - b)), .int .i64 (mixF v1 u1 a (a - b)), .int .i64 (mixF v2 u2 a (a - b)), .int .i64 (mixF v3 u3 a (a - b)), .int .i64 (mixF v4 u4 a (a - b)), .int .i64 (mixF v5 u5 a (a - b)), .int .i64 (mixF v6 u6 a (a - b)), .int .i64 (mixF v7 u7 a (a - b))]
  go_wp2_with (first
    | ((with_reducible refine wpList_load_blk (op := ⟨some 68, _, _, _, _, _⟩) ?_ 38 (.tmp 9) ?_ b9 ?_ (z := _) (T := 38) B9 Try.underlying38 ?_ ?_ ?_); rfl; rfl; rfl; rfl; kernel_rfl)
    | ((with_reducible refine wpList_store_blk (op := ⟨none, .store 38 (.tmp 6) (.tmp 68), _, _, _, _⟩) ?_ 38 (.tmp 6) (.tmp 68) ?_ (w.heap.size + 1 + 1) ?_ (cs := #[.int .i64 (mixF v0 u0 a (a - b)), .int .i64 (mixF v1 u1 a (a - b)), .int .i64 (mixF v2 u2 a (a - b)), .int .i64 (mixF v3 u3 a (a - b)), .int .i64 (mixF v4 u4 a (a - b)), .int .i64 (mixF v5 u5 a (a - b)), .int .i64 (mixF v6 u6 a (a - b)), .int .i64 (mixF v7 u7 a (a - b))]) ?_ (z := #[.int .i64 0, .int .i64 0, .int .i64 0, .int .i64 0, .int .i64 0, .int .i64 0, .int .i64 0, .int .i64 0]) (T := 38) ?_ ?_ ?_ ?_ ?_); rfl; rfl; rfl; rfl; exact B6; kernel_rfl; kernel_rfl; kernel_rfl)
    | fail)
  exact bodyPost_ret (v := .agg #[.int .i64 (mixF v0 u0 a (a - b)), .int .i64 (mixF v1 u1 a (a - b)), .int .i64 (mixF v2 u2 a (a - b)), .int .i64 (mixF v3 u3 a (a - b)), .int .i64 (mixF v4 u4 a (a - b)), .int .i64 (mixF v5 u5 a (a - b)), .int .i64 (mixF v6 u6 a (a - b)), .int .i64 (mixF v7 u7 a (a - b))]) (results_blk (b := w.heap.size + 1 + 1) (t := 6) (ty := 38) rfl rfl Bf Try.underlying38 rfl (by kernel_rfl)) rfl ⟨rfl, Ef⟩
theorem rcross_any (v u : V8) (k : Nat) (hk : k < 7) (hv : v.inP) (hu : u.inP) (hvc : v.inC (-4194304) 4194304) (huc : u.inC (-4194304) 4194304) (h0 : 0 ≤ insF v k) (h1 : insF u k < 0) (w : World) : Calls Try.prog 19 #[.agg v.l.toArray, .agg u.l.toArray, .int .i64 (k : Int)] w fun e w' => e = .returned (.agg (cutF v u k).l.toArray) ∧ Ext w w' := by
  have b1 := insF_bd hv k
  have b2 := insF_bd hu k
  have hA := rinside_any v k hk hv
  have hB := rinside_any u k hk hu
  obtain ⟨v0, v1, v2, v3⟩ := hv
  obtain ⟨u0, u1, u2, u3⟩ := hu
  obtain ⟨v4, v5, v6, v7⟩ := hvc
  obtain ⟨u4, u5, u6, u7⟩ := huc
  exact rcross_main v.p0 v.p1 v.p2 v.p3 v.c0 v.c1 v.c2 v.c3 u.p0 u.p1 u.p2 u.p3 u.c0 u.c1 u.c2 u.c3 (insF v k) (insF u k) v0 v1 v2 v3 v4 v5 v6 v7 u0 u1 u2 u3 u4 u5 u6 u7 (by omega) (by omega) k w hA hB
end Go.Proofs.Ytjohcngmoemmbaa
