/-
  DERIVED. ref12's Clip: a round (made by mkrefclip.py).
-/
import Derived.Test.YtjohcngmoemmbaaRefClip2
import Derived.Test.YtjohcngmoemmbaaGs
namespace Go.Proofs.Ytjohcngmoemmbaa
open Go.RowKit
set_option linter.unusedVariables false
theorem info_r8 : (Try.prog.info? 38).map (fun i => (i.zero, i.size, i.bytes)) = some (some (.agg (V8.l ⟨0, 0, 0, 0, 0, 0, 0, 0⟩).toArray), 8, 64) := by kernel_rfl
def LR : Lay V8 where
  st := 35
  et := 38
  n := 8
  bytes := 64
  zero := .agg (V8.l ⟨0, 0, 0, 0, 0, 0, 0, 0⟩).toArray
  cells := V8.l
  len := fun _ => rfl
  one := fun x u hu => by
    simp at hu
    rcases hu with rfl | rfl | rfl | rfl | rfl | rfl | rfl | rfl <;> rfl
  pos := by decide
  small := by decide
  und := Try.underlying35
  info := info_r8
  zcells := rfl
theorem mkR (u : World) : (Instr.alloc 38 true (.tuple #[])).run Try.prog u = .ok (.pointer (some ⟨u.heap.size, 0, none⟩)) (u.alloc (.cells #[.int .i64 0, .int .i64 0, .int .i64 0, .int .i64 0, .int .i64 0, .int .i64 0, .int .i64 0, .int .i64 0] 38)) := by
  simp [go_sem]
set_option maxRecDepth 100000 in
set_option maxHeartbeats 4000000 in
theorem rclip_r8 (f1 f2 f4 f6 f7 f8 f9 f10 f11 f12 f13 f14 f15 f16 f17 f18 f19 f20 f21 f22 f23 f24 f25 f26 f27 f28 f29 f30 f31 f32 f33 f34 f35 f36 f37 f38 f39 f40 f41 f42 f43 f44 f45 f46 f47 f48 f49 f50 f51 f52 f53 f54 f55 f56 f57 f58 f59 f60 f61 f62 f63 f64 f65 f66 f67 f68 f69 f70 f71 f72 f73 f74 f75 f76 f77 f78 f79 f80 f81 f82 f83 f84 f85 f86 f87 f88 f89 f90 f91 f92 f93 f94 f95 f96 f97 : Value) (lb off n c k i i2 : Nat) (x y : V8) (w : World) (hn : n < 1000000) (hi : i < n) (hi2 : (i + 1) % n = i2) (hx : ∀ j u, x.l[j]? = some u → w.cell? ⟨lb, off + i * 8 + j, none⟩ = some u) (hy : ∀ j u, y.l[j]? = some u → w.cell? ⟨lb, off + i2 * 8 + j, none⟩ = some u) {Q : Exit → Act → World → Prop}
    (hQ : ∀ (c21 c22 c23 c24 c25 c26 c27 c28 c29 c30 c31 c32 : Value) (b6 b7 : Nat) (wx : World), Ext w wx → w.heap.size ≤ b6 → w.heap.size ≤ b7 → Blk wx b6 x.l.toArray 38 → Blk wx b7 y.l.toArray 38 → Q .normal ⟨(Value.slice (some ⟨lb, off, none⟩) n c :: f1 :: f2 :: Value.int .i64 (k : Int) :: f4 :: Value.int .i64 (i : Int) :: Value.pointer (some ⟨b6, 0, none⟩) :: Value.pointer (some ⟨b7, 0, none⟩) :: f8 :: f9 :: f10 :: f11 :: f12 :: f13 :: f14 :: f15 :: f16 :: f17 :: f18 :: f19 :: f20 :: c21 :: c22 :: c23 :: c24 :: c25 :: c26 :: c27 :: c28 :: c29 :: c30 :: c31 :: c32 :: f33 :: f34 :: f35 :: f36 :: f37 :: f38 :: f39 :: f40 :: f41 :: f42 :: f43 :: f44 :: f45 :: f46 :: f47 :: f48 :: f49 :: f50 :: f51 :: f52 :: f53 :: f54 :: f55 :: f56 :: f57 :: f58 :: f59 :: f60 :: f61 :: f62 :: f63 :: f64 :: f65 :: f66 :: f67 :: f68 :: f69 :: f70 :: f71 :: f72 :: f73 :: f74 :: f75 :: f76 :: f77 :: f78 :: f79 :: f80 :: f81 :: f82 :: f83 :: f84 :: f85 :: f86 :: f87 :: f88 :: f89 :: f90 :: f91 :: f92 :: f93 :: f94 :: f95 :: f96 :: f97 :: List.nil).toArray, []⟩ wx) :
    Code.wp Try.prog (regionOf Try.f10 8) Q ⟨(Value.slice (some ⟨lb, off, none⟩) n c :: f1 :: f2 :: Value.int .i64 (k : Int) :: f4 :: Value.int .i64 (i : Int) :: f6 :: f7 :: f8 :: f9 :: f10 :: f11 :: f12 :: f13 :: f14 :: f15 :: f16 :: f17 :: f18 :: f19 :: f20 :: f21 :: f22 :: f23 :: f24 :: f25 :: f26 :: f27 :: f28 :: f29 :: f30 :: f31 :: f32 :: f33 :: f34 :: f35 :: f36 :: f37 :: f38 :: f39 :: f40 :: f41 :: f42 :: f43 :: f44 :: f45 :: f46 :: f47 :: f48 :: f49 :: f50 :: f51 :: f52 :: f53 :: f54 :: f55 :: f56 :: f57 :: f58 :: f59 :: f60 :: f61 :: f62 :: f63 :: f64 :: f65 :: f66 :: f67 :: f68 :: f69 :: f70 :: f71 :: f72 :: f73 :: f74 :: f75 :: f76 :: f77 :: f78 :: f79 :: f80 :: f81 :: f82 :: f83 :: f84 :: f85 :: f86 :: f87 :: f88 :: f89 :: f90 :: f91 :: f92 :: f93 :: f94 :: f95 :: f96 :: f97 :: List.nil).toArray, []⟩ w := by
  have hmod : ((i : Int) + 1) % (n : Int) = (i2 : Int) := by rw [← hi2]; simp
  have hi2n : i2 < n := by rw [← hi2]; exact Nat.mod_lt _ (by omega)
  have hnI : (n : Int) ≠ 0 := by omega
  have hiI : (i : Int) < (n : Int) := by omega
  have hi2I : (i2 : Int) < (n : Int) := by omega
  clear hi2
  obtain ⟨v0, v1, v2, v3, v4, v5, v6, v7⟩ := x
  obtain ⟨u0, u1, u2, u3, u4, u5, u6, u7⟩ := y
  have HQ := Lib.hid hQ
  clear hQ
  have a0 := hx 0 _ rfl
  have e0 := hy 0 _ rfl
  have a1 := hx 1 _ rfl
  have e1 := hy 1 _ rfl
  have a2 := hx 2 _ rfl
  have e2 := hy 2 _ rfl
  have a3 := hx 3 _ rfl
  have e3 := hy 3 _ rfl
  have a4 := hx 4 _ rfl
  have e4 := hy 4 _ rfl
  have a5 := hx 5 _ rfl
  have e5 := hy 5 _ rfl
  have a6 := hx 6 _ rfl
  have e6 := hy 6 _ rfl
  have a7 := hx 7 _ rfl
  have e7 := hy 7 _ rfl
  simp only [Nat.add_zero] at a0 e0
  clear hx hy
  change Code.wp Try.prog (Code.region _ _ true) _ _ _
  apply wp_region_vars [false, false, false, false, false, false, false, false, false, false, false, false, true, true, true, true] [] [⟨some 12, 6, 0, some 14, 38, #[.int .i64 0, .int .i64 0, .int .i64 0, .int .i64 0, .int .i64 0, .int .i64 0, .int .i64 0, .int .i64 0], #[.int .i64 v0, .int .i64 v1, .int .i64 v2, .int .i64 v3, .int .i64 v4, .int .i64 v5, .int .i64 v6, .int .i64 v7]⟩, ⟨some 13, 7, 0, some 15, 38, #[.int .i64 0, .int .i64 0, .int .i64 0, .int .i64 0, .int .i64 0, .int .i64 0, .int .i64 0, .int .i64 0], #[.int .i64 u0, .int .i64 u1, .int .i64 u2, .int .i64 u3, .int .i64 u4, .int .i64 u5, .int .i64 u6, .int .i64 u7]⟩] _ (by kernel_rfl) (by kernel_rfl) (by kernel_rfl)
  case H =>
    intro y0 hy0
    have hne : Nonempty (Wx y0) := ⟨⟨y0, Ext.refl y0⟩⟩
    have hx0 := fun (t : Wx y0) => hy0.ext.trans t.ext
    have qa0 := fun (t : Wx y0) => (hx0 t).old a0
    have qe0 := fun (t : Wx y0) => (hx0 t).old e0
    have qa1 := fun (t : Wx y0) => (hx0 t).old a1
    have qe1 := fun (t : Wx y0) => (hx0 t).old e1
    have qa2 := fun (t : Wx y0) => (hx0 t).old a2
    have qe2 := fun (t : Wx y0) => (hx0 t).old e2
    have qa3 := fun (t : Wx y0) => (hx0 t).old a3
    have qe3 := fun (t : Wx y0) => (hx0 t).old e3
    have qa4 := fun (t : Wx y0) => (hx0 t).old a4
    have qe4 := fun (t : Wx y0) => (hx0 t).old e4
    have qa5 := fun (t : Wx y0) => (hx0 t).old a5
    have qe5 := fun (t : Wx y0) => (hx0 t).old e5
    have qa6 := fun (t : Wx y0) => (hx0 t).old a6
    have qe6 := fun (t : Wx y0) => (hx0 t).old e6
    have qa7 := fun (t : Wx y0) => (hx0 t).old a7
    have qe7 := fun (t : Wx y0) => (hx0 t).old e7
    clear hx0
    simp only [eraseM]
    repeat (go_big_quiet_step (fail))
    exact wpQuiet_nil rfl
  case hok =>
    simp only [List.forall_mem_cons, List.not_mem_nil, false_implies, implies_true, and_true]
    refine ⟨tgt_fresh (by simp) rfl rfl mkR rfl rfl rfl rfl (by kernel_rfl) (by kernel_rfl) rfl, tgt_fresh (by simp) rfl rfl mkR rfl rfl rfl rfl (by kernel_rfl) (by kernel_rfl) rfl⟩
  case hdis =>
    intro k k' t t' hk hk' _ ha
    exfalso
    have := List.mem_of_getElem? hk
    simp only [List.mem_cons, List.not_mem_nil, or_false] at this
    rcases this with rfl | rfl <;> cases ha
  rintro w2 f hw ⟨k0, l0, d0, -, k1, l1, d1, -, -⟩
  have hx2 := hw.ext
  simp only [pairs, putAll, Option.isSome_some, if_true]
  exact HQ.out _ _ _ _ _ _ _ _ _ _ _ _ (f 0) (f 1) w2 hx2 k0 k1 d0 d1
end Go.Proofs.Ytjohcngmoemmbaa
