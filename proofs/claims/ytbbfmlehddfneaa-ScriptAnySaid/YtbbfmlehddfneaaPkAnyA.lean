/-
  DERIVED. Appends to literals of bytes, converted or not, in regions that draw (made by mkscrany.py). · Region 10 of ScriptAny: five slices of bytes are made, in whatever order (made by mkscrany.py).
-/
import Derived.Test.YtbbfmlehddfneaaPkBuf
import Derived.Test.YtbbfmlehddfneaaPkWire
import Derived.Lib.SlBytesConst
import Derived.Test.YtbbfmlehddfneaaPkFix
import Derived.Lib.Hide
namespace Go.Proofs.Ytbbfmlehddfneaa
open Go.RowKit
set_option linter.unusedVariables false
theorem run_append_zero {P : Program} (t ty e : TypeId) (i : TypeInfo) (ht : P.underlying t = some (.slice e)) (hi : P.info? e = some i) (w : World) (base ao : Option Addr) (n cap c : Nat) (hnc : n ≤ cap) : (Builtin.append_ #[t, t] ty #[.slice base n cap, .slice ao 0 c]).run P w = .ok (.slice base n cap) w := by
  cases base <;> cases ao <;> simp [Builtin.append_, run_underlying ht, sizeOf, typeInfo, hi, Builtin.lenOf, Builtin.firstCells, hnc, storeCells, loadCells, loadCellsFrom]
/-- a literal of constant bytes is converted to its own type: its block gets a mark -/
theorem run_convert_const {w : World} (t e : TypeId) (C : Array Value) (g n c : Nat) (ht : Try.prog.underlying t = some (.slice e)) (he : Try.prog.underlying e = some (.int .u8)) (hB : Blk w g C e) :
    ∃ w', (convert t t (.slice (some ⟨g, 0, none⟩) n c)).run Try.prog w = .ok (.slice (some ⟨g, 0, none⟩) n c) w' ∧ Calm [g] w w' ∧ ∀ j, w'.cell? ⟨g, j, none⟩ = C[j]? := by
  have hsh : w.shape? g = some (e, C.size) := by
    unfold World.shape?
    rw [show w.heap[g]? = some (.cells C e (0, 0)) from hB]
  refine ⟨w.freeze ⟨g, C.size, none⟩ 1, ?_, ?_, fun j => ?_⟩
  · simp [convert, run_underlying ht, run_underlying he, markStringish, hsh]
  · unfold World.freeze
    rw [if_neg (by decide)]
    refine ⟨rfl, rfl, rfl, by simp, fun k hk hn => ?_⟩
    have hne : g ≠ k := fun h => hn (by simp [h])
    simp [Array.getElem?_modify, hne]
  · unfold World.freeze
    rw [if_neg (by decide)]
    have hB' : w.heap[g]? = some (.cells C e (0, 0)) := hB
    simp [World.cell?, Array.getElem?_modify, hB']
theorem Arr.cells' {w : World} {ao : Option Addr} {n c : Nat} {m : List Int} (h : Arr w .u8 (.slice ao n c) m) (hm : m ≠ []) : ∃ g off, ao = some ⟨g, off, none⟩ ∧ n = m.length ∧ ∀ j y, m[j]? = some y → w.cell? ⟨g, off + j, none⟩ = some (.int .u8 y) := by
  obtain ⟨⟨ao', c', e, h1, h2, h3⟩, _, _⟩ := h
  cases e
  obtain ⟨b, off, rfl, hc⟩ := h2 hm
  refine ⟨b, off, rfl, rfl, fun j y hj => ?_⟩
  rw [hc j (List.getElem?_eq_some_iff.1 hj).1]
  simp [List.getD, hj]
theorem run_append_arr {w : World} (ty : TypeId) (base : Nat) (v : Value) (l : List Int) (hown : Own w base v l) (vx : Value) (m : List Int) (hm : Arr w .u8 vx m) (hlen : l.length + m.length ≤ 1000000) (hbase : base ≤ w.heap.size) :
    ∃ v' w', (Builtin.append_ #[29, 29] ty #[v, vx]).run Try.prog w = .ok v' w' ∧ Own w' base v' (l ++ m) ∧ Calm v.ownBlock.toList w w' ∧ ∀ k, v'.ownBlock = some k → v.ownBlock = some k ∨ k = w.heap.size := by
  obtain ⟨ao, c, rfl, -, -⟩ := hm.slice
  by_cases h0 : m = []
  · subst h0
    obtain ⟨i, hi, -, -, -⟩ := info_parts info_u8
    obtain ⟨bo, bc, e, -, -⟩ := id hown.slice
    have hcap : l.length ≤ bc ∨ v = .slice none 0 0 := by
      rcases hown.2 with ⟨h1, h2⟩ | ⟨g, cap, cur, h1, h2, h3, h4, _⟩
      · exact .inr h1
      · rw [h1] at e; cases e; exact .inl h4
    refine ⟨v, w, ?_, by simpa using hown, Calm.refl _ _, fun k hk => .inl hk⟩
    rcases hcap with h | h
    · rw [e]
      exact run_append_zero _ _ _ i Try.underlying29 hi w bo ao l.length bc c h
    · rw [h]
      exact run_append_zero _ _ _ i Try.underlying29 hi w none ao 0 0 c (Nat.le_refl _)
  · obtain ⟨g, off, rfl, -, hc⟩ := Arr.cells' hm h0
    exact run_append_bytes ty base v l hown ⟨g, off, none⟩ c m (fun j y h => by rw [add_flat]; exact hc j y h) hlen hbase
theorem run_append_const_arr {w : World} (ty : TypeId) (g cap : Nat) (l : List Int) (hl : ∀ j y, l[j]? = some y → w.cell? ⟨g, 0 + j, none⟩ = some (.int .u8 y)) (hcap : cap = l.length) (vx : Value) (m : List Int) (hm : Arr w .u8 vx m) (hlen : l.length + m.length ≤ 1000000) (hlb : ∀ y ∈ l, 0 ≤ y ∧ y ≤ 255) (hmb : ∀ y ∈ m, 0 ≤ y ∧ y ≤ 255) :
    ∃ ao c w', (Builtin.append_ #[29, 29] ty #[.slice (some ⟨g, 0, none⟩) l.length cap, vx]).run Try.prog w = .ok (.slice ao (l ++ m).length c) w' ∧ Arr w' .u8 (.slice ao (l ++ m).length c) (l ++ m) ∧ Ext w w' := by
  subst hcap
  obtain ⟨ao, c, rfl, -, -⟩ := hm.slice
  by_cases h0 : m = []
  · subst h0
    obtain ⟨i, hi, -, -, -⟩ := info_parts info_u8
    simp only [List.append_nil]
    refine ⟨_, _, w, run_append_zero _ _ _ i Try.underlying29 hi w (some ⟨g, 0, none⟩) ao l.length l.length c (Nat.le_refl _), ⟨⟨_, _, rfl, Nat.le_refl _, fun _ => ⟨g, 0, rfl, fun j hj => ?_⟩, fun h => by cases h⟩, by simp only [maxLen]; omega, fun y hy => wfu8 (hlb y hy)⟩, Ext.refl w⟩
    exact hl j _ (by simp [List.getD, hj])
  · obtain ⟨g2, off, rfl, -, hc⟩ := Arr.cells' hm h0
    have hpos := List.length_pos_iff.2 h0
    obtain ⟨v', w', h1, h2, h3, -⟩ := run_append_const ty w.heap.size g l.length l hl off g2 c m hc (by omega) hlen (Nat.le_refl _)
    have hA := h2.arr (fun y hy => by rcases List.mem_append.1 hy with h | h; exact hlb y h; exact hmb y h)
    obtain ⟨bo, bc, rfl, -, -⟩ := h2.slice
    exact ⟨bo, bc, w', h1, hA, h3⟩
theorem gives_append_run {o : Oper} {A : Act} {u u' : World} {R : Value → World → Prop} {s x : Operand} {v vx v' : Value} (ho : o.op = .call { callee := .builtin .append, args := #[s, x], argTypes := #[29, 29] }) (hs : A.eval s = v) (hx : A.eval x = vx)
    (hr : (Builtin.append_ #[29, 29] o.type #[v, vx]).run Try.prog u = .ok v' u') (h : R v' u') : Gives Try.prog o A u R := by
  refine gives_value (u' := u') (v := v') ?_ h
  unfold execOp
  simp only [ho, resolve, invoke, builtin, Sem.run_bind, Sem.run_pure, Result.andThen_ok, List.map_toArray, List.map_cons, List.map_nil, hs, hx, hr]
end Go.Proofs.Ytbbfmlehddfneaa

namespace Go.Proofs.Ytbbfmlehddfneaa
open Go.RowKit
set_option linter.unusedVariables false
theorem az_get (j : Nat) (y : Int) (h : ([65, 90, 8, 8] : List Int)[j]? = some y) : (#[.int .u8 65, .int .u8 90, .int .u8 8, .int .u8 8] : Array Value)[j]? = some (.int .u8 y) := by
  match j, h with
  | 0, h => simpa using h
  | 1, h => simpa using h
  | 2, h => simpa using h
  | 3, h => simpa using h
  | j + 4, h => simp at h
set_option maxRecDepth 100000 in
set_option maxHeartbeats 4000000 in
theorem scrany_r10 (f0 f2 f3 f5 f6 f7 f8 f9 f10 f12 f14 f15 f16 f17 f18 f19 f20 f21 f22 f23 f24 f25 f26 f27 f28 f29 f30 f31 f32 f33 f34 f35 f36 f37 f38 f39 f40 f41 f42 f43 f44 f45 f46 f47 f48 f49 f50 f51 f52 f53 f54 f55 f56 f57 f58 f59 f60 f61 f62 f63 f64 f65 f66 f67 f68 f69 f70 f71 f72 f73 f74 f75 f76 f77 f78 f79 f80 f81 f82 f83 f84 f85 f86 f87 f88 f89 f90 f91 f92 f93 f94 f95 f96 f97 f98 f99 f100 f101 f102 f103 f104 f105 f106 f107 f108 f109 f110 f111 f112 f113 : Value) (ba : Option Addr) (bn bc gg gl gc gt tl tc k cutN : Nat) (cut : Int) (good lb : List Int) (w : World) (hgl : gl = good.length) (hgood : ∀ j y, good[j]? = some y → w.cell? ⟨gg, 0 + j, none⟩ = some (.int .u8 y)) (hlb : Arr w .u8 (.slice ba bn bc) lb) (hg0 : 0 < good.length) (hg1 : good.length ≤ 20000) (hl2 : lb.length ≤ 200) (hgb : ∀ y ∈ good ++ lb, 0 ≤ y ∧ y ≤ 255) (hlbb : ∀ y ∈ lb, 0 ≤ y ∧ y ≤ 255) (hk : cut % (gl : Int) = (k : Int)) (hk2 : k < gl) (hk3 : gl ≤ gc) (hcut : 0 ≤ cut ∧ cut ≤ 65535) {Q : Exit → Act → World → Prop}
    (hQ : ∀ (c52 c53 c54 c55 c56 c57 c58 c59 c60 c61 c62 c63 c64 c65 c66 c67 c68 c69 : Value) (g7 : Nat) (a5 : Option Addr) (L5 c5 : Nat) (a9 : Option Addr) (L9 c9 : Nat) (wx : World), Ext w wx → Blk wx g7 #[.slice ba bn bc, .slice (some ⟨gt, 0, none⟩) tl tc, .slice (some ⟨gg, 0, none⟩) k gc, .slice a5 L5 c5, .slice a9 L9 c9] 29 → Arr wx .u8 (.slice a5 L5 c5) (good ++ lb) → Arr wx .u8 (.slice a9 L9 c9) ([65, 90, 8, 8] ++ lb) → Q .normal ⟨(f0 :: Value.slice ba bn bc :: f2 :: f3 :: Value.int .u16 cut :: f5 :: f6 :: f7 :: f8 :: f9 :: f10 :: Value.slice (some ⟨gg, 0, none⟩) gl gc :: f12 :: Value.slice (some ⟨gt, 0, none⟩) tl tc :: f14 :: f15 :: f16 :: f17 :: f18 :: f19 :: f20 :: f21 :: f22 :: f23 :: f24 :: f25 :: f26 :: f27 :: f28 :: f29 :: f30 :: f31 :: f32 :: f33 :: f34 :: f35 :: f36 :: f37 :: f38 :: f39 :: f40 :: f41 :: f42 :: f43 :: f44 :: f45 :: f46 :: f47 :: f48 :: f49 :: f50 :: f51 :: c52 :: c53 :: c54 :: c55 :: c56 :: c57 :: c58 :: c59 :: c60 :: c61 :: c62 :: c63 :: c64 :: c65 :: c66 :: c67 :: c68 :: c69 :: Value.slice (some ⟨g7, 0, none⟩) 5 5 :: Value.int .i64 5 :: Value.int .i64 0 :: f73 :: f74 :: f75 :: f76 :: f77 :: f78 :: f79 :: f80 :: f81 :: f82 :: f83 :: f84 :: f85 :: f86 :: f87 :: f88 :: f89 :: f90 :: f91 :: f92 :: f93 :: f94 :: f95 :: f96 :: f97 :: f98 :: f99 :: f100 :: f101 :: f102 :: f103 :: f104 :: f105 :: f106 :: f107 :: f108 :: f109 :: f110 :: f111 :: f112 :: f113 :: List.nil).toArray, []⟩ wx) :
    Code.wp Try.prog (regionOf Try.f3 10) Q ⟨(f0 :: Value.slice ba bn bc :: f2 :: f3 :: Value.int .u16 cut :: f5 :: f6 :: f7 :: f8 :: f9 :: f10 :: Value.slice (some ⟨gg, 0, none⟩) gl gc :: f12 :: Value.slice (some ⟨gt, 0, none⟩) tl tc :: f14 :: f15 :: f16 :: f17 :: f18 :: f19 :: f20 :: f21 :: f22 :: f23 :: f24 :: f25 :: f26 :: f27 :: f28 :: f29 :: f30 :: f31 :: f32 :: f33 :: f34 :: f35 :: f36 :: f37 :: f38 :: f39 :: f40 :: f41 :: f42 :: f43 :: f44 :: f45 :: f46 :: f47 :: f48 :: f49 :: f50 :: f51 :: f52 :: f53 :: f54 :: f55 :: f56 :: f57 :: f58 :: f59 :: f60 :: f61 :: f62 :: f63 :: f64 :: f65 :: f66 :: f67 :: f68 :: f69 :: f70 :: f71 :: f72 :: f73 :: f74 :: f75 :: f76 :: f77 :: f78 :: f79 :: f80 :: f81 :: f82 :: f83 :: f84 :: f85 :: f86 :: f87 :: f88 :: f89 :: f90 :: f91 :: f92 :: f93 :: f94 :: f95 :: f96 :: f97 :: f98 :: f99 :: f100 :: f101 :: f102 :: f103 :: f104 :: f105 :: f106 :: f107 :: f108 :: f109 :: f110 :: f111 :: f112 :: f113 :: List.nil).toArray, []⟩ w := by
  have HQ := Lib.hid hQ
  clear hQ
  have hgI : (gl : Int) ≠ 0 := by omega
  have hkI : (0 : Int) ≤ (k : Int) ∧ (k : Int) ≤ (gc : Int) := by omega
  have HGL := Lib.hid hgl
  clear hgl
  change Code.wp Try.prog (Code.region _ _ true) _ _ _
  apply wp_region_dag_all 20 [false, false, false, false, false, false, false, false, false, true, false, true, false, true, true, true, false, true, true, true, false] [61, 63, 65, 66, 67, 69, 70, 71] [] _ [9, 11, 13, 14, 15, 17, 18, 19] 8 (by kernel_rfl) (by kernel_rfl) (by kernel_rfl) (by kernel_rfl) rfl
  case H =>
    intro y0 hy0
    have hne : Nonempty (Wx y0) := ⟨⟨y0, Ext.refl y0⟩⟩
    simp only [eraseM]
    repeat (go_big_quiet_step (fail))
    exact wpQuiet_nil rfl
  case hF => rfl
  case T =>
    have H32 : ∀ (u : World), Ext w u → ∀ (ga : Nat), ∀ (v63 : Value), ∀ (v65 : Value), Own u w.heap.size v65 (good ++ lb) → ∀ (gb : Nat), gb < u.heap.size → (∀ (j : Nat) (y : Int), ([65, 90, 8, 8] : List Int)[j]? = some y → u.cell? ⟨gb, 0 + j, none⟩ = some (.int .u8 y)) → w.heap.size ≤ gb → (∀ k, v65.ownBlock = some k → k ≠ gb) → tailD Try.prog (opsOf (regionOf Try.f3 10)) 20 [] [] w (fun A u => Q .normal A u) 3 [17, 18, 19] ⟨(f0 :: Value.slice ba bn bc :: f2 :: f3 :: Value.int .u16 cut :: f5 :: f6 :: f7 :: f8 :: f9 :: f10 :: Value.slice (some ⟨gg, 0, none⟩) gl gc :: f12 :: Value.slice (some ⟨gt, 0, none⟩) tl tc :: f14 :: f15 :: f16 :: f17 :: f18 :: f19 :: f20 :: f21 :: f22 :: f23 :: f24 :: f25 :: f26 :: f27 :: f28 :: f29 :: f30 :: f31 :: f32 :: f33 :: f34 :: f35 :: f36 :: f37 :: f38 :: f39 :: f40 :: f41 :: f42 :: f43 :: f44 :: f45 :: f46 :: f47 :: f48 :: f49 :: f50 :: f51 :: Value.slice ba bn bc :: Value.slice (some ⟨gt, 0, none⟩) tl tc :: Value.slice (some ⟨gg, 0, none⟩) gl gc :: Value.int .u16 cut :: Value.int .i64 cut :: Value.slice (some ⟨gg, 0, none⟩) gl gc :: Value.int .i64 (gl : Int) :: Value.int .i64 (cut % (gl : Int)) :: Value.slice (some ⟨gg, 0, none⟩) k gc :: Value.slice (some ⟨ga, 0, none⟩) 0 0 :: Value.slice (some ⟨gg, 0, none⟩) gl gc :: v63 :: Value.slice ba bn bc :: v65 :: Value.slice (some ⟨gb, 0, none⟩) 4 4 :: Value.slice (some ⟨gb, 0, none⟩) 4 4 :: Value.slice ba bn bc :: undef :: undef :: undef :: Value.int .i64 0 :: f73 :: f74 :: f75 :: f76 :: f77 :: f78 :: f79 :: f80 :: f81 :: f82 :: f83 :: f84 :: f85 :: f86 :: f87 :: f88 :: f89 :: f90 :: f91 :: f92 :: f93 :: f94 :: f95 :: f96 :: f97 :: f98 :: f99 :: f100 :: f101 :: f102 :: f103 :: f104 :: f105 :: f106 :: f107 :: f108 :: f109 :: f110 :: f111 :: f112 :: f113 :: List.nil).toArray, []⟩ u := by
      intro u xu ga v63 v65 oA gb bL bB lB nAB
      refine tailD_one (rem' := [18, 19]) 17 _ (by kernel_rfl) rfl rfl fun u3 x3 hc3 => ?_
      have x03 := xu.trans x3
      obtain ⟨ao, c, w', h1, h2, h3⟩ := run_append_const_arr (w := u3) 29 gb 4 [65, 90, 8, 8] (fun j y h => x3.old (bB j y h)) rfl (.slice ba bn bc) lb (hlb.ext x03) (by simp; omega) (by simp) hlbb
      refine gives_append_run rfl rfl rfl h1 ⟨hc3.trans (h3.calm _), fun _ => hc3.trans (h3.calm _), ?_⟩
      refine tailD_one (rem' := [19]) 18 _ (by kernel_rfl) rfl rfl fun u4 x4 hc4 => ?_
      have o4 := ((oA.ext x3).ext h3).ext x4
      have hA65 := o4.arr hgb
      obtain ⟨a5, c5, rfl, -, -⟩ := o4.slice
      generalize hL5 : (good ++ lb).length = L5 at *
      generalize hL9 : ([65, 90, 8, 8] ++ lb).length = L9 at *
      have K4 := hc4.trans (((Ext.refl u4).alloc #[.slice ba bn bc, .slice (some ⟨gt, 0, none⟩) tl tc, .slice (some ⟨gg, 0, none⟩) k gc, .slice a5 L5 c5, .slice ao L9 c] 29).calm _)
      refine gives_value (u' := u4.alloc (.cells #[.slice ba bn bc, .slice (some ⟨gt, 0, none⟩) tl tc, .slice (some ⟨gg, 0, none⟩) k gc, .slice a5 L5 c5, .slice ao L9 c] 29)) (v := .slice (some ⟨u4.heap.size, 0, none⟩) 5 5) (by simp [go_sem]) ⟨K4, fun _ => K4, ?_⟩
      refine tailD_one (rem' := []) 19 _ (by kernel_rfl) rfl rfl fun u5 x5 hc5 => ?_
      refine gives_value (u' := u5) (v := .int .i64 5) (by simp [go_sem]) ⟨hc5, fun h => absurd rfl h, fun u6 x6 hc6 => ?_⟩
      have y4 := ((Ext.refl u4).alloc #[.slice ba bn bc, .slice (some ⟨gt, 0, none⟩) tl tc, .slice (some ⟨gg, 0, none⟩) k gc, .slice a5 L5 c5, .slice ao L9 c] 29)
      have y46 := (y4.trans x5).trans x6
      exact HQ.out _ _ _ _ _ _ _ _ _ _ _ _ _ _ _ _ _ _ u4.heap.size a5 L5 c5 ao L9 c u6 hc6.ext (((Blk.new u4 _ _).ext x5).ext x6) (hA65.ext y46) ((h2.ext x4).ext y46)
    have H22 : ∀ (u : World), Ext w u → ∀ (ga : Nat), ∀ (v63 : Value), Own u w.heap.size v63 good → ∀ (gb : Nat), gb < u.heap.size → (∀ (j : Nat) (y : Int), ([65, 90, 8, 8] : List Int)[j]? = some y → u.cell? ⟨gb, 0 + j, none⟩ = some (.int .u8 y)) → w.heap.size ≤ gb → (∀ k, v63.ownBlock = some k → k ≠ gb) → tailD Try.prog (opsOf (regionOf Try.f3 10)) 20 [] [] w (fun A u => Q .normal A u) 4 [13, 17, 18, 19] ⟨(f0 :: Value.slice ba bn bc :: f2 :: f3 :: Value.int .u16 cut :: f5 :: f6 :: f7 :: f8 :: f9 :: f10 :: Value.slice (some ⟨gg, 0, none⟩) gl gc :: f12 :: Value.slice (some ⟨gt, 0, none⟩) tl tc :: f14 :: f15 :: f16 :: f17 :: f18 :: f19 :: f20 :: f21 :: f22 :: f23 :: f24 :: f25 :: f26 :: f27 :: f28 :: f29 :: f30 :: f31 :: f32 :: f33 :: f34 :: f35 :: f36 :: f37 :: f38 :: f39 :: f40 :: f41 :: f42 :: f43 :: f44 :: f45 :: f46 :: f47 :: f48 :: f49 :: f50 :: f51 :: Value.slice ba bn bc :: Value.slice (some ⟨gt, 0, none⟩) tl tc :: Value.slice (some ⟨gg, 0, none⟩) gl gc :: Value.int .u16 cut :: Value.int .i64 cut :: Value.slice (some ⟨gg, 0, none⟩) gl gc :: Value.int .i64 (gl : Int) :: Value.int .i64 (cut % (gl : Int)) :: Value.slice (some ⟨gg, 0, none⟩) k gc :: Value.slice (some ⟨ga, 0, none⟩) 0 0 :: Value.slice (some ⟨gg, 0, none⟩) gl gc :: v63 :: Value.slice ba bn bc :: undef :: Value.slice (some ⟨gb, 0, none⟩) 4 4 :: Value.slice (some ⟨gb, 0, none⟩) 4 4 :: Value.slice ba bn bc :: undef :: undef :: undef :: Value.int .i64 0 :: f73 :: f74 :: f75 :: f76 :: f77 :: f78 :: f79 :: f80 :: f81 :: f82 :: f83 :: f84 :: f85 :: f86 :: f87 :: f88 :: f89 :: f90 :: f91 :: f92 :: f93 :: f94 :: f95 :: f96 :: f97 :: f98 :: f99 :: f100 :: f101 :: f102 :: f103 :: f104 :: f105 :: f106 :: f107 :: f108 :: f109 :: f110 :: f111 :: f112 :: f113 :: List.nil).toArray, []⟩ u := by
      intro u xu ga v63 oA gb bL bB lB nAB
      exact tailD_one (rem' := [17, 18, 19]) 13 _ (by kernel_rfl) rfl rfl (fun u3 x3 hc3 => by
        have x03 := xu.trans x3
        obtain ⟨v', w', h1, h2, h3, h4⟩ := run_append_arr (w := u3) 29 w.heap.size v63 good (oA.ext x3) (.slice ba bn bc) lb (hlb.ext x03) (by omega) x03.size
        have hcA : Calm [] w w' := hc3.new_trans h3 (fun g hg => .inl (oA.lt g (Option.mem_toList.1 hg)).1)
        refine gives_append_run rfl rfl rfl h1 ⟨hcA, fun _ => hcA, ?_⟩
        exact H32 _ hcA.ext ga _ _ h2 _ (Nat.lt_of_lt_of_le (Nat.lt_of_lt_of_le bL x3.size) h3.size) (fun j y h => (h3.cell _ (Nat.lt_of_lt_of_le bL x3.size) (fun hin => nAB gb (Option.mem_toList.1 hin) rfl)).trans (x3.old (bB j y h))) lB (fun k hk => by rcases h4 k hk with h | h; exact nAB k h; (have := x3.size; omega)))
    have H12 : ∀ (u : World), Ext w u → ∀ (ga : Nat), ∀ (gb : Nat), gb < u.heap.size → (∀ (j : Nat) (y : Int), ([65, 90, 8, 8] : List Int)[j]? = some y → u.cell? ⟨gb, 0 + j, none⟩ = some (.int .u8 y)) → w.heap.size ≤ gb → tailD Try.prog (opsOf (regionOf Try.f3 10)) 20 [] [] w (fun A u => Q .normal A u) 5 [11, 13, 17, 18, 19] ⟨(f0 :: Value.slice ba bn bc :: f2 :: f3 :: Value.int .u16 cut :: f5 :: f6 :: f7 :: f8 :: f9 :: f10 :: Value.slice (some ⟨gg, 0, none⟩) gl gc :: f12 :: Value.slice (some ⟨gt, 0, none⟩) tl tc :: f14 :: f15 :: f16 :: f17 :: f18 :: f19 :: f20 :: f21 :: f22 :: f23 :: f24 :: f25 :: f26 :: f27 :: f28 :: f29 :: f30 :: f31 :: f32 :: f33 :: f34 :: f35 :: f36 :: f37 :: f38 :: f39 :: f40 :: f41 :: f42 :: f43 :: f44 :: f45 :: f46 :: f47 :: f48 :: f49 :: f50 :: f51 :: Value.slice ba bn bc :: Value.slice (some ⟨gt, 0, none⟩) tl tc :: Value.slice (some ⟨gg, 0, none⟩) gl gc :: Value.int .u16 cut :: Value.int .i64 cut :: Value.slice (some ⟨gg, 0, none⟩) gl gc :: Value.int .i64 (gl : Int) :: Value.int .i64 (cut % (gl : Int)) :: Value.slice (some ⟨gg, 0, none⟩) k gc :: Value.slice (some ⟨ga, 0, none⟩) 0 0 :: Value.slice (some ⟨gg, 0, none⟩) gl gc :: undef :: Value.slice ba bn bc :: undef :: Value.slice (some ⟨gb, 0, none⟩) 4 4 :: Value.slice (some ⟨gb, 0, none⟩) 4 4 :: Value.slice ba bn bc :: undef :: undef :: undef :: Value.int .i64 0 :: f73 :: f74 :: f75 :: f76 :: f77 :: f78 :: f79 :: f80 :: f81 :: f82 :: f83 :: f84 :: f85 :: f86 :: f87 :: f88 :: f89 :: f90 :: f91 :: f92 :: f93 :: f94 :: f95 :: f96 :: f97 :: f98 :: f99 :: f100 :: f101 :: f102 :: f103 :: f104 :: f105 :: f106 :: f107 :: f108 :: f109 :: f110 :: f111 :: f112 :: f113 :: List.nil).toArray, []⟩ u := by
      intro u xu ga gb bL bB lB
      exact tailD_one (rem' := [13, 17, 18, 19]) 11 _ (by kernel_rfl) rfl rfl (fun u3 x3 hc3 => by
        have x03 := xu.trans x3
        obtain ⟨v', w', h1, h2, h3, h4⟩ := run_append_const (w := u3) 29 w.heap.size ga 0 [] (fun j y h => by simp at h) 0 gg gc good (fun j y h => x03.old (hgood j y h)) (by simp; omega) (by simp; omega) x03.size
        rw [← HGL.out] at h1
        have xa := x3.trans h3
        refine gives_append_run rfl rfl rfl h1 ⟨hc3.trans (h3.calm _), fun _ => hc3.trans (h3.calm _), ?_⟩
        have hz3 := x3.size
        exact H22 _ (xu.trans xa) ga _ h2 _ (Nat.lt_of_lt_of_le bL (xa).size) (fun j y h => (xa).old (bB j y h)) lB (fun k hk => by rw [h4] at hk; have e := Option.some.inj hk; omega))
    have H02 : ∀ (u : World), Ext w u → ∀ (gb : Nat), gb < u.heap.size → (∀ (j : Nat) (y : Int), ([65, 90, 8, 8] : List Int)[j]? = some y → u.cell? ⟨gb, 0 + j, none⟩ = some (.int .u8 y)) → w.heap.size ≤ gb → tailD Try.prog (opsOf (regionOf Try.f3 10)) 20 [] [] w (fun A u => Q .normal A u) 6 [9, 11, 13, 17, 18, 19] ⟨(f0 :: Value.slice ba bn bc :: f2 :: f3 :: Value.int .u16 cut :: f5 :: f6 :: f7 :: f8 :: f9 :: f10 :: Value.slice (some ⟨gg, 0, none⟩) gl gc :: f12 :: Value.slice (some ⟨gt, 0, none⟩) tl tc :: f14 :: f15 :: f16 :: f17 :: f18 :: f19 :: f20 :: f21 :: f22 :: f23 :: f24 :: f25 :: f26 :: f27 :: f28 :: f29 :: f30 :: f31 :: f32 :: f33 :: f34 :: f35 :: f36 :: f37 :: f38 :: f39 :: f40 :: f41 :: f42 :: f43 :: f44 :: f45 :: f46 :: f47 :: f48 :: f49 :: f50 :: f51 :: Value.slice ba bn bc :: Value.slice (some ⟨gt, 0, none⟩) tl tc :: Value.slice (some ⟨gg, 0, none⟩) gl gc :: Value.int .u16 cut :: Value.int .i64 cut :: Value.slice (some ⟨gg, 0, none⟩) gl gc :: Value.int .i64 (gl : Int) :: Value.int .i64 (cut % (gl : Int)) :: Value.slice (some ⟨gg, 0, none⟩) k gc :: undef :: Value.slice (some ⟨gg, 0, none⟩) gl gc :: undef :: Value.slice ba bn bc :: undef :: Value.slice (some ⟨gb, 0, none⟩) 4 4 :: Value.slice (some ⟨gb, 0, none⟩) 4 4 :: Value.slice ba bn bc :: undef :: undef :: undef :: Value.int .i64 0 :: f73 :: f74 :: f75 :: f76 :: f77 :: f78 :: f79 :: f80 :: f81 :: f82 :: f83 :: f84 :: f85 :: f86 :: f87 :: f88 :: f89 :: f90 :: f91 :: f92 :: f93 :: f94 :: f95 :: f96 :: f97 :: f98 :: f99 :: f100 :: f101 :: f102 :: f103 :: f104 :: f105 :: f106 :: f107 :: f108 :: f109 :: f110 :: f111 :: f112 :: f113 :: List.nil).toArray, []⟩ u := by
      intro u xu gb bL bB lB
      exact tailD_one (rem' := [11, 13, 17, 18, 19]) 9 _ (by kernel_rfl) rfl rfl (fun u3 x3 hc3 => by
        have K2 := hc3.trans (((Ext.refl u3).alloc #[] 5).calm _)
        have xa := x3.trans ((Ext.refl u3).alloc #[] 5)
        refine gives_value (u' := u3.alloc (.cells #[] 5)) (v := .slice (some ⟨u3.heap.size, 0, none⟩) 0 0) (by simp [go_sem]) ⟨K2, fun _ => K2, ?_⟩
        exact H12 _ (xu.trans xa) _ _ (Nat.lt_of_lt_of_le bL (xa).size) (fun j y h => (xa).old (bB j y h)) lB)
    have H31 : ∀ (u : World), Ext w u → ∀ (ga : Nat), ∀ (v63 : Value), ∀ (v65 : Value), Own u w.heap.size v65 (good ++ lb) → ∀ (gb : Nat), Blk u gb #[.int .u8 65, .int .u8 90, .int .u8 8, .int .u8 8] 5 → w.heap.size ≤ gb → (∀ k, v65.ownBlock = some k → k ≠ gb) → tailD Try.prog (opsOf (regionOf Try.f3 10)) 20 [] [] w (fun A u => Q .normal A u) 4 [15, 17, 18, 19] ⟨(f0 :: Value.slice ba bn bc :: f2 :: f3 :: Value.int .u16 cut :: f5 :: f6 :: f7 :: f8 :: f9 :: f10 :: Value.slice (some ⟨gg, 0, none⟩) gl gc :: f12 :: Value.slice (some ⟨gt, 0, none⟩) tl tc :: f14 :: f15 :: f16 :: f17 :: f18 :: f19 :: f20 :: f21 :: f22 :: f23 :: f24 :: f25 :: f26 :: f27 :: f28 :: f29 :: f30 :: f31 :: f32 :: f33 :: f34 :: f35 :: f36 :: f37 :: f38 :: f39 :: f40 :: f41 :: f42 :: f43 :: f44 :: f45 :: f46 :: f47 :: f48 :: f49 :: f50 :: f51 :: Value.slice ba bn bc :: Value.slice (some ⟨gt, 0, none⟩) tl tc :: Value.slice (some ⟨gg, 0, none⟩) gl gc :: Value.int .u16 cut :: Value.int .i64 cut :: Value.slice (some ⟨gg, 0, none⟩) gl gc :: Value.int .i64 (gl : Int) :: Value.int .i64 (cut % (gl : Int)) :: Value.slice (some ⟨gg, 0, none⟩) k gc :: Value.slice (some ⟨ga, 0, none⟩) 0 0 :: Value.slice (some ⟨gg, 0, none⟩) gl gc :: v63 :: Value.slice ba bn bc :: v65 :: Value.slice (some ⟨gb, 0, none⟩) 4 4 :: undef :: Value.slice ba bn bc :: undef :: undef :: undef :: Value.int .i64 0 :: f73 :: f74 :: f75 :: f76 :: f77 :: f78 :: f79 :: f80 :: f81 :: f82 :: f83 :: f84 :: f85 :: f86 :: f87 :: f88 :: f89 :: f90 :: f91 :: f92 :: f93 :: f94 :: f95 :: f96 :: f97 :: f98 :: f99 :: f100 :: f101 :: f102 :: f103 :: f104 :: f105 :: f106 :: f107 :: f108 :: f109 :: f110 :: f111 :: f112 :: f113 :: List.nil).toArray, []⟩ u := by
      intro u xu ga v63 v65 oA gb bB lB nAB
      exact tailD_one (rem' := [17, 18, 19]) 15 _ (by kernel_rfl) rfl rfl (fun u3 x3 hc3 => by
        obtain ⟨w', h1, hk2, h3⟩ := run_convert_const (w := u3) 29 5 #[.int .u8 65, .int .u8 90, .int .u8 8, .int .u8 8] gb 4 4 Try.underlying29 Try.underlying5 (bB.ext x3)
        have hcA : Calm [] w w' := hc3.new_trans hk2 (fun g hg => .inl (by rw [List.mem_singleton.1 hg]; exact lB))
        refine gives_value (u' := w') (v := .slice (some ⟨gb, 0, none⟩) 4 4) (by simp [go_sem, h1]) ⟨hcA, fun _ => hcA, ?_⟩
        exact H32 _ hcA.ext ga _ _ ((oA.ext x3).calm hk2 (fun k hk hin => nAB k hk (List.mem_singleton.1 hin))) _ (Nat.lt_of_lt_of_le (bB.ext x3).lt hk2.size) (fun j y h => by rw [Nat.zero_add, h3]; exact az_get j y h) lB nAB)
    have H21 : ∀ (u : World), Ext w u → ∀ (ga : Nat), ∀ (v63 : Value), Own u w.heap.size v63 good → ∀ (gb : Nat), Blk u gb #[.int .u8 65, .int .u8 90, .int .u8 8, .int .u8 8] 5 → w.heap.size ≤ gb → (∀ k, v63.ownBlock = some k → k ≠ gb) → tailD Try.prog (opsOf (regionOf Try.f3 10)) 20 [] [] w (fun A u => Q .normal A u) 5 [13, 15, 17, 18, 19] ⟨(f0 :: Value.slice ba bn bc :: f2 :: f3 :: Value.int .u16 cut :: f5 :: f6 :: f7 :: f8 :: f9 :: f10 :: Value.slice (some ⟨gg, 0, none⟩) gl gc :: f12 :: Value.slice (some ⟨gt, 0, none⟩) tl tc :: f14 :: f15 :: f16 :: f17 :: f18 :: f19 :: f20 :: f21 :: f22 :: f23 :: f24 :: f25 :: f26 :: f27 :: f28 :: f29 :: f30 :: f31 :: f32 :: f33 :: f34 :: f35 :: f36 :: f37 :: f38 :: f39 :: f40 :: f41 :: f42 :: f43 :: f44 :: f45 :: f46 :: f47 :: f48 :: f49 :: f50 :: f51 :: Value.slice ba bn bc :: Value.slice (some ⟨gt, 0, none⟩) tl tc :: Value.slice (some ⟨gg, 0, none⟩) gl gc :: Value.int .u16 cut :: Value.int .i64 cut :: Value.slice (some ⟨gg, 0, none⟩) gl gc :: Value.int .i64 (gl : Int) :: Value.int .i64 (cut % (gl : Int)) :: Value.slice (some ⟨gg, 0, none⟩) k gc :: Value.slice (some ⟨ga, 0, none⟩) 0 0 :: Value.slice (some ⟨gg, 0, none⟩) gl gc :: v63 :: Value.slice ba bn bc :: undef :: Value.slice (some ⟨gb, 0, none⟩) 4 4 :: undef :: Value.slice ba bn bc :: undef :: undef :: undef :: Value.int .i64 0 :: f73 :: f74 :: f75 :: f76 :: f77 :: f78 :: f79 :: f80 :: f81 :: f82 :: f83 :: f84 :: f85 :: f86 :: f87 :: f88 :: f89 :: f90 :: f91 :: f92 :: f93 :: f94 :: f95 :: f96 :: f97 :: f98 :: f99 :: f100 :: f101 :: f102 :: f103 :: f104 :: f105 :: f106 :: f107 :: f108 :: f109 :: f110 :: f111 :: f112 :: f113 :: List.nil).toArray, []⟩ u := by
      intro u xu ga v63 oA gb bB lB nAB
      exact tailD_two (r1 := [15, 17, 18, 19]) (r2 := [13, 17, 18, 19]) 13 15 _ _ (by kernel_rfl) rfl rfl rfl rfl (fun u3 x3 hc3 => by
        have x03 := xu.trans x3
        obtain ⟨v', w', h1, h2, h3, h4⟩ := run_append_arr (w := u3) 29 w.heap.size v63 good (oA.ext x3) (.slice ba bn bc) lb (hlb.ext x03) (by omega) x03.size
        have hcA : Calm [] w w' := hc3.new_trans h3 (fun g hg => .inl (oA.lt g (Option.mem_toList.1 hg)).1)
        refine gives_append_run rfl rfl rfl h1 ⟨hcA, fun _ => hcA, ?_⟩
        exact H31 _ hcA.ext ga _ _ h2 _ ((bB.ext x3).calm h3 (fun hin => nAB gb (Option.mem_toList.1 hin) rfl)) lB (fun k hk => by rcases h4 k hk with h | h; exact nAB k h; (have := x3.size; have := bB.lt; omega))) (fun u3 x3 hc3 => by
        obtain ⟨w', h1, hk2, h3⟩ := run_convert_const (w := u3) 29 5 #[.int .u8 65, .int .u8 90, .int .u8 8, .int .u8 8] gb 4 4 Try.underlying29 Try.underlying5 (bB.ext x3)
        have hcA : Calm [] w w' := hc3.new_trans hk2 (fun g hg => .inl (by rw [List.mem_singleton.1 hg]; exact lB))
        refine gives_value (u' := w') (v := .slice (some ⟨gb, 0, none⟩) 4 4) (by simp [go_sem, h1]) ⟨hcA, fun _ => hcA, ?_⟩
        exact H22 _ hcA.ext ga _ ((oA.ext x3).calm hk2 (fun k hk hin => nAB k hk (List.mem_singleton.1 hin))) _ (Nat.lt_of_lt_of_le (bB.ext x3).lt hk2.size) (fun j y h => by rw [Nat.zero_add, h3]; exact az_get j y h) lB nAB)
    have H11 : ∀ (u : World), Ext w u → ∀ (ga : Nat), ∀ (gb : Nat), Blk u gb #[.int .u8 65, .int .u8 90, .int .u8 8, .int .u8 8] 5 → w.heap.size ≤ gb → tailD Try.prog (opsOf (regionOf Try.f3 10)) 20 [] [] w (fun A u => Q .normal A u) 6 [11, 13, 15, 17, 18, 19] ⟨(f0 :: Value.slice ba bn bc :: f2 :: f3 :: Value.int .u16 cut :: f5 :: f6 :: f7 :: f8 :: f9 :: f10 :: Value.slice (some ⟨gg, 0, none⟩) gl gc :: f12 :: Value.slice (some ⟨gt, 0, none⟩) tl tc :: f14 :: f15 :: f16 :: f17 :: f18 :: f19 :: f20 :: f21 :: f22 :: f23 :: f24 :: f25 :: f26 :: f27 :: f28 :: f29 :: f30 :: f31 :: f32 :: f33 :: f34 :: f35 :: f36 :: f37 :: f38 :: f39 :: f40 :: f41 :: f42 :: f43 :: f44 :: f45 :: f46 :: f47 :: f48 :: f49 :: f50 :: f51 :: Value.slice ba bn bc :: Value.slice (some ⟨gt, 0, none⟩) tl tc :: Value.slice (some ⟨gg, 0, none⟩) gl gc :: Value.int .u16 cut :: Value.int .i64 cut :: Value.slice (some ⟨gg, 0, none⟩) gl gc :: Value.int .i64 (gl : Int) :: Value.int .i64 (cut % (gl : Int)) :: Value.slice (some ⟨gg, 0, none⟩) k gc :: Value.slice (some ⟨ga, 0, none⟩) 0 0 :: Value.slice (some ⟨gg, 0, none⟩) gl gc :: undef :: Value.slice ba bn bc :: undef :: Value.slice (some ⟨gb, 0, none⟩) 4 4 :: undef :: Value.slice ba bn bc :: undef :: undef :: undef :: Value.int .i64 0 :: f73 :: f74 :: f75 :: f76 :: f77 :: f78 :: f79 :: f80 :: f81 :: f82 :: f83 :: f84 :: f85 :: f86 :: f87 :: f88 :: f89 :: f90 :: f91 :: f92 :: f93 :: f94 :: f95 :: f96 :: f97 :: f98 :: f99 :: f100 :: f101 :: f102 :: f103 :: f104 :: f105 :: f106 :: f107 :: f108 :: f109 :: f110 :: f111 :: f112 :: f113 :: List.nil).toArray, []⟩ u := by
      intro u xu ga gb bB lB
      exact tailD_two (r1 := [13, 15, 17, 18, 19]) (r2 := [11, 13, 17, 18, 19]) 11 15 _ _ (by kernel_rfl) rfl rfl rfl rfl (fun u3 x3 hc3 => by
        have x03 := xu.trans x3
        obtain ⟨v', w', h1, h2, h3, h4⟩ := run_append_const (w := u3) 29 w.heap.size ga 0 [] (fun j y h => by simp at h) 0 gg gc good (fun j y h => x03.old (hgood j y h)) (by simp; omega) (by simp; omega) x03.size
        rw [← HGL.out] at h1
        have xa := x3.trans h3
        refine gives_append_run rfl rfl rfl h1 ⟨hc3.trans (h3.calm _), fun _ => hc3.trans (h3.calm _), ?_⟩
        have hz3 := x3.size
        exact H21 _ (xu.trans xa) ga _ h2 _ (bB.ext xa) lB (fun k hk => by rw [h4] at hk; have e := Option.some.inj hk; have := bB.lt; omega)) (fun u3 x3 hc3 => by
        obtain ⟨w', h1, hk2, h3⟩ := run_convert_const (w := u3) 29 5 #[.int .u8 65, .int .u8 90, .int .u8 8, .int .u8 8] gb 4 4 Try.underlying29 Try.underlying5 (bB.ext x3)
        have hcA : Calm [] w w' := hc3.new_trans hk2 (fun g hg => .inl (by rw [List.mem_singleton.1 hg]; exact lB))
        refine gives_value (u' := w') (v := .slice (some ⟨gb, 0, none⟩) 4 4) (by simp [go_sem, h1]) ⟨hcA, fun _ => hcA, ?_⟩
        exact H12 _ hcA.ext ga _ (Nat.lt_of_lt_of_le (bB.ext x3).lt hk2.size) (fun j y h => by rw [Nat.zero_add, h3]; exact az_get j y h) lB)
    have H01 : ∀ (u : World), Ext w u → ∀ (gb : Nat), Blk u gb #[.int .u8 65, .int .u8 90, .int .u8 8, .int .u8 8] 5 → w.heap.size ≤ gb → tailD Try.prog (opsOf (regionOf Try.f3 10)) 20 [] [] w (fun A u => Q .normal A u) 7 [9, 11, 13, 15, 17, 18, 19] ⟨(f0 :: Value.slice ba bn bc :: f2 :: f3 :: Value.int .u16 cut :: f5 :: f6 :: f7 :: f8 :: f9 :: f10 :: Value.slice (some ⟨gg, 0, none⟩) gl gc :: f12 :: Value.slice (some ⟨gt, 0, none⟩) tl tc :: f14 :: f15 :: f16 :: f17 :: f18 :: f19 :: f20 :: f21 :: f22 :: f23 :: f24 :: f25 :: f26 :: f27 :: f28 :: f29 :: f30 :: f31 :: f32 :: f33 :: f34 :: f35 :: f36 :: f37 :: f38 :: f39 :: f40 :: f41 :: f42 :: f43 :: f44 :: f45 :: f46 :: f47 :: f48 :: f49 :: f50 :: f51 :: Value.slice ba bn bc :: Value.slice (some ⟨gt, 0, none⟩) tl tc :: Value.slice (some ⟨gg, 0, none⟩) gl gc :: Value.int .u16 cut :: Value.int .i64 cut :: Value.slice (some ⟨gg, 0, none⟩) gl gc :: Value.int .i64 (gl : Int) :: Value.int .i64 (cut % (gl : Int)) :: Value.slice (some ⟨gg, 0, none⟩) k gc :: undef :: Value.slice (some ⟨gg, 0, none⟩) gl gc :: undef :: Value.slice ba bn bc :: undef :: Value.slice (some ⟨gb, 0, none⟩) 4 4 :: undef :: Value.slice ba bn bc :: undef :: undef :: undef :: Value.int .i64 0 :: f73 :: f74 :: f75 :: f76 :: f77 :: f78 :: f79 :: f80 :: f81 :: f82 :: f83 :: f84 :: f85 :: f86 :: f87 :: f88 :: f89 :: f90 :: f91 :: f92 :: f93 :: f94 :: f95 :: f96 :: f97 :: f98 :: f99 :: f100 :: f101 :: f102 :: f103 :: f104 :: f105 :: f106 :: f107 :: f108 :: f109 :: f110 :: f111 :: f112 :: f113 :: List.nil).toArray, []⟩ u := by
      intro u xu gb bB lB
      exact tailD_two (r1 := [11, 13, 15, 17, 18, 19]) (r2 := [9, 11, 13, 17, 18, 19]) 9 15 _ _ (by kernel_rfl) rfl rfl rfl rfl (fun u3 x3 hc3 => by
        have K2 := hc3.trans (((Ext.refl u3).alloc #[] 5).calm _)
        have xa := x3.trans ((Ext.refl u3).alloc #[] 5)
        refine gives_value (u' := u3.alloc (.cells #[] 5)) (v := .slice (some ⟨u3.heap.size, 0, none⟩) 0 0) (by simp [go_sem]) ⟨K2, fun _ => K2, ?_⟩
        exact H11 _ (xu.trans xa) _ _ (bB.ext xa) lB) (fun u3 x3 hc3 => by
        obtain ⟨w', h1, hk2, h3⟩ := run_convert_const (w := u3) 29 5 #[.int .u8 65, .int .u8 90, .int .u8 8, .int .u8 8] gb 4 4 Try.underlying29 Try.underlying5 (bB.ext x3)
        have hcA : Calm [] w w' := hc3.new_trans hk2 (fun g hg => .inl (by rw [List.mem_singleton.1 hg]; exact lB))
        refine gives_value (u' := w') (v := .slice (some ⟨gb, 0, none⟩) 4 4) (by simp [go_sem, h1]) ⟨hcA, fun _ => hcA, ?_⟩
        exact H02 _ hcA.ext _ (Nat.lt_of_lt_of_le (bB.ext x3).lt hk2.size) (fun j y h => by rw [Nat.zero_add, h3]; exact az_get j y h) lB)
    have H30 : ∀ (u : World), Ext w u → ∀ (ga : Nat), ∀ (v63 : Value), ∀ (v65 : Value), Own u w.heap.size v65 (good ++ lb) → tailD Try.prog (opsOf (regionOf Try.f3 10)) 20 [] [] w (fun A u => Q .normal A u) 5 [14, 15, 17, 18, 19] ⟨(f0 :: Value.slice ba bn bc :: f2 :: f3 :: Value.int .u16 cut :: f5 :: f6 :: f7 :: f8 :: f9 :: f10 :: Value.slice (some ⟨gg, 0, none⟩) gl gc :: f12 :: Value.slice (some ⟨gt, 0, none⟩) tl tc :: f14 :: f15 :: f16 :: f17 :: f18 :: f19 :: f20 :: f21 :: f22 :: f23 :: f24 :: f25 :: f26 :: f27 :: f28 :: f29 :: f30 :: f31 :: f32 :: f33 :: f34 :: f35 :: f36 :: f37 :: f38 :: f39 :: f40 :: f41 :: f42 :: f43 :: f44 :: f45 :: f46 :: f47 :: f48 :: f49 :: f50 :: f51 :: Value.slice ba bn bc :: Value.slice (some ⟨gt, 0, none⟩) tl tc :: Value.slice (some ⟨gg, 0, none⟩) gl gc :: Value.int .u16 cut :: Value.int .i64 cut :: Value.slice (some ⟨gg, 0, none⟩) gl gc :: Value.int .i64 (gl : Int) :: Value.int .i64 (cut % (gl : Int)) :: Value.slice (some ⟨gg, 0, none⟩) k gc :: Value.slice (some ⟨ga, 0, none⟩) 0 0 :: Value.slice (some ⟨gg, 0, none⟩) gl gc :: v63 :: Value.slice ba bn bc :: v65 :: undef :: undef :: Value.slice ba bn bc :: undef :: undef :: undef :: Value.int .i64 0 :: f73 :: f74 :: f75 :: f76 :: f77 :: f78 :: f79 :: f80 :: f81 :: f82 :: f83 :: f84 :: f85 :: f86 :: f87 :: f88 :: f89 :: f90 :: f91 :: f92 :: f93 :: f94 :: f95 :: f96 :: f97 :: f98 :: f99 :: f100 :: f101 :: f102 :: f103 :: f104 :: f105 :: f106 :: f107 :: f108 :: f109 :: f110 :: f111 :: f112 :: f113 :: List.nil).toArray, []⟩ u := by
      intro u xu ga v63 v65 oA
      exact tailD_one (rem' := [15, 17, 18, 19]) 14 _ (by kernel_rfl) rfl rfl (fun u3 x3 hc3 => by
        have K2 := hc3.trans (((Ext.refl u3).alloc #[.int .u8 65, .int .u8 90, .int .u8 8, .int .u8 8] 5).calm _)
        have xa := x3.trans ((Ext.refl u3).alloc #[.int .u8 65, .int .u8 90, .int .u8 8, .int .u8 8] 5)
        refine gives_value (u' := u3.alloc (.cells #[.int .u8 65, .int .u8 90, .int .u8 8, .int .u8 8] 5)) (v := .slice (some ⟨u3.heap.size, 0, none⟩) 4 4) (by simp [go_sem]) ⟨K2, fun _ => K2, ?_⟩
        exact H31 _ (xu.trans xa) ga _ _ (oA.ext xa) _ (Blk.new u3 _ _) (xu.trans x3).size (fun k hk => by have := (oA.lt k hk).2; have := x3.size; omega))
    have H20 : ∀ (u : World), Ext w u → ∀ (ga : Nat), ∀ (v63 : Value), Own u w.heap.size v63 good → tailD Try.prog (opsOf (regionOf Try.f3 10)) 20 [] [] w (fun A u => Q .normal A u) 6 [13, 14, 15, 17, 18, 19] ⟨(f0 :: Value.slice ba bn bc :: f2 :: f3 :: Value.int .u16 cut :: f5 :: f6 :: f7 :: f8 :: f9 :: f10 :: Value.slice (some ⟨gg, 0, none⟩) gl gc :: f12 :: Value.slice (some ⟨gt, 0, none⟩) tl tc :: f14 :: f15 :: f16 :: f17 :: f18 :: f19 :: f20 :: f21 :: f22 :: f23 :: f24 :: f25 :: f26 :: f27 :: f28 :: f29 :: f30 :: f31 :: f32 :: f33 :: f34 :: f35 :: f36 :: f37 :: f38 :: f39 :: f40 :: f41 :: f42 :: f43 :: f44 :: f45 :: f46 :: f47 :: f48 :: f49 :: f50 :: f51 :: Value.slice ba bn bc :: Value.slice (some ⟨gt, 0, none⟩) tl tc :: Value.slice (some ⟨gg, 0, none⟩) gl gc :: Value.int .u16 cut :: Value.int .i64 cut :: Value.slice (some ⟨gg, 0, none⟩) gl gc :: Value.int .i64 (gl : Int) :: Value.int .i64 (cut % (gl : Int)) :: Value.slice (some ⟨gg, 0, none⟩) k gc :: Value.slice (some ⟨ga, 0, none⟩) 0 0 :: Value.slice (some ⟨gg, 0, none⟩) gl gc :: v63 :: Value.slice ba bn bc :: undef :: undef :: undef :: Value.slice ba bn bc :: undef :: undef :: undef :: Value.int .i64 0 :: f73 :: f74 :: f75 :: f76 :: f77 :: f78 :: f79 :: f80 :: f81 :: f82 :: f83 :: f84 :: f85 :: f86 :: f87 :: f88 :: f89 :: f90 :: f91 :: f92 :: f93 :: f94 :: f95 :: f96 :: f97 :: f98 :: f99 :: f100 :: f101 :: f102 :: f103 :: f104 :: f105 :: f106 :: f107 :: f108 :: f109 :: f110 :: f111 :: f112 :: f113 :: List.nil).toArray, []⟩ u := by
      intro u xu ga v63 oA
      exact tailD_two (r1 := [14, 15, 17, 18, 19]) (r2 := [13, 15, 17, 18, 19]) 13 14 _ _ (by kernel_rfl) rfl rfl rfl rfl (fun u3 x3 hc3 => by
        have x03 := xu.trans x3
        obtain ⟨v', w', h1, h2, h3, h4⟩ := run_append_arr (w := u3) 29 w.heap.size v63 good (oA.ext x3) (.slice ba bn bc) lb (hlb.ext x03) (by omega) x03.size
        have hcA : Calm [] w w' := hc3.new_trans h3 (fun g hg => .inl (oA.lt g (Option.mem_toList.1 hg)).1)
        refine gives_append_run rfl rfl rfl h1 ⟨hcA, fun _ => hcA, ?_⟩
        exact H30 _ hcA.ext ga _ _ h2) (fun u3 x3 hc3 => by
        have K2 := hc3.trans (((Ext.refl u3).alloc #[.int .u8 65, .int .u8 90, .int .u8 8, .int .u8 8] 5).calm _)
        have xa := x3.trans ((Ext.refl u3).alloc #[.int .u8 65, .int .u8 90, .int .u8 8, .int .u8 8] 5)
        refine gives_value (u' := u3.alloc (.cells #[.int .u8 65, .int .u8 90, .int .u8 8, .int .u8 8] 5)) (v := .slice (some ⟨u3.heap.size, 0, none⟩) 4 4) (by simp [go_sem]) ⟨K2, fun _ => K2, ?_⟩
        exact H21 _ (xu.trans xa) ga _ (oA.ext xa) _ (Blk.new u3 _ _) (xu.trans x3).size (fun k hk => by have := (oA.lt k hk).2; have := x3.size; omega))
    have H10 : ∀ (u : World), Ext w u → ∀ (ga : Nat), tailD Try.prog (opsOf (regionOf Try.f3 10)) 20 [] [] w (fun A u => Q .normal A u) 7 [11, 13, 14, 15, 17, 18, 19] ⟨(f0 :: Value.slice ba bn bc :: f2 :: f3 :: Value.int .u16 cut :: f5 :: f6 :: f7 :: f8 :: f9 :: f10 :: Value.slice (some ⟨gg, 0, none⟩) gl gc :: f12 :: Value.slice (some ⟨gt, 0, none⟩) tl tc :: f14 :: f15 :: f16 :: f17 :: f18 :: f19 :: f20 :: f21 :: f22 :: f23 :: f24 :: f25 :: f26 :: f27 :: f28 :: f29 :: f30 :: f31 :: f32 :: f33 :: f34 :: f35 :: f36 :: f37 :: f38 :: f39 :: f40 :: f41 :: f42 :: f43 :: f44 :: f45 :: f46 :: f47 :: f48 :: f49 :: f50 :: f51 :: Value.slice ba bn bc :: Value.slice (some ⟨gt, 0, none⟩) tl tc :: Value.slice (some ⟨gg, 0, none⟩) gl gc :: Value.int .u16 cut :: Value.int .i64 cut :: Value.slice (some ⟨gg, 0, none⟩) gl gc :: Value.int .i64 (gl : Int) :: Value.int .i64 (cut % (gl : Int)) :: Value.slice (some ⟨gg, 0, none⟩) k gc :: Value.slice (some ⟨ga, 0, none⟩) 0 0 :: Value.slice (some ⟨gg, 0, none⟩) gl gc :: undef :: Value.slice ba bn bc :: undef :: undef :: undef :: Value.slice ba bn bc :: undef :: undef :: undef :: Value.int .i64 0 :: f73 :: f74 :: f75 :: f76 :: f77 :: f78 :: f79 :: f80 :: f81 :: f82 :: f83 :: f84 :: f85 :: f86 :: f87 :: f88 :: f89 :: f90 :: f91 :: f92 :: f93 :: f94 :: f95 :: f96 :: f97 :: f98 :: f99 :: f100 :: f101 :: f102 :: f103 :: f104 :: f105 :: f106 :: f107 :: f108 :: f109 :: f110 :: f111 :: f112 :: f113 :: List.nil).toArray, []⟩ u := by
      intro u xu ga
      exact tailD_two (r1 := [13, 14, 15, 17, 18, 19]) (r2 := [11, 13, 15, 17, 18, 19]) 11 14 _ _ (by kernel_rfl) rfl rfl rfl rfl (fun u3 x3 hc3 => by
        have x03 := xu.trans x3
        obtain ⟨v', w', h1, h2, h3, h4⟩ := run_append_const (w := u3) 29 w.heap.size ga 0 [] (fun j y h => by simp at h) 0 gg gc good (fun j y h => x03.old (hgood j y h)) (by simp; omega) (by simp; omega) x03.size
        rw [← HGL.out] at h1
        have xa := x3.trans h3
        refine gives_append_run rfl rfl rfl h1 ⟨hc3.trans (h3.calm _), fun _ => hc3.trans (h3.calm _), ?_⟩
        have hz3 := x3.size
        exact H20 _ (xu.trans xa) ga _ h2) (fun u3 x3 hc3 => by
        have K2 := hc3.trans (((Ext.refl u3).alloc #[.int .u8 65, .int .u8 90, .int .u8 8, .int .u8 8] 5).calm _)
        have xa := x3.trans ((Ext.refl u3).alloc #[.int .u8 65, .int .u8 90, .int .u8 8, .int .u8 8] 5)
        refine gives_value (u' := u3.alloc (.cells #[.int .u8 65, .int .u8 90, .int .u8 8, .int .u8 8] 5)) (v := .slice (some ⟨u3.heap.size, 0, none⟩) 4 4) (by simp [go_sem]) ⟨K2, fun _ => K2, ?_⟩
        exact H11 _ (xu.trans xa) ga _ (Blk.new u3 _ _) (xu.trans x3).size)
    change tailD Try.prog (opsOf (regionOf Try.f3 10)) 20 _ _ _ _ 8 [9, 11, 13, 14, 15, 17, 18, 19] ⟨(f0 :: Value.slice ba bn bc :: f2 :: f3 :: Value.int .u16 cut :: f5 :: f6 :: f7 :: f8 :: f9 :: f10 :: Value.slice (some ⟨gg, 0, none⟩) gl gc :: f12 :: Value.slice (some ⟨gt, 0, none⟩) tl tc :: f14 :: f15 :: f16 :: f17 :: f18 :: f19 :: f20 :: f21 :: f22 :: f23 :: f24 :: f25 :: f26 :: f27 :: f28 :: f29 :: f30 :: f31 :: f32 :: f33 :: f34 :: f35 :: f36 :: f37 :: f38 :: f39 :: f40 :: f41 :: f42 :: f43 :: f44 :: f45 :: f46 :: f47 :: f48 :: f49 :: f50 :: f51 :: Value.slice ba bn bc :: Value.slice (some ⟨gt, 0, none⟩) tl tc :: Value.slice (some ⟨gg, 0, none⟩) gl gc :: Value.int .u16 cut :: Value.int .i64 cut :: Value.slice (some ⟨gg, 0, none⟩) gl gc :: Value.int .i64 (gl : Int) :: Value.int .i64 (cut % (gl : Int)) :: Value.slice (some ⟨gg, 0, none⟩) k gc :: undef :: Value.slice (some ⟨gg, 0, none⟩) gl gc :: undef :: Value.slice ba bn bc :: undef :: undef :: undef :: Value.slice ba bn bc :: undef :: undef :: undef :: Value.int .i64 0 :: f73 :: f74 :: f75 :: f76 :: f77 :: f78 :: f79 :: f80 :: f81 :: f82 :: f83 :: f84 :: f85 :: f86 :: f87 :: f88 :: f89 :: f90 :: f91 :: f92 :: f93 :: f94 :: f95 :: f96 :: f97 :: f98 :: f99 :: f100 :: f101 :: f102 :: f103 :: f104 :: f105 :: f106 :: f107 :: f108 :: f109 :: f110 :: f111 :: f112 :: f113 :: List.nil).toArray, []⟩ _
    have xu : Ext w w := Ext.refl w
    exact tailD_two (r1 := [11, 13, 14, 15, 17, 18, 19]) (r2 := [9, 11, 13, 15, 17, 18, 19]) 9 14 _ _ (by kernel_rfl) rfl rfl rfl rfl (fun u3 x3 hc3 => by
        have K2 := hc3.trans (((Ext.refl u3).alloc #[] 5).calm _)
        have xa := x3.trans ((Ext.refl u3).alloc #[] 5)
        refine gives_value (u' := u3.alloc (.cells #[] 5)) (v := .slice (some ⟨u3.heap.size, 0, none⟩) 0 0) (by simp [go_sem]) ⟨K2, fun _ => K2, ?_⟩
        exact H10 _ (xu.trans xa) _) (fun u3 x3 hc3 => by
        have K2 := hc3.trans (((Ext.refl u3).alloc #[.int .u8 65, .int .u8 90, .int .u8 8, .int .u8 8] 5).calm _)
        have xa := x3.trans ((Ext.refl u3).alloc #[.int .u8 65, .int .u8 90, .int .u8 8, .int .u8 8] 5)
        refine gives_value (u' := u3.alloc (.cells #[.int .u8 65, .int .u8 90, .int .u8 8, .int .u8 8] 5)) (v := .slice (some ⟨u3.heap.size, 0, none⟩) 4 4) (by simp [go_sem]) ⟨K2, fun _ => K2, ?_⟩
        exact H01 _ (xu.trans xa) _ (Blk.new u3 _ _) (xu.trans x3).size)
end Go.Proofs.Ytbbfmlehddfneaa

