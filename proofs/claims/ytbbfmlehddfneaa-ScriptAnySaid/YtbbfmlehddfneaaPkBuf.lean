/-
  DERIVED. Layer 11's law: bytes behind a variable that closures share: what 'b = append(b, ..)' comes to in regions that draw their order. · A slice of bytes that grows in a region that draws its order, before it is stored back (made by mkscrbytes.py). · An append to a literal of bytes that was converted: it moves to a new block (made by mkscrbytes.py).
-/
import Derived.Test.YtbbfmlehddfneaaPkDag
import Derived.Test.YtbbfmlehddfneaaPkWire
import Derived.Test.YtbbfmlehddfneaaPkPart
import Derived.Test.YtbbfmlehddfneaaPkTake
import Derived.Test.YtbbfmlehddfneaaPkScrB
import Derived.Test.YtbbfmlehddfneaaPkVecW
namespace Go.Proofs.Ytbbfmlehddfneaa
open Go.RowKit
set_option linter.unusedVariables false
/-- bytes of the call's own, behind the variable p -/
def Buf (w : World) (base p : Nat) (l : List Int) (F : List Nat) : Prop :=
  ∃ v, Blk w p #[v] 29 ∧ Own w base v l ∧ base ≤ p ∧ F = p :: v.ownBlock.toList ∧ ∀ k, v.ownBlock = some k → k ≠ p
theorem Buf.kept {w w' : World} {base p : Nat} {l : List Int} {F O : List Nat} (h : Buf w base p l F) (hc : Calm O w w') (hO : ∀ b ∈ F, b ∉ O) : Buf w' base p l F := by
  obtain ⟨v, B, ho, hb, rfl, hne⟩ := h
  exact ⟨v, B.calm hc (hO p (by simp)), ho.calm hc (fun k hk => hO k (by simp [hk])), hb, rfl, hne⟩
theorem Buf.ext {w w' : World} {base p : Nat} {l : List Int} {F : List Nat} (h : Buf w base p l F) (hx : Ext w w') : Buf w' base p l F := h.kept (hx.calm []) (fun b hb => by simp)
theorem Buf.lt {w : World} {base p : Nat} {l : List Int} {F : List Nat} (h : Buf w base p l F) : ∀ b ∈ F, base ≤ b ∧ b < w.heap.size := by
  obtain ⟨v, B, ho, hb, rfl, hne⟩ := h
  intro b hm
  rcases List.mem_cons.1 hm with rfl | hm
  · exact ⟨hb, B.lt⟩
  · exact ho.lt b (Option.mem_toList.1 hm)
theorem Buf.base_le {w : World} {base p : Nat} {l : List Int} {F : List Nat} (h : Buf w base p l F) : base ≤ w.heap.size := by
  obtain ⟨v, B, ho, hb, rfl, hne⟩ := h
  have := B.lt
  omega
/-- an append of all of another slice of bytes, as a marked operation -/
theorem gives_append_bytes {o : Oper} {A : Act} {u : World} {R : Value → World → Prop} (s x : Operand) (ho : o.op = .call { callee := .builtin .append, args := #[s, x], argTypes := #[29, 29] }) (base : Nat) (v : Value) (l : List Int) (hs : A.eval s = v) (hown : Own u base v l)
    (ad : Addr) (c : Nat) (m : List Int) (hx : A.eval x = .slice (some ad) m.length c) (hy : ∀ j y, m[j]? = some y → u.cell? (ad.add j) = some (.int .u8 y)) (hlen : l.length + m.length ≤ 1000000) (hbase : base ≤ u.heap.size)
    (h : ∀ v' w', Own w' base v' (l ++ m) → Calm v.ownBlock.toList u w' → (∀ k, v'.ownBlock = some k → v.ownBlock = some k ∨ k = u.heap.size) → R v' w') : Gives Try.prog o A u R := by
  obtain ⟨v', w', hr, h1, h2, h3⟩ := run_append_bytes o.type base v l hown ad c m hy hlen hbase
  refine gives_value (u' := w') (v := v') ?_ (h v' w' h1 h2 h3)
  unfold execOp
  simp only [ho, resolve, invoke, builtin, Sem.run_bind, Sem.run_pure, Result.andThen_ok, List.map_toArray, List.map_cons, List.map_nil, hs, hx, hr]
set_option maxRecDepth 100000 in
theorem info_sl8 : (Try.prog.info? 29).map (·.size) = some 1 := by kernel_rfl
/-- b is stored -/
theorem gives_store_buf {os : Oper} {A : Act} {u : World} {R : Value → World → Prop} {p : Nat} {v v0 : Value} {pp y : Operand} (hos : os.op = .store 29 pp y) (hp : A.eval pp = .pointer (some ⟨p, 0, none⟩)) (hy : A.eval y = v) (h1 : ∃ ao n c, v = .slice ao n c) (hB : Blk u p #[v0] 29)
    (h : R undef (u.setRow p #[v])) : Gives Try.prog os A u R := by
  obtain ⟨ao, n, c, rfl⟩ := h1
  have hr := run_store_row (P := Try.prog) (off := 0) hos hp hy (by simpa [Value.cells] using info_sl8) (by simp [Value.cells, Value.oneCell']) (by simp [Value.cells]) hB
  refine gives_skip hr ?_
  simpa [Value.cells] using h
theorem add_flat (g off j : Nat) : (⟨g, off, none⟩ : Addr).add j = ⟨g, off + j, none⟩ := by
  rcases Nat.eq_zero_or_pos j with h0 | h0
  · subst h0; simp [Addr.add]
  · simp [Addr.add, Nat.ne_of_gt h0]
theorem buf_two {w v6 : World} {base p : Nat} {v : Value} {l m : List Int} {g off mc : Nat} {K : Act → World → Prop} {A : Act} {oa os : Oper} {t : Tmp} {s x pp : Operand}
    (hB : Blk w p #[v] 29) (hO : Own w base v l) (hbp : base ≤ p) (hne : ∀ k, v.ownBlock = some k → k ≠ p) (hx6 : Ext w v6)
    (hm : ∀ j y, m[j]? = some y → v6.cell? ⟨g, off + j, none⟩ = some (.int .u8 y)) (hlen : l.length + m.length ≤ 1000000)
    (hoa : oa.op = .call { callee := .builtin .append, args := #[s, x], argTypes := #[29, 29] }) (hda : oa.dst = some t) (hos : os.op = .store 29 pp (.tmp t)) (hds : os.dst = none)
    (hs : A.eval s = v) (hx : A.eval x = .slice (some ⟨g, off, none⟩) m.length mc) (hp : ∀ v', (A.put (some t) v').eval pp = .pointer (some ⟨p, 0, none⟩)) (ht : ∀ v', (A.put (some t) v').eval (.tmp t) = v')
    (hK : ∀ v' u', Buf u' base p (l ++ m) (p :: v'.ownBlock.toList) → Step (p :: v.ownBlock.toList) (p :: v'.ownBlock.toList) w u' → K (A.put (some t) v') u') :
    tailL Try.prog v.ownBlock.toList (p :: v.ownBlock.toList) w K [oa, os] A v6 := by
  intro u2 x2 hc2
  have x02 := hx6.trans x2
  have hz := x02.size
  have hpl := hB.lt
  have nb : p ∉ v.ownBlock.toList := fun h => hne p (Option.mem_toList.1 h) rfl
  refine gives_append_bytes s x hoa base v l hs (hO.ext x02) ⟨g, off, none⟩ mc m hx (fun j y h => (by rw [add_flat]; exact x2.old (hm j y h))) hlen (by omega) ?_
  intro v' w4 o4 A4 hk4
  have K4 := hc2.trans A4
  rw [hda]
  refine ⟨K4.sub (fun b hb => List.mem_cons_of_mem _ hb), fun _ => K4, fun u5 x5 hc5 => ?_⟩
  have hne' : ∀ k, v'.ownBlock = some k → k ≠ p := fun k hk => by
    rcases hk4 k hk with h | h
    · exact hne k h
    · omega
  have hcal : Calm (p :: v.ownBlock.toList) w (u5.setRow p #[v']) := (hc5.sub (fun b hb => List.mem_cons_of_mem _ hb)).setRow (.inr (by simp)) _
  refine gives_store_buf hos (hp v') (ht v') (by obtain ⟨ao, c, e, -, -⟩ := o4.slice; exact ⟨ao, _, c, e⟩) (hB.calm hc5 nb) ⟨hcal, fun h => absurd rfl h, fun u6 x6 hc6 => ?_⟩
  rw [hds]
  refine hK v' u6 ⟨v', ((hB.calm hc5 nb).setRow _).ext x6, ((o4.ext x5).calm (calm_setRow u5 p #[v']) (fun k hk hin => hne' k hk (List.mem_singleton.1 hin))).ext x6, hbp, rfl, hne'⟩ ⟨hc6, fun b hb => ?_⟩
  rcases List.mem_cons.1 hb with h | h
  · exact .inl (by simp [h])
  · rcases hk4 b (Option.mem_toList.1 h) with h1 | h1
    · exact .inl (by simp [h1])
    · exact .inr (by omega)
end Go.Proofs.Ytbbfmlehddfneaa

namespace Go.Proofs.Ytbbfmlehddfneaa
open Go.RowKit
set_option linter.unusedVariables false
/-- the slice v, read at w, has grown to v1 -/
structure Cur (w : World) (base : Nat) (v : Value) (u : World) (v1 : Value) (l : List Int) : Prop where
  calm : Calm v.ownBlock.toList w u
  own : Own u base v1 l
  heir : ∀ k, v1.ownBlock = some k → v.ownBlock = some k ∨ w.heap.size ≤ k
theorem Cur.ext {w u u' : World} {base : Nat} {v v1 : Value} {l : List Int} (h : Cur w base v u v1 l) (x : Ext u u') : Cur w base v u' v1 l := ⟨h.calm.trans (x.calm _), h.own.ext x, h.heir⟩
theorem Cur.start {w u : World} {base : Nat} {v : Value} {l : List Int} (h : Own w base v l) (x : Ext w u) : Cur w base v u v l := ⟨x.calm _, h.ext x, fun k hk => .inl hk⟩
theorem gives_app {w u : World} {base : Nat} {v v1 : Value} {l m : List Int} {oa : Oper} {A : Act} {R : Value → World → Prop} {s x : Operand} {g off mc : Nat} (hC : Cur w base v u v1 l) (hb : base ≤ w.heap.size)
    (hoa : oa.op = .call { callee := .builtin .append, args := #[s, x], argTypes := #[29, 29] }) (hs : A.eval s = v1) (hx : A.eval x = .slice (some ⟨g, off, none⟩) m.length mc)
    (hm : ∀ j y, m[j]? = some y → u.cell? ⟨g, off + j, none⟩ = some (.int .u8 y)) (hlen : l.length + m.length ≤ 1000000)
    (h : ∀ v' w', Cur w base v w' v' (l ++ m) → Calm v1.ownBlock.toList u w' → (∀ k, v'.ownBlock = some k → v1.ownBlock = some k ∨ k = u.heap.size) → R v' w') : Gives Try.prog oa A u R := by
  have hz := hC.calm.size
  refine gives_append_bytes s x hoa base v1 l hs hC.own ⟨g, off, none⟩ mc m hx (fun j y h => (by rw [add_flat]; exact hm j y h)) hlen (by omega) ?_
  intro v' w' o' c' k'
  refine h v' w' ⟨hC.calm.new_trans c' (fun b hb => ?_), o', fun k hk => ?_⟩ c' k'
  · rcases hC.heir b (Option.mem_toList.1 hb) with h | h
    · exact .inr (Option.mem_toList.2 h)
    · exact .inl h
  · rcases k' k hk with h | h
    · exact hC.heir k h
    · exact .inr (by omega)
/-- a literal next to a slice that grows -/
structure LitB (u : World) (g : Nat) (z : Array Value) (v1 : Value) : Prop where
  blk : Blk u g z 5
  ne : ∀ k, v1.ownBlock = some k → k ≠ g
theorem LitB.ext {u u' : World} {g : Nat} {z : Array Value} {v1 : Value} (h : LitB u g z v1) (x : Ext u u') : LitB u' g z v1 := ⟨h.blk.ext x, h.ne⟩
theorem LitB.app {u u' : World} {g : Nat} {z : Array Value} {v1 v' : Value} (h : LitB u g z v1) (c : Calm v1.ownBlock.toList u u') (k : ∀ k, v'.ownBlock = some k → v1.ownBlock = some k ∨ k = u.heap.size) : LitB u' g z v' :=
  ⟨h.blk.calm c (fun hin => h.ne g (Option.mem_toList.1 hin) rfl), fun j hj => by
    have := h.blk.lt
    rcases k j hj with h1 | h1
    · exact h.ne j h1
    · omega⟩
theorem LitB.new {w u : World} {base : Nat} {v v1 : Value} {l : List Int} (hC : Cur w base v u v1 l) (z : Array Value) : LitB (u.alloc (.cells z 5)) u.heap.size z v1 :=
  ⟨Blk.new u z _, fun k hk => by have := (hC.own.lt k hk).2; omega⟩
def opsOf (c : Code) : List Oper := match c with | .region _ o _ => o.toList | _ => []
theorem tailL_app {w u : World} {base p : Nat} {v v1 : Value} {l m : List Int} {oa : Oper} {r : List Oper} {K : Act → World → Prop} {A : Act} {s x : Operand} {t : Tmp} {g off mc : Nat} (hC : Cur w base v u v1 l) (hb : base ≤ w.heap.size)
    (hoa : oa.op = .call { callee := .builtin .append, args := #[s, x], argTypes := #[29, 29] }) (hda : oa.dst = some t) (hs : A.eval s = v1) (hx : A.eval x = .slice (some ⟨g, off, none⟩) m.length mc)
    (hm : ∀ j y, m[j]? = some y → u.cell? ⟨g, off + j, none⟩ = some (.int .u8 y)) (hlen : l.length + m.length ≤ 1000000)
    (h : ∀ v' w', Cur w base v w' v' (l ++ m) → tailL Try.prog v.ownBlock.toList (p :: v.ownBlock.toList) w K r (A.put (some t) v') w') : tailL Try.prog v.ownBlock.toList (p :: v.ownBlock.toList) w K (oa :: r) A u := by
  intro u2 x2 hc2
  rw [hda]
  exact gives_app (hC.ext x2) hb hoa hs hx (fun j y h => x2.old (hm j y h)) hlen fun v' w' hC' _ _ => ⟨hC'.calm.sub (fun b hb => List.mem_cons_of_mem _ hb), fun _ => hC'.calm, h v' w' hC'⟩
theorem gives_st {w u : World} {base p : Nat} {v v1 : Value} {l : List Int} {os : Oper} {A : Act} {R : Value → World → Prop} {pp y : Operand} (hB : Blk w p #[v] 29) (hbp : base ≤ p) (hne : ∀ k, v.ownBlock = some k → k ≠ p) (hC : Cur w base v u v1 l)
    (hos : os.op = .store 29 pp y) (hp : A.eval pp = .pointer (some ⟨p, 0, none⟩)) (hy : A.eval y = v1)
    (h : Calm (p :: v.ownBlock.toList) w (u.setRow p #[v1]) → (∀ u', Ext (u.setRow p #[v1]) u' → Buf u' base p l (p :: v1.ownBlock.toList) ∧ Step (p :: v.ownBlock.toList) (p :: v1.ownBlock.toList) w u') → R undef (u.setRow p #[v1])) : Gives Try.prog os A u R := by
  have nb : p ∉ v.ownBlock.toList := fun h => hne p (Option.mem_toList.1 h) rfl
  have hpl := hB.lt
  have hne' : ∀ k, v1.ownBlock = some k → k ≠ p := fun k hk => by
    rcases hC.heir k hk with h | h
    · exact hne k h
    · omega
  have hcal : Calm (p :: v.ownBlock.toList) w (u.setRow p #[v1]) := (hC.calm.sub (fun b hb => List.mem_cons_of_mem _ hb)).setRow (.inr (by simp)) _
  refine gives_store_buf hos hp hy (by obtain ⟨ao, c, e, -, -⟩ := hC.own.slice; exact ⟨ao, _, c, e⟩) (hB.calm hC.calm nb) (h hcal fun u' x' => ⟨⟨v1, ((hB.calm hC.calm nb).setRow _).ext x', ((hC.own).calm (calm_setRow u p #[v1]) (fun k hk hin => hne' k hk (List.mem_singleton.1 hin))).ext x', hbp, rfl, hne'⟩, hcal.trans (x'.calm _), fun b hb => ?_⟩)
  rcases List.mem_cons.1 hb with h | h
  · exact .inl (by simp [h])
  · rcases hC.heir b (Option.mem_toList.1 h) with h1 | h1
    · exact .inl (by simp [h1])
    · exact .inr h1
theorem tailL_st {w u : World} {base p : Nat} {v v1 : Value} {l : List Int} {os : Oper} {K : Act → World → Prop} {A : Act} {pp y : Operand} (hB : Blk w p #[v] 29) (hbp : base ≤ p) (hne : ∀ k, v.ownBlock = some k → k ≠ p) (hC : Cur w base v u v1 l)
    (hos : os.op = .store 29 pp y) (hds : os.dst = none) (hp : A.eval pp = .pointer (some ⟨p, 0, none⟩)) (hy : A.eval y = v1)
    (hK : ∀ u', Buf u' base p l (p :: v1.ownBlock.toList) → Step (p :: v.ownBlock.toList) (p :: v1.ownBlock.toList) w u' → K A u') : tailL Try.prog v.ownBlock.toList (p :: v.ownBlock.toList) w K [os] A u := by
  intro u2 x2 hc2
  rw [hds]
  exact gives_st hB hbp hne (hC.ext x2) hos hp hy fun hcal h => ⟨hcal, fun h => absurd rfl h, fun u' x' hc' => hK u' (h u' x').1 (h u' x').2⟩
end Go.Proofs.Ytbbfmlehddfneaa

namespace Go.Proofs.Ytbbfmlehddfneaa
open Go.RowKit
set_option linter.unusedVariables false
theorem run_append_const {w : World} (ty : TypeId) (base g cap : Nat) (l : List Int) (hl : ∀ j y, l[j]? = some y → w.cell? ⟨g, 0 + j, none⟩ = some (.int .u8 y)) (off g2 c : Nat) (m : List Int) (hm : ∀ j y, m[j]? = some y → w.cell? ⟨g2, off + j, none⟩ = some (.int .u8 y)) (hroom : cap < l.length + m.length) (hlen : l.length + m.length ≤ 1000000) (hbase : base ≤ w.heap.size) :
    ∃ v' w', (Builtin.append_ #[29, 29] ty #[.slice (some ⟨g, 0, none⟩) l.length cap, .slice (some ⟨g2, off, none⟩) m.length c]).run Try.prog w = .ok v' w' ∧ Own w' base v' (l ++ m) ∧ Ext w w' ∧ v'.ownBlock = some w.heap.size := by
  obtain ⟨i, hi, hz, h1, h2⟩ := info_parts info_u8
  have hl' : ∀ j u, (bytesV l)[j]? = some u → w.cell? ((⟨g, 0, none⟩ : Addr).add j) = some u := fun j u hu => by
    obtain ⟨y, k1, rfl⟩ := bytesV_get l j u hu
    rw [add_flat]
    exact hl j y k1
  have hm' : ∀ j u, (bytesV m)[j]? = some u → w.cell? ((⟨g2, off, none⟩ : Addr).add j) = some u := fun j u hu => by
    obtain ⟨y, k1, rfl⟩ := bytesV_get m j u hu
    rw [add_flat]
    exact hm j y k1
  have hr := run_append_grow (P := Try.prog) w 29 ty 5 i (.int .u8 0) Try.underlying29 hi hz ⟨g, 0, none⟩ l.length cap (bytesV l) (by rw [bytesV_length, h1, Nat.mul_one]) hl' ⟨g2, off, none⟩ m.length c (bytesV m) (by rw [bytesV_length, h1, Nat.mul_one]) hm' hroom (by omega) (growslice_fits (by omega) (by rw [h2]; omega))
  refine ⟨_, _, hr, ?_, ((Ext.refl w).drew).alloc _ _, rfl⟩
  have hge := grownCap_ge w (l.length + m.length) cap 5
  have hcm : grownCap w (l.length + m.length) cap 5 ≤ maxLen := grownCap_le_maxLen w (l.length + m.length) cap 5 (by simp only [maxLen]; omega)
  unfold Own
  rw [List.length_append, bytesV_append]
  refine ⟨by simp [bytesV_length], .inr ⟨w.heap.size, _, _, rfl, hbase, heap_alloc_new w.drew _, hge, hcm, ?_, ?_⟩⟩
  · simp only [Array.size_append, List.size_toArray, size_zeroCells, bytesV_length]
    have hcz : (Value.int .u8 0).cells.size = 1 := rfl
    rw [hcz]
    omega
  · simp only [Array.toList_append, List.append_assoc]
    rw [← List.append_assoc, Nat.mul_one, show l.length + m.length = (bytesV l ++ bytesV m).length by simp [bytesV_length]]
    exact List.take_left
theorem wpList_append_const {ops : Array Oper} {rest : List Oper} {o : Oper} {a : Act} {w : World} {Q : Exit → Act → World → Prop} (hgd : o.guard = none) (s x : Operand)
    (ho : o.op = .call { callee := .builtin .append, args := #[s, x], argTypes := #[29, 29] }) (base g cap : Nat) (l : List Int) (hs : a.eval s = .slice (some ⟨g, 0, none⟩) l.length cap) (hl : ∀ j y, l[j]? = some y → w.cell? ⟨g, 0 + j, none⟩ = some (.int .u8 y))
    (off g2 c : Nat) (m : List Int) (hx : a.eval x = .slice (some ⟨g2, off, none⟩) m.length c) (hm : ∀ j y, m[j]? = some y → w.cell? ⟨g2, off + j, none⟩ = some (.int .u8 y)) (hroom : cap < l.length + m.length) (hlen : l.length + m.length ≤ 1000000) (hbase : base ≤ w.heap.size)
    (h : ∀ v' w', Own w' base v' (l ++ m) → Ext w w' → v'.ownBlock = some w.heap.size → wpList Try.prog ops Q rest (a.put o.dst v') w') : wpList Try.prog ops Q (o :: rest) a w :=
  wpList_plain hgd fun K hK => by
    obtain ⟨v', w', hr, h1, h2, h3⟩ := run_append_const o.type base g cap l hl off g2 c m hm hroom hlen hbase
    unfold Oper.wp execOp
    simp only [ho, resolve, invoke, builtin, Sem.run_bind, Sem.run_pure, Result.andThen_ok, List.map_toArray, List.map_cons, List.map_nil, hs, hx, hr]
    exact hK _ _ (h v' w' h1 h2 h3)
end Go.Proofs.Ytbbfmlehddfneaa

