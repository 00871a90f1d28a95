/-
  DERIVED. Layer 6 (store): what a Device is; New; Used, Most, Room; nil receivers.
-/
import Derived.Test.YtmoihbpjcdmmbaaStoreNew
namespace Go.Proofs.Ytmoihbpjcdmmbaa
open Go.RowKit Go.Maps
set_option linter.unusedVariables false

/-- a plan that came in -/
def PlanIs (w : World) (v : Value) (full fail : List Int) (bf : Int → Option Value) : Prop :=
  ∃ vf vl mb, v = .agg #[vf, vl, .map mb] ∧ Arr w .i64 vf full ∧ Arr w .i64 vl fail ∧ full.length ≤ 1000 ∧ fail.length ≤ 1000 ∧ (mb = none ∧ bf = (fun _ => none) ∨ ∃ b s, mb = some b ∧ s ≤ 1000 ∧ Mp bendG w b bf s)
theorem PlanIs.ext {w w' : World} {v : Value} {full fail : List Int} {bf : Int → Option Value} (h : PlanIs w v full fail bf) (hx : Ext w w') : PlanIs w' v full fail bf := by
  obtain ⟨vf, vl, mb, rfl, h1, h2, h3, h4, h5⟩ := h
  refine ⟨vf, vl, mb, rfl, h1.ext hx, h2.ext hx, h3, h4, ?_⟩
  rcases h5 with h | ⟨b, s, e, hs, hm⟩
  · exact .inl h
  · exact .inr ⟨b, s, e, hs, hm.ext hx⟩
theorem PlanIs.none (w : World) : PlanIs w (.agg #[.slice none 0 0, .slice none 0 0, .map none]) [] [] (fun _ => none) :=
  ⟨_, _, _, rfl, ⟨⟨Option.none, 0, rfl, Nat.le_refl _, fun h => absurd rfl h, fun _ => rfl⟩, Nat.zero_le _, fun n hn => by cases hn⟩, ⟨⟨Option.none, 0, rfl, Nat.le_refl _, fun h => absurd rfl h, fun _ => rfl⟩, Nat.zero_le _, fun n hn => by cases hn⟩, by simp, by simp, .inl ⟨rfl, rfl⟩⟩
theorem copied_any (w : World) (v : Value) (full fail : List Int) (bf : Int → Option Value) (h : PlanIs w v full fail bf) :
    Calls Try.prog 19 #[v] w fun e w' => ∃ sf sl bb s', e = .returned (.agg #[sf, sl, .map (some bb)]) ∧ OwnI w' w.heap.size sf full ∧ OwnI w' w.heap.size sl fail ∧ Mp bendG w' bb bf s' ∧ w.heap.size ≤ bb ∧ Ext w w' := by
  obtain ⟨vf, vl, mb, rfl, h1, h2, h3, h4, h5⟩ := h
  rcases h5 with ⟨rfl, rfl⟩ | ⟨b, s, rfl, hs, hm⟩
  · exact copied_nil w vf vl full fail h1 h2 h3 h4
  · exact copied_map w vf vl full fail b s bf h1 h2 h3 h4 hm hs

/-- bytes with their sum -/
def putL (l : List Int) : List Int := l ++ sum4 (bN (crcSum l))
/-- what a device knows -/
structure DSt where
  full : List Int
  fail : List Int
  bends : Int → Option Value
  bl : Int → Option (List Int)
  s : Nat
  room : Nat
  last : Nat
  puts : Nat
  takes : Nat
  most : Nat
/-- bd is a device: its own blocks are F, what it only reads lies in R -/
structure DevAt (w : World) (F R : List Nat) (bd bm : Nat) (sf sl : Value) (bb : Nat) (fm : Int → Option Value) (st : DSt) : Prop where
  cells : Blk w bd #[sf, sl, .map (some bb), .map (some bm), .int .i64 st.room, .int .i64 st.last, .int .i64 st.puts, .int .i64 st.takes, .int .i64 st.most] 57
  full : OwnI w 0 sf st.full
  fail : OwnI w 0 sl st.fail
  fullw : st.full.length ≤ 1000 ∧ ∀ y ∈ st.full, (Lit.int .i64 y).wf = true
  failw : st.fail.length ≤ 1000 ∧ ∀ y ∈ st.fail, (Lit.int .i64 y).wf = true
  bends : ∃ s', Mp bendG w bb st.bends s'
  map : Mp anyV w bm fm st.s
  rows : ∀ x v, (Lit.int .i64 x).wf = true → fm x = some v → ∃ l, st.bl x = some l ∧ l.length = 64 ∧ (∀ y ∈ l, 0 ≤ y ∧ y ≤ 255) ∧ Own w 0 v (putL l) ∧ ∀ k, v.ownBlock = some k → k ∈ F ∧ k ≠ bd ∧ k ≠ bm
  non : ∀ x, (Lit.int .i64 x).wf = true → fm x = none → st.bl x = none
  apart : ∀ x y v u, (Lit.int .i64 x).wf = true → (Lit.int .i64 y).wf = true → x ≠ y → fm x = some v → fm y = some u → ∀ k, v.ownBlock = some k → u.ownBlock ≠ some k
  inF : bd ∈ F ∧ bm ∈ F ∧ bm ≠ bd
  inR : bb ∈ R ∧ (∀ k, sf.ownBlock = some k → k ∈ R) ∧ ∀ k, sl.ownBlock = some k → k ∈ R
  disj : ∀ k ∈ R, k ∉ F
  lt : (∀ k ∈ F, k < w.heap.size) ∧ ∀ k ∈ R, k < w.heap.size
  bd : st.room ≤ 4096 ∧ st.s ≤ st.room ∧ st.most ≤ 4096
def Dev (w : World) (F R : List Nat) (bd : Nat) (st : DSt) : Prop := ∃ bm sf sl bb fm, DevAt w F R bd bm sf sl bb fm st

theorem Dev.calm {w w' : World} {O F R : List Nat} {bd : Nat} {st : DSt} (h : Dev w F R bd st) (hc : Calm O w w') (hO : ∀ k ∈ O, k < w.heap.size → k ∉ F ∧ k ∉ R) : Dev w' F R bd st := by
  obtain ⟨bm, sf, sl, bb, fm, h⟩ := h
  have hF : ∀ k ∈ F, w'.heap[k]? = w.heap[k]? := fun k hk => hc.block k (h.lt.1 k hk) fun ho => (hO k ho (h.lt.1 k hk)).1 hk
  have hR : ∀ k ∈ R, w'.heap[k]? = w.heap[k]? := fun k hk => hc.block k (h.lt.2 k hk) fun ho => (hO k ho (h.lt.2 k hk)).2 hk
  obtain ⟨s', hb⟩ := h.bends
  refine ⟨bm, sf, sl, bb, fm, ⟨(hF bd h.inF.1).trans h.cells, h.full.kept fun k hk => hR k (h.inR.2.1 k hk), h.fail.kept fun k hk => hR k (h.inR.2.2 k hk), h.fullw, h.failw, ⟨s', hb.kept (hR bb h.inR.1)⟩, h.map.kept (hF bm h.inF.2.1), fun x v hx hv => ?_, h.non, h.apart, h.inF, h.inR, h.disj, ⟨fun k hk => Nat.lt_of_lt_of_le (h.lt.1 k hk) hc.size, fun k hk => Nat.lt_of_lt_of_le (h.lt.2 k hk) hc.size⟩, h.bd⟩⟩
  obtain ⟨l, h1, h2, h3, h4, h5⟩ := h.rows x v hx hv
  exact ⟨l, h1, h2, h3, h4.kept fun k hk => hF k (h5 k hk).1, h5⟩
theorem Dev.ext {w w' : World} {F R : List Nat} {bd : Nat} {st : DSt} (h : Dev w F R bd st) (hx : Ext w w') : Dev w' F R bd st := h.calm (hx.calm []) (by simp)
theorem Dev.lt {w : World} {F R : List Nat} {bd : Nat} {st : DSt} (h : Dev w F R bd st) : (∀ k ∈ F, k < w.heap.size) ∧ ∀ k ∈ R, k < w.heap.size := by
  obtain ⟨bm, sf, sl, bb, fm, h⟩ := h
  exact h.lt

set_option maxRecDepth 100000 in
set_option maxHeartbeats 4000000 in
theorem new_any (w : World) (room : Int) (hr : -9223372036854775808 ≤ room ∧ room ≤ 9223372036854775807) (v : Value) (full fail : List Int) (bf : Int → Option Value) (h : PlanIs w v full fail bf) :
    Calls Try.prog 8 #[.int .i64 room, v] w fun e w' => ∃ bd F R, e = .returned (.pointer (some ⟨bd, 0, none⟩)) ∧ Dev w' F R bd ⟨full, fail, bf, fun _ => none, 0, (min (max room 0) 4096).toNat, 0, 0, 0, 0⟩ ∧ Ext w w' ∧ (∀ k ∈ F, w.heap.size ≤ k) ∧ ∀ k ∈ R, w.heap.size ≤ k := by
  have hmm := @run_makeMap Try.prog
  have hmx := maxI_fold
  have hmn := minI_fold
  have hP := h
  obtain ⟨vf, vl, mb, rfl, h1, h2, h3, h4, h5⟩ := h
  have w1f := h1.wf
  have w2f := h2.wf
  obtain ⟨⟨af, cf, rfl, -, -, -⟩, -, -⟩ := h1
  obtain ⟨⟨al, cl, rfl, -, -, -⟩, -, -⟩ := h2
  clear h5
  have hP1 := hP.ext ((Ext.refl w).alloc #[.slice af full.length cf, .slice al fail.length cl, .map mb] 29)
  go_enter Try.func8, Try.ntmps8
  go_wp2_with fail
  refine (copied_any _ _ full fail bf hP1).mono ?_
  rintro e w1 ⟨sf, sl, bb, s', rfl, o1, o2, m1, hbb, x1⟩
  obtain ⟨sa, sc, rfl, -, -⟩ := o1.slice
  obtain ⟨ta, tc, rfl, -, -⟩ := o2.slice
  have E1 := ((Ext.refl w).alloc #[.slice af full.length cf, .slice al fail.length cl, .map mb] 29).trans x1
  clear hP hP1
  go_wp2
  have hrm : minI (maxI room 0) 4096 = ((min (max room 0) 4096).toNat : Int) := by rw [maxI_eq, minI_eq]; omega
  have hr4 : (min (max room 0) 4096).toNat ≤ 4096 := by omega
  rw [hrm]
  generalize (min (max room 0) 4096).toNat = rm at *
  have W : ∀ o, Ext w1 (w1.alloc o) := fun o => ⟨(Below.refl _ w1).alloc (Nat.le_refl _) _⟩
  have M := (Mp.made anyV w1).ext ((Ext.refl _).alloc #[.slice sa full.length sc, .slice ta fail.length tc, .map (some bb), .map (some w1.heap.size), .int .i64 rm, .int .i64 0, .int .i64 0, .int .i64 0, .int .i64 0] 57)
  have B := Blk.new (w1.alloc (.map #[] 0)) #[.slice sa full.length sc, .slice ta fail.length tc, .map (some bb), .map (some w1.heap.size), .int .i64 rm, .int .i64 0, .int .i64 0, .int .i64 0, .int .i64 0] 57
  have E2 := (W (.map #[] 0)).alloc #[.slice sa full.length sc, .slice ta fail.length tc, .map (some bb), .map (some w1.heap.size), .int .i64 rm, .int .i64 0, .int .i64 0, .int .i64 0, .int .i64 0] 57
  have hsz : ((w1.alloc (.map #[] 0)).alloc (.cells #[.slice sa full.length sc, .slice ta fail.length tc, .map (some bb), .map (some w1.heap.size), .int .i64 rm, .int .i64 0, .int .i64 0, .int .i64 0, .int .i64 0] 57)).heap.size = w1.heap.size + 2 := by simp
  have hsz1 : (w1.alloc (.map #[] 0)).heap.size = w1.heap.size + 1 := by simp
  have hw0 : (w.alloc (.cells #[.slice af full.length cf, .slice al fail.length cl, .map mb] 29)).heap.size = w.heap.size + 1 := by simp
  rw [hsz1] at B
  rw [hw0] at o1 o2 hbb
  have z1 := E1.size
  have hm1 := m1.lt
  have q1 := o1.lt
  have q2 := o2.lt
  generalize (w1.alloc (.map #[] 0)).alloc (.cells #[.slice sa full.length sc, .slice ta fail.length tc, .map (some bb), .map (some w1.heap.size), .int .i64 rm, .int .i64 0, .int .i64 0, .int .i64 0, .int .i64 0] 57) = w2 at *
  have hin : ∀ k ∈ bb :: ((Value.slice sa full.length sc).ownBlock.toList ++ (Value.slice ta fail.length tc).ownBlock.toList), w.heap.size ≤ k ∧ k < w1.heap.size := by
    intro k hk
    rcases List.mem_cons.1 hk with h | h
    · omega
    · rcases List.mem_append.1 h with h | h
      · have := q1 k (Option.mem_toList.1 h); omega
      · have := q2 k (Option.mem_toList.1 h); omega
  go_ret
  refine ⟨w1.heap.size + 1, [w1.heap.size + 1, w1.heap.size], bb :: ((Value.slice sa full.length sc).ownBlock.toList ++ (Value.slice ta fail.length tc).ownBlock.toList), rfl, ⟨w1.heap.size, .slice sa full.length sc, .slice ta fail.length tc, bb, fun _ => none, ?_⟩, E1.trans E2, by simp; omega, fun k hk => (hin k hk).1⟩
  exact { cells := B, full := (o1.mono (Nat.zero_le _)).ext E2, fail := (o2.mono (Nat.zero_le _)).ext E2, fullw := ⟨h3, w1f⟩, failw := ⟨h4, w2f⟩, bends := ⟨s', m1.ext E2⟩, map := M, rows := (fun x v _ h => by cases h), non := fun _ _ _ => rfl, apart := (fun x y v u _ _ _ h => by cases h), inF := ⟨by simp, by simp, by simp⟩, inR := ⟨by simp, fun k hk => by simp [hk], fun k hk => by simp [hk]⟩, disj := fun k hk => by have := (hin k hk).2; simp; omega, lt := ⟨by simp; omega, fun k hk => by have := (hin k hk).2; omega⟩, bd := ⟨hr4, Nat.zero_le _, Nat.zero_le _⟩ }

set_option maxRecDepth 100000 in
theorem dev_Used (w : World) (F R : List Nat) (bd : Nat) (st : DSt) (h : Dev w F R bd st) :
    Calls Try.prog 16 #[.pointer (some ⟨bd, 0, none⟩)] w fun e w' => e = .returned (.int .i64 st.s) ∧ w = w' := by
  obtain ⟨bm, sf, sl, bb, fm, h⟩ := h
  have hc := h.cells.cell
  have hl := h.map.len 35 22 Try.underlying35
  go_enter Try.func16, Try.ntmps16
  go_wp2
  go_ret
  exact ⟨rfl, rfl⟩
set_option maxRecDepth 100000 in
theorem none_Used (w : World) : Calls Try.prog 16 #[.pointer none] w fun e w' => e = .returned (.int .i64 0) ∧ w = w' := by
  go_enter Try.func16, Try.ntmps16
  go_wp2
  go_ret
  exact ⟨rfl, rfl⟩
set_option maxRecDepth 100000 in
theorem dev_Most (w : World) (F R : List Nat) (bd : Nat) (st : DSt) (h : Dev w F R bd st) :
    Calls Try.prog 17 #[.pointer (some ⟨bd, 0, none⟩)] w fun e w' => e = .returned (.int .i64 st.most) ∧ w = w' := by
  obtain ⟨bm, sf, sl, bb, fm, h⟩ := h
  have hc := h.cells.cell
  have hl := h.map.len 35 22 Try.underlying35
  go_enter Try.func17, Try.ntmps17
  go_wp2
  go_ret
  exact ⟨rfl, rfl⟩
set_option maxRecDepth 100000 in
theorem none_Most (w : World) : Calls Try.prog 17 #[.pointer none] w fun e w' => e = .returned (.int .i64 0) ∧ w = w' := by
  go_enter Try.func17, Try.ntmps17
  go_wp2
  go_ret
  exact ⟨rfl, rfl⟩
set_option maxRecDepth 100000 in
theorem dev_Room (w : World) (F R : List Nat) (bd : Nat) (st : DSt) (h : Dev w F R bd st) :
    Calls Try.prog 18 #[.pointer (some ⟨bd, 0, none⟩)] w fun e w' => e = .returned (.int .i64 st.room) ∧ w = w' := by
  obtain ⟨bm, sf, sl, bb, fm, h⟩ := h
  have hc := h.cells.cell
  have hl := h.map.len 35 22 Try.underlying35
  go_enter Try.func18, Try.ntmps18
  go_wp2
  go_ret
  exact ⟨rfl, rfl⟩
set_option maxRecDepth 100000 in
theorem none_Room (w : World) : Calls Try.prog 18 #[.pointer none] w fun e w' => e = .returned (.int .i64 0) ∧ w = w' := by
  go_enter Try.func18, Try.ntmps18
  go_wp2
  go_ret
  exact ⟨rfl, rfl⟩
set_option maxRecDepth 100000 in
theorem none_Put (w : World) (v : Value) : Calls Try.prog 10 #[.pointer none, v] w fun e w' => e = .returned (.tuple #[.int .i64 0, .int .i64 1]) ∧ w = w' := by
  go_enter Try.func10, Try.ntmps10
  go_wp2
  exact bodyPost_ret (v := .tuple #[.int .i64 0, .int .i64 1]) (by simp [results, Try.results10]) rfl ⟨rfl, rfl⟩
set_option maxRecDepth 100000 in
theorem none_Take (w : World) (n : Int) : Calls Try.prog 12 #[.pointer none, .int .i64 n] w fun e w' => e = .returned (.tuple #[.slice none 0 0, .int .i64 1]) ∧ w = w' := by
  go_enter Try.func12, Try.ntmps12
  go_wp2
  exact bodyPost_ret (v := .tuple #[.slice none 0 0, .int .i64 1]) (by simp [results, Try.results12]) rfl ⟨rfl, rfl⟩
set_option maxRecDepth 100000 in
theorem none_Drop (w : World) (n : Int) : Calls Try.prog 15 #[.pointer none, .int .i64 n] w fun e w' => e = .returned (.int .i64 1) ∧ w = w' := by
  go_enter Try.func15, Try.ntmps15
  go_wp2
  go_ret
  exact ⟨rfl, rfl⟩
end Go.Proofs.Ytmoihbpjcdmmbaa
