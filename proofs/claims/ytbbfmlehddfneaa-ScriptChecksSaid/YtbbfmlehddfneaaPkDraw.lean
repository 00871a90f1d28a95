/-
  DERIVED. Layer 11's law: a draw that may be, by small numbers (made by mkscrdraw.py).
-/
import Derived.Test.YtbbfmlehddfneaaPkScrB
import Derived.Test.YtbbfmlehddfneaaPkSm
import Derived.Test.YtbbfmlehddfneaaPkScrA
import Derived.Test.YtbbfmlehddfneaaPkMesh
import Derived.RegionTactic
import Derived.Deep.RegionLaw
namespace Go.Proofs.Ytbbfmlehddfneaa
open Go.RowKit
set_option linter.unusedVariables false

theorem take_map_snoc (f : Int → Int) (l : List Int) (j : Nat) (h : j < l.length) : (l.take (j + 1)).map f = (l.take j).map f ++ [f (l.getD j 0)] := by
  rw [List.take_add_one, List.map_append]
  simp [List.getD, h]

set_option maxRecDepth 100000 in
set_option maxHeartbeats 4000000 in
theorem draw11_any (w : World) (d : DSm) (xs : List Int) (hok : d.ok) (hx : Arr w .u8 d.ix.v xs) (hx60 : xs.length ≤ 60) (sW sH m0 m1 m2 m3 m4 m5 m6 m7 m8 m9 m10 m11 m12 m13 m14 m15 : Int) (va sa pa da : Option Addr) (vn vc sn sc pn pc dn dc : Nat) (hv : 1 ≤ vn ∧ vn ≤ 100) (hs1 : 1 ≤ sn ∧ sn ≤ 100) (hp1 : 1 ≤ pn ∧ pn ≤ 100) :
    Calls Try.prog 16 #[.agg d.l.toArray, .agg #[.int .i64 sW, .int .i64 sH, .int .i64 m0, .int .i64 m1, .int .i64 m2, .int .i64 m3, .int .i64 m4, .int .i64 m5, .int .i64 m6, .int .i64 m7, .int .i64 m8, .int .i64 m9, .int .i64 m10, .int .i64 m11, .int .i64 m12, .int .i64 m13, .int .i64 m14, .int .i64 m15, .slice va vn vc, .slice sa sn sc, .slice pa pn pc, .slice da dn dc]] w fun e w' => ∃ m : DrM, e = .returned (.agg m.l.toArray) ∧ m.is (drawF d xs vn sn pn) ∧ OwnI w' w.heap.size m.ix.v (drawF d xs vn sn pn).idx ∧ Ext w w' := by
  obtain ⟨s, kind, vx, fr, ⟨xa, xn, xc⟩, r, g, b, a, dep, plain⟩ := d
  obtain ⟨hs, hk, hvx, hfr, hr, hg, hb, ha, hdep⟩ := hok
  simp only at hs hk hvx hfr hr hg hb ha hdep hx
  have hX := hx
  obtain ⟨⟨_, _, e, hxc, -, -⟩, hxm, -⟩ := hx
  cases e
  have B0 : Blk (w.alloc (.cells #[.int .u8 s.dep, .int .u8 s.ste, .int .u8 s.ref, .int .u8 s.msk, .int .u8 s.fai, .int .u8 s.hid, .int .u8 s.pas, .int .u8 s.ble, .int .u8 s.cha, .int .u8 s.cul, .bool s.wr, .bool s.ez, .int .u8 s.q0, .int .u8 s.q1, .int .u8 s.q2, .int .u8 s.q3, .int .u8 kind, .int .u8 vx, .int .u8 fr, .slice xa xs.length xc, .int .u8 r, .int .u8 g, .int .u8 b, .int .u8 a, .int .u16 dep, .bool plain] 79)) w.heap.size #[.int .u8 s.dep, .int .u8 s.ste, .int .u8 s.ref, .int .u8 s.msk, .int .u8 s.fai, .int .u8 s.hid, .int .u8 s.pas, .int .u8 s.ble, .int .u8 s.cha, .int .u8 s.cul, .bool s.wr, .bool s.ez, .int .u8 s.q0, .int .u8 s.q1, .int .u8 s.q2, .int .u8 s.q3, .int .u8 kind, .int .u8 vx, .int .u8 fr, .slice xa xs.length xc, .int .u8 r, .int .u8 g, .int .u8 b, .int .u8 a, .int .u16 dep, .bool plain] 79 := Blk.new w _ _
  have B1 := Blk.new' (w := w.alloc (.cells #[.int .u8 s.dep, .int .u8 s.ste, .int .u8 s.ref, .int .u8 s.msk, .int .u8 s.fai, .int .u8 s.hid, .int .u8 s.pas, .int .u8 s.ble, .int .u8 s.cha, .int .u8 s.cul, .bool s.wr, .bool s.ez, .int .u8 s.q0, .int .u8 s.q1, .int .u8 s.q2, .int .u8 s.q3, .int .u8 kind, .int .u8 vx, .int .u8 fr, .slice xa xs.length xc, .int .u8 r, .int .u8 g, .int .u8 b, .int .u8 a, .int .u16 dep, .bool plain] 79)) (b := w.heap.size + 1) (by simp) #[.int .i64 sW, .int .i64 sH, .int .i64 m0, .int .i64 m1, .int .i64 m2, .int .i64 m3, .int .i64 m4, .int .i64 m5, .int .i64 m6, .int .i64 m7, .int .i64 m8, .int .i64 m9, .int .i64 m10, .int .i64 m11, .int .i64 m12, .int .i64 m13, .int .i64 m14, .int .i64 m15, .slice va vn vc, .slice sa sn sc, .slice pa pn pc, .slice da dn dc] 42
  have B2 := Blk.new' (w := (w.alloc (.cells #[.int .u8 s.dep, .int .u8 s.ste, .int .u8 s.ref, .int .u8 s.msk, .int .u8 s.fai, .int .u8 s.hid, .int .u8 s.pas, .int .u8 s.ble, .int .u8 s.cha, .int .u8 s.cul, .bool s.wr, .bool s.ez, .int .u8 s.q0, .int .u8 s.q1, .int .u8 s.q2, .int .u8 s.q3, .int .u8 kind, .int .u8 vx, .int .u8 fr, .slice xa xs.length xc, .int .u8 r, .int .u8 g, .int .u8 b, .int .u8 a, .int .u16 dep, .bool plain] 79)).alloc (.cells #[.int .i64 sW, .int .i64 sH, .int .i64 m0, .int .i64 m1, .int .i64 m2, .int .i64 m3, .int .i64 m4, .int .i64 m5, .int .i64 m6, .int .i64 m7, .int .i64 m8, .int .i64 m9, .int .i64 m10, .int .i64 m11, .int .i64 m12, .int .i64 m13, .int .i64 m14, .int .i64 m15, .slice va vn vc, .slice sa sn sc, .slice pa pn pc, .slice da dn dc] 42)) (b := w.heap.size + 1 + 1) (by simp) #[.int .u8 0, .bool false, .int .u8 0, .int .u8 0, .int .u8 0, .int .u8 0, .int .u8 0, .int .u8 0, .int .u8 0, .int .u8 0, .int .u8 0, .int .i64 0, .int .i64 0, .int .i64 0, .int .i64 0, .bool false, .int .u8 0, .int .u8 0, .int .u8 0, .int .u8 0, .int .i64 0, .int .u8 0, .int .u8 0, .int .i64 0, .int .i64 0, .int .u8 0, .slice none 0 0] 67
  have x1 := (((Ext.refl w).alloc #[.int .u8 s.dep, .int .u8 s.ste, .int .u8 s.ref, .int .u8 s.msk, .int .u8 s.fai, .int .u8 s.hid, .int .u8 s.pas, .int .u8 s.ble, .int .u8 s.cha, .int .u8 s.cul, .bool s.wr, .bool s.ez, .int .u8 s.q0, .int .u8 s.q1, .int .u8 s.q2, .int .u8 s.q3, .int .u8 kind, .int .u8 vx, .int .u8 fr, .slice xa xs.length xc, .int .u8 r, .int .u8 g, .int .u8 b, .int .u8 a, .int .u16 dep, .bool plain] 79).alloc #[.int .i64 sW, .int .i64 sH, .int .i64 m0, .int .i64 m1, .int .i64 m2, .int .i64 m3, .int .i64 m4, .int .i64 m5, .int .i64 m6, .int .i64 m7, .int .i64 m8, .int .i64 m9, .int .i64 m10, .int .i64 m11, .int .i64 m12, .int .i64 m13, .int .i64 m14, .int .i64 m15, .slice va vn vc, .slice sa sn sc, .slice pa pn pc, .slice da dn dc] 42).alloc #[.int .u8 0, .bool false, .int .u8 0, .int .u8 0, .int .u8 0, .int .u8 0, .int .u8 0, .int .u8 0, .int .u8 0, .int .u8 0, .int .u8 0, .int .i64 0, .int .i64 0, .int .i64 0, .int .i64 0, .bool false, .int .u8 0, .int .u8 0, .int .u8 0, .int .u8 0, .int .i64 0, .int .u8 0, .int .u8 0, .int .i64 0, .int .i64 0, .int .u8 0, .slice none 0 0] 67
  have B0' := (B0.alloc (.cells #[.int .i64 sW, .int .i64 sH, .int .i64 m0, .int .i64 m1, .int .i64 m2, .int .i64 m3, .int .i64 m4, .int .i64 m5, .int .i64 m6, .int .i64 m7, .int .i64 m8, .int .i64 m9, .int .i64 m10, .int .i64 m11, .int .i64 m12, .int .i64 m13, .int .i64 m14, .int .i64 m15, .slice va vn vc, .slice sa sn sc, .slice pa pn pc, .slice da dn dc] 42)).alloc (.cells #[.int .u8 0, .bool false, .int .u8 0, .int .u8 0, .int .u8 0, .int .u8 0, .int .u8 0, .int .u8 0, .int .u8 0, .int .u8 0, .int .u8 0, .int .i64 0, .int .i64 0, .int .i64 0, .int .i64 0, .bool false, .int .u8 0, .int .u8 0, .int .u8 0, .int .u8 0, .int .i64 0, .int .u8 0, .int .u8 0, .int .i64 0, .int .i64 0, .int .u8 0, .slice none 0 0] 67)
  have B1' := B1.alloc (.cells #[.int .u8 0, .bool false, .int .u8 0, .int .u8 0, .int .u8 0, .int .u8 0, .int .u8 0, .int .u8 0, .int .u8 0, .int .u8 0, .int .u8 0, .int .i64 0, .int .i64 0, .int .i64 0, .int .i64 0, .bool false, .int .u8 0, .int .u8 0, .int .u8 0, .int .u8 0, .int .i64 0, .int .u8 0, .int .u8 0, .int .i64 0, .int .i64 0, .int .u8 0, .slice none 0 0] 67)
  have R9 : ((((w.alloc (.cells #[.int .u8 s.dep, .int .u8 s.ste, .int .u8 s.ref, .int .u8 s.msk, .int .u8 s.fai, .int .u8 s.hid, .int .u8 s.pas, .int .u8 s.ble, .int .u8 s.cha, .int .u8 s.cul, .bool s.wr, .bool s.ez, .int .u8 s.q0, .int .u8 s.q1, .int .u8 s.q2, .int .u8 s.q3, .int .u8 kind, .int .u8 vx, .int .u8 fr, .slice xa xs.length xc, .int .u8 r, .int .u8 g, .int .u8 b, .int .u8 a, .int .u16 dep, .bool plain] 79)).alloc (.cells #[.int .i64 sW, .int .i64 sH, .int .i64 m0, .int .i64 m1, .int .i64 m2, .int .i64 m3, .int .i64 m4, .int .i64 m5, .int .i64 m6, .int .i64 m7, .int .i64 m8, .int .i64 m9, .int .i64 m10, .int .i64 m11, .int .i64 m12, .int .i64 m13, .int .i64 m14, .int .i64 m15, .slice va vn vc, .slice sa sn sc, .slice pa pn pc, .slice da dn dc] 42)).alloc (.cells #[.int .u8 0, .bool false, .int .u8 0, .int .u8 0, .int .u8 0, .int .u8 0, .int .u8 0, .int .u8 0, .int .u8 0, .int .u8 0, .int .u8 0, .int .i64 0, .int .i64 0, .int .i64 0, .int .i64 0, .bool false, .int .u8 0, .int .u8 0, .int .u8 0, .int .u8 0, .int .i64 0, .int .u8 0, .int .u8 0, .int .i64 0, .int .i64 0, .int .u8 0, .slice none 0 0] 67))).rangeAt w.heap.size 0 s.v.toList := fun i u hu => by
    rw [Nat.zero_add, B0'.cell i]
    have hi : i < s.v.toList.length := (List.getElem?_eq_some_iff.1 hu).1
    have e : (#[.int .u8 s.dep, .int .u8 s.ste, .int .u8 s.ref, .int .u8 s.msk, .int .u8 s.fai, .int .u8 s.hid, .int .u8 s.pas, .int .u8 s.ble, .int .u8 s.cha, .int .u8 s.cul, .bool s.wr, .bool s.ez, .int .u8 s.q0, .int .u8 s.q1, .int .u8 s.q2, .int .u8 s.q3, .int .u8 kind, .int .u8 vx, .int .u8 fr, .slice xa xs.length xc, .int .u8 r, .int .u8 g, .int .u8 b, .int .u8 a, .int .u16 dep, .bool plain] : Array Value) = (s.v.toList ++ ([.int .u8 kind, .int .u8 vx, .int .u8 fr, .slice xa xs.length xc, .int .u8 r, .int .u8 g, .int .u8 b, .int .u8 a, .int .u16 dep, .bool plain] : List Value)).toArray := rfl
    rw [e, List.getElem?_toArray, List.getElem?_append_left hi]
    exact hu
  have hS9 := small9_any s hs
  generalize hq : s.st = q at *
  change Calls Try.prog _ #[.agg #[.int .u8 s.dep, .int .u8 s.ste, .int .u8 s.ref, .int .u8 s.msk, .int .u8 s.fai, .int .u8 s.hid, .int .u8 s.pas, .int .u8 s.ble, .int .u8 s.cha, .int .u8 s.cul, .bool s.wr, .bool s.ez, .int .u8 s.q0, .int .u8 s.q1, .int .u8 s.q2, .int .u8 s.q3, .int .u8 kind, .int .u8 vx, .int .u8 fr, .slice xa xs.length xc, .int .u8 r, .int .u8 g, .int .u8 b, .int .u8 a, .int .u16 dep, .bool plain], .agg #[.int .i64 sW, .int .i64 sH, .int .i64 m0, .int .i64 m1, .int .i64 m2, .int .i64 m3, .int .i64 m4, .int .i64 m5, .int .i64 m6, .int .i64 m7, .int .i64 m8, .int .i64 m9, .int .i64 m10, .int .i64 m11, .int .i64 m12, .int .i64 m13, .int .i64 m14, .int .i64 m15, .slice va vn vc, .slice sa sn sc, .slice pa pn pc, .slice da dn dc]] w _
  go_enter Try.func16, Try.ntmps16
  go_wp2_with (first
    | refine wpList_load_mid rfl 60 (.tmp 9) rfl w.heap.size 0 rfl s.v.toList _ R9 Try.underlying60 rfl (by kernel_rfl) ?_
    | fail)
  refine (hS9 _).mono ?_
  rintro e w2 ⟨rfl, x2⟩
  have C0 := B0'.ext x2
  have C1 := B1'.ext x2
  have C2 := (B2).ext x2
  have e2 := x1.trans x2
  have z2 := x2.size
  have zz : ((((w.alloc (.cells #[.int .u8 s.dep, .int .u8 s.ste, .int .u8 s.ref, .int .u8 s.msk, .int .u8 s.fai, .int .u8 s.hid, .int .u8 s.pas, .int .u8 s.ble, .int .u8 s.cha, .int .u8 s.cul, .bool s.wr, .bool s.ez, .int .u8 s.q0, .int .u8 s.q1, .int .u8 s.q2, .int .u8 s.q3, .int .u8 kind, .int .u8 vx, .int .u8 fr, .slice xa xs.length xc, .int .u8 r, .int .u8 g, .int .u8 b, .int .u8 a, .int .u16 dep, .bool plain] 79)).alloc (.cells #[.int .i64 sW, .int .i64 sH, .int .i64 m0, .int .i64 m1, .int .i64 m2, .int .i64 m3, .int .i64 m4, .int .i64 m5, .int .i64 m6, .int .i64 m7, .int .i64 m8, .int .i64 m9, .int .i64 m10, .int .i64 m11, .int .i64 m12, .int .i64 m13, .int .i64 m14, .int .i64 m15, .slice va vn vc, .slice sa sn sc, .slice pa pn pc, .slice da dn dc] 42)).alloc (.cells #[.int .u8 0, .bool false, .int .u8 0, .int .u8 0, .int .u8 0, .int .u8 0, .int .u8 0, .int .u8 0, .int .u8 0, .int .u8 0, .int .u8 0, .int .i64 0, .int .i64 0, .int .i64 0, .int .i64 0, .bool false, .int .u8 0, .int .u8 0, .int .u8 0, .int .u8 0, .int .i64 0, .int .u8 0, .int .u8 0, .int .i64 0, .int .i64 0, .int .u8 0, .slice none 0 0] 67))).heap.size = w.heap.size + 3 := by simp
  rw [zz] at z2
  clear B0 B1 B2 B0' B1' R9 x1 x2 hS9 zz
  have HQ := Lib.hid hq
  clear hq
  generalize hb0 : w.heap.size = b0 at *
  have D5 := Blk.new w2 #[.int .u8 0, .bool false, .int .u8 0, .int .u8 0, .int .u8 0, .int .u8 0, .int .u8 0, .int .u8 0, .int .u8 0, .int .u8 0, .int .u8 0, .int .i64 0, .int .i64 0, .int .i64 0, .int .i64 0, .bool false, .int .u8 0, .int .u8 0, .int .u8 0, .int .u8 0, .int .i64 0, .int .u8 0, .int .u8 0, .int .i64 0, .int .i64 0, .int .u8 0, .slice none 0 0] 67
  have E5 := D5.setRow #[.int .u8 q.dep, .bool q.wr, .int .u8 q.ste, .int .u8 q.ref, .int .u8 q.msk, .int .u8 q.fai, .int .u8 q.hid, .int .u8 q.pas, .int .u8 q.ble, .int .u8 q.cha, .int .u8 q.cul, .int .i64 q.x0, .int .i64 q.y0, .int .i64 q.x1, .int .i64 q.y1, .bool false, .int .u8 0, .int .u8 0, .int .u8 0, .int .u8 0, .int .i64 0, .int .u8 0, .int .u8 0, .int .i64 0, .int .i64 0, .int .u8 0, .slice none 0 0]
  have e5 : Ext w ((w2.alloc (.cells #[.int .u8 0, .bool false, .int .u8 0, .int .u8 0, .int .u8 0, .int .u8 0, .int .u8 0, .int .u8 0, .int .u8 0, .int .u8 0, .int .u8 0, .int .i64 0, .int .i64 0, .int .i64 0, .int .i64 0, .bool false, .int .u8 0, .int .u8 0, .int .u8 0, .int .u8 0, .int .i64 0, .int .u8 0, .int .u8 0, .int .i64 0, .int .i64 0, .int .u8 0, .slice none 0 0] 67)).setRow w2.heap.size #[.int .u8 q.dep, .bool q.wr, .int .u8 q.ste, .int .u8 q.ref, .int .u8 q.msk, .int .u8 q.fai, .int .u8 q.hid, .int .u8 q.pas, .int .u8 q.ble, .int .u8 q.cha, .int .u8 q.cul, .int .i64 q.x0, .int .i64 q.y0, .int .i64 q.x1, .int .i64 q.y1, .bool false, .int .u8 0, .int .u8 0, .int .u8 0, .int .u8 0, .int .i64 0, .int .u8 0, .int .u8 0, .int .i64 0, .int .i64 0, .int .u8 0, .slice none 0 0]) := (e2.alloc _ _).setRow e2.size _
  have F0 := (C0.alloc (.cells #[.int .u8 0, .bool false, .int .u8 0, .int .u8 0, .int .u8 0, .int .u8 0, .int .u8 0, .int .u8 0, .int .u8 0, .int .u8 0, .int .u8 0, .int .i64 0, .int .i64 0, .int .i64 0, .int .i64 0, .bool false, .int .u8 0, .int .u8 0, .int .u8 0, .int .u8 0, .int .i64 0, .int .u8 0, .int .u8 0, .int .i64 0, .int .i64 0, .int .u8 0, .slice none 0 0] 67)).farRow (g := w2.heap.size) (by omega) #[.int .u8 q.dep, .bool q.wr, .int .u8 q.ste, .int .u8 q.ref, .int .u8 q.msk, .int .u8 q.fai, .int .u8 q.hid, .int .u8 q.pas, .int .u8 q.ble, .int .u8 q.cha, .int .u8 q.cul, .int .i64 q.x0, .int .i64 q.y0, .int .i64 q.x1, .int .i64 q.y1, .bool false, .int .u8 0, .int .u8 0, .int .u8 0, .int .u8 0, .int .i64 0, .int .u8 0, .int .u8 0, .int .i64 0, .int .i64 0, .int .u8 0, .slice none 0 0]
  have F1 := (C1.alloc (.cells #[.int .u8 0, .bool false, .int .u8 0, .int .u8 0, .int .u8 0, .int .u8 0, .int .u8 0, .int .u8 0, .int .u8 0, .int .u8 0, .int .u8 0, .int .i64 0, .int .i64 0, .int .i64 0, .int .i64 0, .bool false, .int .u8 0, .int .u8 0, .int .u8 0, .int .u8 0, .int .i64 0, .int .u8 0, .int .u8 0, .int .i64 0, .int .i64 0, .int .u8 0, .slice none 0 0] 67)).farRow (g := w2.heap.size) (by omega) #[.int .u8 q.dep, .bool q.wr, .int .u8 q.ste, .int .u8 q.ref, .int .u8 q.msk, .int .u8 q.fai, .int .u8 q.hid, .int .u8 q.pas, .int .u8 q.ble, .int .u8 q.cha, .int .u8 q.cul, .int .i64 q.x0, .int .i64 q.y0, .int .i64 q.x1, .int .i64 q.y1, .bool false, .int .u8 0, .int .u8 0, .int .u8 0, .int .u8 0, .int .i64 0, .int .u8 0, .int .u8 0, .int .i64 0, .int .i64 0, .int .u8 0, .slice none 0 0]
  have F2 := (C2.alloc (.cells #[.int .u8 0, .bool false, .int .u8 0, .int .u8 0, .int .u8 0, .int .u8 0, .int .u8 0, .int .u8 0, .int .u8 0, .int .u8 0, .int .u8 0, .int .i64 0, .int .i64 0, .int .i64 0, .int .i64 0, .bool false, .int .u8 0, .int .u8 0, .int .u8 0, .int .u8 0, .int .i64 0, .int .u8 0, .int .u8 0, .int .i64 0, .int .i64 0, .int .u8 0, .slice none 0 0] 67)).farRow (g := w2.heap.size) (by omega) #[.int .u8 q.dep, .bool q.wr, .int .u8 q.ste, .int .u8 q.ref, .int .u8 q.msk, .int .u8 q.fai, .int .u8 q.hid, .int .u8 q.pas, .int .u8 q.ble, .int .u8 q.cha, .int .u8 q.cul, .int .i64 q.x0, .int .i64 q.y0, .int .i64 q.x1, .int .i64 q.y1, .bool false, .int .u8 0, .int .u8 0, .int .u8 0, .int .u8 0, .int .i64 0, .int .u8 0, .int .u8 0, .int .i64 0, .int .i64 0, .int .u8 0, .slice none 0 0]
  clear C0 C1 C2 e2
  go_upto_region 2 with (first
    | ((with_reducible refine wpList_store_blk (op := ⟨none, .store 67 (.tmp 5) (.tmp 12), _, _, _, _⟩) ?_ 67 (.tmp 5) (.tmp 12) ?_ w2.heap.size ?_ (cs := #[.int .u8 q.dep, .bool q.wr, .int .u8 q.ste, .int .u8 q.ref, .int .u8 q.msk, .int .u8 q.fai, .int .u8 q.hid, .int .u8 q.pas, .int .u8 q.ble, .int .u8 q.cha, .int .u8 q.cul, .int .i64 q.x0, .int .i64 q.y0, .int .i64 q.x1, .int .i64 q.y1, .bool false, .int .u8 0, .int .u8 0, .int .u8 0, .int .u8 0, .int .i64 0, .int .u8 0, .int .u8 0, .int .i64 0, .int .i64 0, .int .u8 0, .slice none 0 0]) ?_ (z := #[.int .u8 0, .bool false, .int .u8 0, .int .u8 0, .int .u8 0, .int .u8 0, .int .u8 0, .int .u8 0, .int .u8 0, .int .u8 0, .int .u8 0, .int .i64 0, .int .i64 0, .int .i64 0, .int .i64 0, .bool false, .int .u8 0, .int .u8 0, .int .u8 0, .int .u8 0, .int .i64 0, .int .u8 0, .int .u8 0, .int .i64 0, .int .i64 0, .int .u8 0, .slice none 0 0]) (T := 67) ?_ ?_ ?_ ?_ ?_); rfl; rfl; rfl; rfl; exact D5; kernel_rfl; kernel_rfl; kernel_rfl)
    | fail)
  have cF0 := F0.cell
  have cF1 := F1.cell
  generalize (w2.alloc (.cells #[.int .u8 0, .bool false, .int .u8 0, .int .u8 0, .int .u8 0, .int .u8 0, .int .u8 0, .int .u8 0, .int .u8 0, .int .u8 0, .int .u8 0, .int .i64 0, .int .i64 0, .int .i64 0, .int .i64 0, .bool false, .int .u8 0, .int .u8 0, .int .u8 0, .int .u8 0, .int .i64 0, .int .u8 0, .int .u8 0, .int .i64 0, .int .i64 0, .int .u8 0, .slice none 0 0] 67)).setRow w2.heap.size #[.int .u8 q.dep, .bool q.wr, .int .u8 q.ste, .int .u8 q.ref, .int .u8 q.msk, .int .u8 q.fai, .int .u8 q.hid, .int .u8 q.pas, .int .u8 q.ble, .int .u8 q.cha, .int .u8 q.cul, .int .i64 q.x0, .int .i64 q.y0, .int .i64 q.x1, .int .i64 q.y1, .bool false, .int .u8 0, .int .u8 0, .int .u8 0, .int .u8 0, .int .i64 0, .int .u8 0, .int .u8 0, .int .i64 0, .int .i64 0, .int .u8 0, .slice none 0 0] = w5 at *
  generalize w2.heap.size = b5 at *
  clear D5
  by_cases hk4 : kind % 5 = 4
  · have cE5 := E5.cell
    have fE5 := E5.frozen
    go_upto_region 5 with fail
    have hne : b0 + 1 + 1 ≠ b5 := by omega
    have hle : w.heap.size ≤ b5 := by omega
    have G := ((((((((E5.set 15 (.bool true)).set 16 (.int .u8 r)).set 17 (.int .u8 g)).set 18 (.int .u8 b)).set 19 (.int .u8 a)).set 20 (.int .i64 dep)).set 21 (.int .u8 vx)).set 22 (.int .u8 (fr % 8)))
    simp only [List.setIfInBounds_toArray, List.set_cons_succ, List.set_cons_zero] at G
    have H := ((((((((F2.far (p := ⟨b5, 15, none⟩) hne (.bool true)).far (p := ⟨b5, 16, none⟩) hne (.int .u8 r)).far (p := ⟨b5, 17, none⟩) hne (.int .u8 g)).far (p := ⟨b5, 18, none⟩) hne (.int .u8 b)).far (p := ⟨b5, 19, none⟩) hne (.int .u8 a)).far (p := ⟨b5, 20, none⟩) hne (.int .i64 dep)).far (p := ⟨b5, 21, none⟩) hne (.int .u8 vx)).far (p := ⟨b5, 22, none⟩) hne (.int .u8 (fr % 8)))
    have e7 := ((((((((e5.setCell (p := ⟨b5, 15, none⟩) hle (.bool true)).setCell (p := ⟨b5, 16, none⟩) hle (.int .u8 r)).setCell (p := ⟨b5, 17, none⟩) hle (.int .u8 g)).setCell (p := ⟨b5, 18, none⟩) hle (.int .u8 b)).setCell (p := ⟨b5, 19, none⟩) hle (.int .u8 a)).setCell (p := ⟨b5, 20, none⟩) hle (.int .i64 dep)).setCell (p := ⟨b5, 21, none⟩) hle (.int .u8 vx)).setCell (p := ⟨b5, 22, none⟩) hle (.int .u8 (fr % 8)))
    have HS := H.setRow #[.int .u8 q.dep, .bool q.wr, .int .u8 q.ste, .int .u8 q.ref, .int .u8 q.msk, .int .u8 q.fai, .int .u8 q.hid, .int .u8 q.pas, .int .u8 q.ble, .int .u8 q.cha, .int .u8 q.cul, .int .i64 q.x0, .int .i64 q.y0, .int .i64 q.x1, .int .i64 q.y1, .bool true, .int .u8 r, .int .u8 g, .int .u8 b, .int .u8 a, .int .i64 dep, .int .u8 vx, .int .u8 (fr % 8), .int .i64 0, .int .i64 0, .int .u8 0, .slice none 0 0]
    have e8 := e7.setRow (g := b0 + 1 + 1) (by omega) #[.int .u8 q.dep, .bool q.wr, .int .u8 q.ste, .int .u8 q.ref, .int .u8 q.msk, .int .u8 q.fai, .int .u8 q.hid, .int .u8 q.pas, .int .u8 q.ble, .int .u8 q.cha, .int .u8 q.cul, .int .i64 q.x0, .int .i64 q.y0, .int .i64 q.x1, .int .i64 q.y1, .bool true, .int .u8 r, .int .u8 g, .int .u8 b, .int .u8 a, .int .i64 dep, .int .u8 vx, .int .u8 (fr % 8), .int .i64 0, .int .i64 0, .int .u8 0, .slice none 0 0]
    clear e7 E5 F2
    go_wp2_with (first
      | ((with_reducible refine wpList_load_blk (op := ⟨some 30, _, _, _, _, _⟩) ?_ 67 (.tmp 5) ?_ b5 ?_ (z := #[.int .u8 q.dep, .bool q.wr, .int .u8 q.ste, .int .u8 q.ref, .int .u8 q.msk, .int .u8 q.fai, .int .u8 q.hid, .int .u8 q.pas, .int .u8 q.ble, .int .u8 q.cha, .int .u8 q.cul, .int .i64 q.x0, .int .i64 q.y0, .int .i64 q.x1, .int .i64 q.y1, .bool true, .int .u8 r, .int .u8 g, .int .u8 b, .int .u8 a, .int .i64 dep, .int .u8 vx, .int .u8 (fr % 8), .int .i64 0, .int .i64 0, .int .u8 0, .slice none 0 0]) (T := 67) G Try.underlying67 ?_ ?_ ?_); rfl; rfl; rfl; rfl; kernel_rfl)
      | ((with_reducible refine wpList_store_blk (op := ⟨none, .store 67 (.tmp 4) (.tmp 30), _, _, _, _⟩) ?_ 67 (.tmp 4) (.tmp 30) ?_ (b0 + 1 + 1) ?_ (cs := #[.int .u8 q.dep, .bool q.wr, .int .u8 q.ste, .int .u8 q.ref, .int .u8 q.msk, .int .u8 q.fai, .int .u8 q.hid, .int .u8 q.pas, .int .u8 q.ble, .int .u8 q.cha, .int .u8 q.cul, .int .i64 q.x0, .int .i64 q.y0, .int .i64 q.x1, .int .i64 q.y1, .bool true, .int .u8 r, .int .u8 g, .int .u8 b, .int .u8 a, .int .i64 dep, .int .u8 vx, .int .u8 (fr % 8), .int .i64 0, .int .i64 0, .int .u8 0, .slice none 0 0]) ?_ (z := #[.int .u8 0, .bool false, .int .u8 0, .int .u8 0, .int .u8 0, .int .u8 0, .int .u8 0, .int .u8 0, .int .u8 0, .int .u8 0, .int .u8 0, .int .i64 0, .int .i64 0, .int .i64 0, .int .i64 0, .bool false, .int .u8 0, .int .u8 0, .int .u8 0, .int .u8 0, .int .i64 0, .int .u8 0, .int .u8 0, .int .i64 0, .int .i64 0, .int .u8 0, .slice none 0 0]) (T := 67) ?_ ?_ ?_ ?_ ?_); rfl; rfl; rfl; rfl; exact H; kernel_rfl; kernel_rfl; kernel_rfl)
      | fail)
    refine bodyPost_ret (v := .agg #[.int .u8 q.dep, .bool q.wr, .int .u8 q.ste, .int .u8 q.ref, .int .u8 q.msk, .int .u8 q.fai, .int .u8 q.hid, .int .u8 q.pas, .int .u8 q.ble, .int .u8 q.cha, .int .u8 q.cul, .int .i64 q.x0, .int .i64 q.y0, .int .i64 q.x1, .int .i64 q.y1, .bool true, .int .u8 r, .int .u8 g, .int .u8 b, .int .u8 a, .int .i64 dep, .int .u8 vx, .int .u8 (fr % 8), .int .i64 0, .int .i64 0, .int .u8 0, .slice none 0 0]) (results_blk (b := b0 + 1 + 1) (t := 4) (ty := 67) rfl rfl HS Try.underlying67 rfl (by kernel_rfl)) rfl ?_
    exact ⟨⟨q, true, ⟨r, g, b, a, dep, vx, fr % 8⟩, 0, 0, 0, SlV.nil⟩, rfl, by simp [DrM.is, drawF, hk4, HQ.out], by simp [drawF, hk4]; exact OwnI.nil _ _, e8⟩
  · have hk4b : (kind % 5 == 4) = false := by simpa using hk4
    have cE5 := E5.cell
    have fE5 := E5.frozen
    have k53 : 0 ≤ kind % 5 % 3 ∧ kind % 5 % 3 < 3 := by omega
    have hne : b0 + 1 + 1 ≠ b5 := by omega
    have hne0 : b0 ≠ b5 := by omega
    have hne1 : b0 + 1 ≠ b5 := by omega
    have hle : w.heap.size ≤ b5 := by omega
    cases plain
    · have hsn : (sn : Int) ≠ 0 := by omega
      have hpn : (pn : Int) ≠ 0 := by omega
      have hsnb : ((sn : Int) == 0) = false := by simp; omega
      have hpnb : ((pn : Int) == 0) = false := by simp; omega
      go_upto_region 8 with fail
      go_region
      have G : Blk (((w5.setCell ⟨b5, 25, none⟩ (.int .u8 (kind % 5 % 3))).setCell ⟨b5, 23, none⟩ (.int .i64 (vx % sn))).setCell ⟨b5, 24, none⟩ (.int .i64 (fr % pn))).drew b5 #[.int .u8 q.dep, .bool q.wr, .int .u8 q.ste, .int .u8 q.ref, .int .u8 q.msk, .int .u8 q.fai, .int .u8 q.hid, .int .u8 q.pas, .int .u8 q.ble, .int .u8 q.cha, .int .u8 q.cul, .int .i64 q.x0, .int .i64 q.y0, .int .i64 q.x1, .int .i64 q.y1, .bool false, .int .u8 0, .int .u8 0, .int .u8 0, .int .u8 0, .int .i64 0, .int .u8 0, .int .u8 0, .int .i64 (vx % sn), .int .i64 (fr % pn), .int .u8 (kind % 5 % 3), .slice none 0 0] 67 := by
        have := (((E5.set 25 (.int .u8 (kind % 5 % 3))).set 23 (.int .i64 (vx % sn))).set 24 (.int .i64 (fr % pn))).drew
        simp only [List.setIfInBounds_toArray, List.set_cons_succ, List.set_cons_zero] at this
        exact this
      have F0' := (((F0.far (p := ⟨b5, 25, none⟩) hne0 (.int .u8 (kind % 5 % 3))).far (p := ⟨b5, 23, none⟩) hne0 (.int .i64 (vx % sn))).far (p := ⟨b5, 24, none⟩) hne0 (.int .i64 (fr % pn))).drew
      have F1' := (((F1.far (p := ⟨b5, 25, none⟩) hne1 (.int .u8 (kind % 5 % 3))).far (p := ⟨b5, 23, none⟩) hne1 (.int .i64 (vx % sn))).far (p := ⟨b5, 24, none⟩) hne1 (.int .i64 (fr % pn))).drew
      have F2' := (((F2.far (p := ⟨b5, 25, none⟩) hne (.int .u8 (kind % 5 % 3))).far (p := ⟨b5, 23, none⟩) hne (.int .i64 (vx % sn))).far (p := ⟨b5, 24, none⟩) hne (.int .i64 (fr % pn))).drew
      have e7 := (((e5.setCell (p := ⟨b5, 25, none⟩) hle (.int .u8 (kind % 5 % 3))).setCell (p := ⟨b5, 23, none⟩) hle (.int .i64 (vx % sn))).setCell (p := ⟨b5, 24, none⟩) hle (.int .i64 (fr % pn))).drew
      clear E5 F0 F1 F2 cE5 fE5 cF0 cF1 e5
      generalize (((w5.setCell ⟨b5, 25, none⟩ (.int .u8 (kind % 5 % 3))).setCell ⟨b5, 23, none⟩ (.int .i64 (vx % sn))).setCell ⟨b5, 24, none⟩ (.int .i64 (fr % pn))).drew = w7 at *
      have cG := G.cell
      have cF0 := F0'.cell
      have cF1 := F1'.cell
      rcases (by omega : kind % 5 % 3 = 0 ∨ (¬ kind % 5 % 3 = 0 ∧ min xs.length 6 < 3) ∨ (¬ kind % 5 % 3 = 0 ∧ ¬ min xs.length 6 < 3)) with hw | hw | hw
      · skip
        obtain ⟨N, hNN, hN6, hNx⟩ : ∃ N : Nat, N = (min xs.length 6 / 3 * 3) ∧ N ≤ 6 ∧ N ≤ xs.length := ⟨_, rfl, by omega, by omega⟩
        have hmn : minI (xs.length : Int) 6 = ((min xs.length 6 : Nat) : Int) := by unfold minI; omega
        have hmf := minI_fold
        have hk0 : (kind % 5 % 3 == 0) = true := by simp [hw]
        have hN : nidx (kind % 5 % 3) xs.length = N := by unfold nidx; rw [if_pos hw]; omega
        have t1 : ((min xs.length 6 : Nat) : Int).tdiv 3 = ((min xs.length 6 / 3 : Nat) : Int) := by rw [Int.tdiv_eq_ediv_of_nonneg (by omega)]; omega
        have t2 : ((min xs.length 6 / 3 : Nat) : Int) * 3 = (N : Int) := by omega
        have hw' := Lib.hid hw
        clear hw
        generalize min xs.length 6 / 3 = mq at *
        have HN := Lib.hid hN
        clear hN
        clear hNN
        have hNI : (N : Int) ≤ (xs.length : Int) := by omega
        go_wp2_with fail
        have hX' : Arr w .u8 (.slice xa xs.length xc) xs := hX
        have hvn : (vn : Int) ≠ 0 := by omega
        have hvnb : ((vn : Int) == 0) = false := by simp; omega
        go_loopg [72] N (fun n0 iv wx => ∃ (j : Nat) (pv : SlV), j + n0 = N ∧ iv = .int .i64 j ∧ OwnG LI wx (b5 + 1) pv.v (((xs.take N).take j).map (fun y => y % (vn : Int))) ∧ Blk wx b5 #[.int .u8 q.dep, .bool q.wr, .int .u8 q.ste, .int .u8 q.ref, .int .u8 q.msk, .int .u8 q.fai, .int .u8 q.hid, .int .u8 q.pas, .int .u8 q.ble, .int .u8 q.cha, .int .u8 q.cul, .int .i64 q.x0, .int .i64 q.y0, .int .i64 q.x1, .int .i64 q.y1, .bool false, .int .u8 0, .int .u8 0, .int .u8 0, .int .u8 0, .int .i64 0, .int .u8 0, .int .u8 0, .int .i64 (vx % sn), .int .i64 (fr % pn), .int .u8 (kind % 5 % 3), .slice pv.ao pv.n pv.c] 67 ∧ Blk wx b0 #[.int .u8 s.dep, .int .u8 s.ste, .int .u8 s.ref, .int .u8 s.msk, .int .u8 s.fai, .int .u8 s.hid, .int .u8 s.pas, .int .u8 s.ble, .int .u8 s.cha, .int .u8 s.cul, .bool s.wr, .bool s.ez, .int .u8 s.q0, .int .u8 s.q1, .int .u8 s.q2, .int .u8 s.q3, .int .u8 kind, .int .u8 vx, .int .u8 fr, .slice xa xs.length xc, .int .u8 r, .int .u8 g, .int .u8 b, .int .u8 a, .int .u16 dep, .bool false] 79 ∧ Blk wx (b0 + 1) #[.int .i64 sW, .int .i64 sH, .int .i64 m0, .int .i64 m1, .int .i64 m2, .int .i64 m3, .int .i64 m4, .int .i64 m5, .int .i64 m6, .int .i64 m7, .int .i64 m8, .int .i64 m9, .int .i64 m10, .int .i64 m11, .int .i64 m12, .int .i64 m13, .int .i64 m14, .int .i64 m15, .slice va vn vc, .slice sa sn sc, .slice pa pn pc, .slice da dn dc] 42 ∧ Blk wx (b0 + 1 + 1) #[.int .u8 0, .bool false, .int .u8 0, .int .u8 0, .int .u8 0, .int .u8 0, .int .u8 0, .int .u8 0, .int .u8 0, .int .u8 0, .int .u8 0, .int .i64 0, .int .i64 0, .int .i64 0, .int .i64 0, .bool false, .int .u8 0, .int .u8 0, .int .u8 0, .int .u8 0, .int .i64 0, .int .u8 0, .int .u8 0, .int .i64 0, .int .i64 0, .int .u8 0, .slice none 0 0] 67 ∧ Ext w wx ∧ b5 < wx.heap.size)
        case atStart => exact ⟨0, SlV.nil, by omega, by simp, by simpa using OwnG.nil LI w7 (b5 + 1), G, F0', F1', F2', e7, G.lt⟩
        case round =>
          clear G F0' F1' F2' e7 cG cF0 cF1
          obtain ⟨j, pv, hjk, rfl, o1, G1, K0, K1, K2, e1, hb5⟩ := hrel
          by_cases hj : j < N
          · have hjI : (j : Int) < (N : Int) := by omega
            obtain ⟨g, off, rfl, -, hc⟩ := (hX'.ext e1).at j (by omega)
            have c0 := hc j (by omega)
            have hy := bounds_u8 (hX'.wf (xs.getD j 0) (by simp [List.getD, show j < xs.length by omega]))
            have HS := Lib.hid (show ((xs.take N).take (j + 1)).map (fun y => y % (vn : Int)) = ((xs.take N).take j).map (fun y => y % (vn : Int)) ++ [xs.getD j 0 % (vn : Int)] by
              rw [List.take_take, List.take_take, show min (j + 1) N = j + 1 by omega, show min j N = j by omega]
              exact take_map_snoc _ xs j (by omega))
            have hlen : (((xs.take N).take j).map (fun y => y % (vn : Int))).length = j := by simp; omega
            generalize ((xs.take N).take j).map (fun y => y % (vn : Int)) = li at *
            generalize xs.getD j 0 = y at *
            have hyn := Int.emod_nonneg y hvn
            have hvn0 : ¬ vn = 0 := by omega
            have hyw : IntKind.i64.wrap y = y := by rw [IntKind.wrap_i64]; omega
            have hyt : y.tmod (vn : Int) = y % (vn : Int) := Int.tmod_eq_emod_of_nonneg hy.1
            obtain ⟨pa0, pn0, pc0⟩ := pv
            have hpn : j = pn0 := by
              obtain ⟨_, _, e, -, -⟩ := o1.slice
              cases e
              exact hlen.symm
            subst hpn
            dsimp only [SlV.v] at o1 G1
            have o2 := o1.ext (((Ext.refl wr).alloc #[.int .i64 (y % (vn : Int))] 3).drew)
            have e2 := e1.trans (((Ext.refl wr).alloc #[.int .i64 (y % (vn : Int))] 3).drew)
            have G2 := (G1.alloc (.cells #[.int .i64 (y % (vn : Int))] 3)).drew
            have K0' := (K0.alloc (.cells #[.int .i64 (y % (vn : Int))] 3)).drew
            have K1' := (K1.alloc (.cells #[.int .i64 (y % (vn : Int))] 3)).drew
            have K2' := (K2.alloc (.cells #[.int .i64 (y % (vn : Int))] 3)).drew
            have hcn : ∀ i u, (LI.cells (y % (vn : Int)))[i]? = some u → (wr.alloc (.cells #[.int .i64 (y % (vn : Int))] 3)).drew.cell? ⟨wr.heap.size, i, none⟩ = some u := fun i u hu => by
              have : (wr.alloc (.cells #[.int .i64 (y % (vn : Int))] 3)).drew.cell? ⟨wr.heap.size, i, none⟩ = (wr.alloc (.cells #[.int .i64 (y % (vn : Int))] 3)).cell? ⟨wr.heap.size, i, none⟩ := rfl
              rw [this, (Blk.new wr _ _).cell]
              simpa [LI] using hu
            have cG1 := G1.cell
            have cK0 := K0.cell
            have cK1 := K1.cell
            have hO : ∀ k, (Value.slice pa0 j pc0).ownBlock = some k → b5 + 1 ≤ k := fun k hk => (o1.lt k hk).1
            clear hc o1 K0 K1 K2 G1 e1
            have hG2 : b5 ∉ (Value.slice pa0 j pc0).ownBlock.toList := fun h => by have := hO _ (Option.mem_toList.1 h); omega
            have hK0 : b0 ∉ (Value.slice pa0 j pc0).ownBlock.toList := fun h => by have := hO _ (Option.mem_toList.1 h); omega
            have hK1 : b0 + 1 ∉ (Value.slice pa0 j pc0).ownBlock.toList := fun h => by have := hO _ (Option.mem_toList.1 h); omega
            have hK2 : b0 + 1 + 1 ∉ (Value.slice pa0 j pc0).ownBlock.toList := fun h => by have := hO _ (Option.mem_toList.1 h); omega
            go_wp2_with fail
            go_region_law (refine step_append_g1 LI rfl (.tmp 77) (.tmp 84) rfl (b5 + 1) _ _ rfl o2 wr.heap.size 1 (y % (vn : Int)) rfl hcn (by omega) (by simp; omega) ?_; intro v4 w4 o4 A4 hk4; have e4 := Ext.calm_trans e2 A4 (fun g hg => by have := hO g (Option.mem_toList.1 hg); omega); have G4 := G2.calm A4 hG2; have L0 := K0'.calm A4 hK0; have L1 := K1'.calm A4 hK1; have L2 := K2'.calm A4 hK2; have cG4 := G4.cell; have fG4 := G4.frozen; obtain ⟨ao4, c4', rfl, -, -⟩ := o4.slice; clear o2 e2 G2 K0' K1' K2' hcn A4 hk4)
            all_goals go_wp2
            all_goals
              have h5 := o4
              simp only [List.length_append, hlen, List.length_singleton] at h5
              have h6 := h5.calm (calm_setP w4 b5 26 (.slice ao4 (j + 1) c4')) (fun k hk hin => by have := (h5.lt k hk).1; simp at hin; omega)
              have G5 := G4.set 26 (.slice ao4 (j + 1) c4')
              simp only [List.setIfInBounds_toArray, List.set_cons_succ, List.set_cons_zero] at G5
              have L0' := L0.far (p := ⟨b5, 26, none⟩) hne0 (.slice ao4 (j + 1) c4')
              have L1' := L1.far (p := ⟨b5, 26, none⟩) hne1 (.slice ao4 (j + 1) c4')
              have L2' := L2.far (p := ⟨b5, 26, none⟩) hne (.slice ao4 (j + 1) c4')
              have e5 := e4.setCell (p := ⟨b5, 26, none⟩) hle (.slice ao4 (j + 1) c4')
              go_roundg (gk - 1)
              case measure => omega
              case rel => exact ⟨j + 1, ⟨ao4, j + 1, c4'⟩, by omega, by simp, by rw [HS.out]; exact h6, G5, L0', L1', L2', e5, G5.lt⟩
          · obtain rfl : j = N := by omega
            obtain ⟨pa0, pn0, pc0⟩ := pv
            dsimp only [SlV.v] at o1 G1
            have HS := K2.setRow #[.int .u8 q.dep, .bool q.wr, .int .u8 q.ste, .int .u8 q.ref, .int .u8 q.msk, .int .u8 q.fai, .int .u8 q.hid, .int .u8 q.pas, .int .u8 q.ble, .int .u8 q.cha, .int .u8 q.cul, .int .i64 q.x0, .int .i64 q.y0, .int .i64 q.x1, .int .i64 q.y1, .bool false, .int .u8 0, .int .u8 0, .int .u8 0, .int .u8 0, .int .i64 0, .int .u8 0, .int .u8 0, .int .i64 (vx % sn), .int .i64 (fr % pn), .int .u8 (kind % 5 % 3), .slice pa0 pn0 pc0]
            have e8 := e1.setRow (g := b0 + 1 + 1) (by omega) #[.int .u8 q.dep, .bool q.wr, .int .u8 q.ste, .int .u8 q.ref, .int .u8 q.msk, .int .u8 q.fai, .int .u8 q.hid, .int .u8 q.pas, .int .u8 q.ble, .int .u8 q.cha, .int .u8 q.cul, .int .i64 q.x0, .int .i64 q.y0, .int .i64 q.x1, .int .i64 q.y1, .bool false, .int .u8 0, .int .u8 0, .int .u8 0, .int .u8 0, .int .i64 0, .int .u8 0, .int .u8 0, .int .i64 (vx % sn), .int .i64 (fr % pn), .int .u8 (kind % 5 % 3), .slice pa0 pn0 pc0]
            have o9 := o1.ownI.calm (calm_setRow wr (b0 + 1 + 1) #[.int .u8 q.dep, .bool q.wr, .int .u8 q.ste, .int .u8 q.ref, .int .u8 q.msk, .int .u8 q.fai, .int .u8 q.hid, .int .u8 q.pas, .int .u8 q.ble, .int .u8 q.cha, .int .u8 q.cul, .int .i64 q.x0, .int .i64 q.y0, .int .i64 q.x1, .int .i64 q.y1, .bool false, .int .u8 0, .int .u8 0, .int .u8 0, .int .u8 0, .int .i64 0, .int .u8 0, .int .u8 0, .int .i64 (vx % sn), .int .i64 (fr % pn), .int .u8 (kind % 5 % 3), .slice pa0 pn0 pc0]) (fun k hk hin => by have := (o1.ownI.lt k hk).1; simp at hin; omega)
            rw [List.take_take, Nat.min_self] at o9
            clear e1 o1 K0 K1
            go_wp2_with (first
              | ((with_reducible refine wpList_load_blk (op := ⟨some 88, _, _, _, _, _⟩) ?_ 67 (.tmp 5) ?_ b5 ?_ (z := #[.int .u8 q.dep, .bool q.wr, .int .u8 q.ste, .int .u8 q.ref, .int .u8 q.msk, .int .u8 q.fai, .int .u8 q.hid, .int .u8 q.pas, .int .u8 q.ble, .int .u8 q.cha, .int .u8 q.cul, .int .i64 q.x0, .int .i64 q.y0, .int .i64 q.x1, .int .i64 q.y1, .bool false, .int .u8 0, .int .u8 0, .int .u8 0, .int .u8 0, .int .i64 0, .int .u8 0, .int .u8 0, .int .i64 (vx % sn), .int .i64 (fr % pn), .int .u8 (kind % 5 % 3), .slice pa0 pn0 pc0]) (T := 67) G1 Try.underlying67 ?_ ?_ ?_); rfl; rfl; rfl; rfl; kernel_rfl)
              | ((with_reducible refine wpList_store_blk (op := ⟨none, .store 67 (.tmp 4) (.tmp 88), _, _, _, _⟩) ?_ 67 (.tmp 4) (.tmp 88) ?_ (b0 + 1 + 1) ?_ (cs := #[.int .u8 q.dep, .bool q.wr, .int .u8 q.ste, .int .u8 q.ref, .int .u8 q.msk, .int .u8 q.fai, .int .u8 q.hid, .int .u8 q.pas, .int .u8 q.ble, .int .u8 q.cha, .int .u8 q.cul, .int .i64 q.x0, .int .i64 q.y0, .int .i64 q.x1, .int .i64 q.y1, .bool false, .int .u8 0, .int .u8 0, .int .u8 0, .int .u8 0, .int .i64 0, .int .u8 0, .int .u8 0, .int .i64 (vx % sn), .int .i64 (fr % pn), .int .u8 (kind % 5 % 3), .slice pa0 pn0 pc0]) ?_ (z := #[.int .u8 0, .bool false, .int .u8 0, .int .u8 0, .int .u8 0, .int .u8 0, .int .u8 0, .int .u8 0, .int .u8 0, .int .u8 0, .int .u8 0, .int .i64 0, .int .i64 0, .int .i64 0, .int .i64 0, .bool false, .int .u8 0, .int .u8 0, .int .u8 0, .int .u8 0, .int .i64 0, .int .u8 0, .int .u8 0, .int .i64 0, .int .i64 0, .int .u8 0, .slice none 0 0]) (T := 67) ?_ ?_ ?_ ?_ ?_); rfl; rfl; rfl; rfl; exact K2; kernel_rfl; kernel_rfl; kernel_rfl)
              | fail)
            refine bodyPost_ret (v := .agg #[.int .u8 q.dep, .bool q.wr, .int .u8 q.ste, .int .u8 q.ref, .int .u8 q.msk, .int .u8 q.fai, .int .u8 q.hid, .int .u8 q.pas, .int .u8 q.ble, .int .u8 q.cha, .int .u8 q.cul, .int .i64 q.x0, .int .i64 q.y0, .int .i64 q.x1, .int .i64 q.y1, .bool false, .int .u8 0, .int .u8 0, .int .u8 0, .int .u8 0, .int .i64 0, .int .u8 0, .int .u8 0, .int .i64 (vx % sn), .int .i64 (fr % pn), .int .u8 (kind % 5 % 3), .slice pa0 pn0 pc0]) (results_blk (b := b0 + 1 + 1) (t := 4) (ty := 67) rfl rfl HS Try.underlying67 rfl (by kernel_rfl)) rfl ?_
            exact ⟨⟨q, false, ⟨0, 0, 0, 0, 0, 0, 0⟩, (vx % sn), (fr % pn), kind % 5 % 3, ⟨pa0, pn0, pc0⟩⟩, rfl, by simp [DrM.is, drawF, hk4, HQ.out], by simp only [drawF, hk4, if_false, HN.out]; exact o9.mono (by omega), e8⟩
      · skip
        obtain ⟨N, hNN, hN6, hNx⟩ : ∃ N : Nat, N = 0 ∧ N ≤ 6 ∧ N ≤ xs.length := ⟨_, rfl, by omega, by omega⟩
        have hmn : minI (xs.length : Int) 6 = ((min xs.length 6 : Nat) : Int) := by unfold minI; omega
        have hmf := minI_fold
        have hk0 : (kind % 5 % 3 == 0) = false := by simp; omega
        have hN : nidx (kind % 5 % 3) xs.length = N := by unfold nidx; rw [if_neg hw.1, if_pos hw.2]; omega
        have hl3 : ((min xs.length 6 : Nat) : Int) < 3 := by omega
        have HN := Lib.hid hN
        clear hN
        subst hNN
        have hNI : (0 : Int) ≤ (xs.length : Int) := by omega
        go_wp2_with fail
        have hX' : Arr w .u8 (.slice xa xs.length xc) xs := hX
        have hvn : (vn : Int) ≠ 0 := by omega
        have hvnb : ((vn : Int) == 0) = false := by simp; omega
        go_loopg [72] 0 (fun n0 iv wx => ∃ (j : Nat) (pv : SlV), j + n0 = 0 ∧ iv = .int .i64 j ∧ OwnG LI wx (b5 + 1) pv.v (((xs.take 0).take j).map (fun y => y % (vn : Int))) ∧ Blk wx b5 #[.int .u8 q.dep, .bool q.wr, .int .u8 q.ste, .int .u8 q.ref, .int .u8 q.msk, .int .u8 q.fai, .int .u8 q.hid, .int .u8 q.pas, .int .u8 q.ble, .int .u8 q.cha, .int .u8 q.cul, .int .i64 q.x0, .int .i64 q.y0, .int .i64 q.x1, .int .i64 q.y1, .bool false, .int .u8 0, .int .u8 0, .int .u8 0, .int .u8 0, .int .i64 0, .int .u8 0, .int .u8 0, .int .i64 (vx % sn), .int .i64 (fr % pn), .int .u8 (kind % 5 % 3), .slice pv.ao pv.n pv.c] 67 ∧ Blk wx b0 #[.int .u8 s.dep, .int .u8 s.ste, .int .u8 s.ref, .int .u8 s.msk, .int .u8 s.fai, .int .u8 s.hid, .int .u8 s.pas, .int .u8 s.ble, .int .u8 s.cha, .int .u8 s.cul, .bool s.wr, .bool s.ez, .int .u8 s.q0, .int .u8 s.q1, .int .u8 s.q2, .int .u8 s.q3, .int .u8 kind, .int .u8 vx, .int .u8 fr, .slice xa xs.length xc, .int .u8 r, .int .u8 g, .int .u8 b, .int .u8 a, .int .u16 dep, .bool false] 79 ∧ Blk wx (b0 + 1) #[.int .i64 sW, .int .i64 sH, .int .i64 m0, .int .i64 m1, .int .i64 m2, .int .i64 m3, .int .i64 m4, .int .i64 m5, .int .i64 m6, .int .i64 m7, .int .i64 m8, .int .i64 m9, .int .i64 m10, .int .i64 m11, .int .i64 m12, .int .i64 m13, .int .i64 m14, .int .i64 m15, .slice va vn vc, .slice sa sn sc, .slice pa pn pc, .slice da dn dc] 42 ∧ Blk wx (b0 + 1 + 1) #[.int .u8 0, .bool false, .int .u8 0, .int .u8 0, .int .u8 0, .int .u8 0, .int .u8 0, .int .u8 0, .int .u8 0, .int .u8 0, .int .u8 0, .int .i64 0, .int .i64 0, .int .i64 0, .int .i64 0, .bool false, .int .u8 0, .int .u8 0, .int .u8 0, .int .u8 0, .int .i64 0, .int .u8 0, .int .u8 0, .int .i64 0, .int .i64 0, .int .u8 0, .slice none 0 0] 67 ∧ Ext w wx ∧ b5 < wx.heap.size)
        case atStart => exact ⟨0, SlV.nil, by omega, by simp, by simpa using OwnG.nil LI w7 (b5 + 1), G, F0', F1', F2', e7, G.lt⟩
        case round =>
          clear G F0' F1' F2' e7 cG cF0 cF1
          obtain ⟨j, pv, hjk, rfl, o1, G1, K0, K1, K2, e1, hb5⟩ := hrel
          by_cases hj : j < 0
          · exact absurd hj (by omega)
          · obtain rfl : j = 0 := by omega
            obtain ⟨pa0, pn0, pc0⟩ := pv
            dsimp only [SlV.v] at o1 G1
            have HS := K2.setRow #[.int .u8 q.dep, .bool q.wr, .int .u8 q.ste, .int .u8 q.ref, .int .u8 q.msk, .int .u8 q.fai, .int .u8 q.hid, .int .u8 q.pas, .int .u8 q.ble, .int .u8 q.cha, .int .u8 q.cul, .int .i64 q.x0, .int .i64 q.y0, .int .i64 q.x1, .int .i64 q.y1, .bool false, .int .u8 0, .int .u8 0, .int .u8 0, .int .u8 0, .int .i64 0, .int .u8 0, .int .u8 0, .int .i64 (vx % sn), .int .i64 (fr % pn), .int .u8 (kind % 5 % 3), .slice pa0 pn0 pc0]
            have e8 := e1.setRow (g := b0 + 1 + 1) (by omega) #[.int .u8 q.dep, .bool q.wr, .int .u8 q.ste, .int .u8 q.ref, .int .u8 q.msk, .int .u8 q.fai, .int .u8 q.hid, .int .u8 q.pas, .int .u8 q.ble, .int .u8 q.cha, .int .u8 q.cul, .int .i64 q.x0, .int .i64 q.y0, .int .i64 q.x1, .int .i64 q.y1, .bool false, .int .u8 0, .int .u8 0, .int .u8 0, .int .u8 0, .int .i64 0, .int .u8 0, .int .u8 0, .int .i64 (vx % sn), .int .i64 (fr % pn), .int .u8 (kind % 5 % 3), .slice pa0 pn0 pc0]
            have o9 := o1.ownI.calm (calm_setRow wr (b0 + 1 + 1) #[.int .u8 q.dep, .bool q.wr, .int .u8 q.ste, .int .u8 q.ref, .int .u8 q.msk, .int .u8 q.fai, .int .u8 q.hid, .int .u8 q.pas, .int .u8 q.ble, .int .u8 q.cha, .int .u8 q.cul, .int .i64 q.x0, .int .i64 q.y0, .int .i64 q.x1, .int .i64 q.y1, .bool false, .int .u8 0, .int .u8 0, .int .u8 0, .int .u8 0, .int .i64 0, .int .u8 0, .int .u8 0, .int .i64 (vx % sn), .int .i64 (fr % pn), .int .u8 (kind % 5 % 3), .slice pa0 pn0 pc0]) (fun k hk hin => by have := (o1.ownI.lt k hk).1; simp at hin; omega)
            rw [List.take_take, Nat.min_self] at o9
            clear e1 o1 K0 K1
            go_wp2_with (first
              | ((with_reducible refine wpList_load_blk (op := ⟨some 88, _, _, _, _, _⟩) ?_ 67 (.tmp 5) ?_ b5 ?_ (z := #[.int .u8 q.dep, .bool q.wr, .int .u8 q.ste, .int .u8 q.ref, .int .u8 q.msk, .int .u8 q.fai, .int .u8 q.hid, .int .u8 q.pas, .int .u8 q.ble, .int .u8 q.cha, .int .u8 q.cul, .int .i64 q.x0, .int .i64 q.y0, .int .i64 q.x1, .int .i64 q.y1, .bool false, .int .u8 0, .int .u8 0, .int .u8 0, .int .u8 0, .int .i64 0, .int .u8 0, .int .u8 0, .int .i64 (vx % sn), .int .i64 (fr % pn), .int .u8 (kind % 5 % 3), .slice pa0 pn0 pc0]) (T := 67) G1 Try.underlying67 ?_ ?_ ?_); rfl; rfl; rfl; rfl; kernel_rfl)
              | ((with_reducible refine wpList_store_blk (op := ⟨none, .store 67 (.tmp 4) (.tmp 88), _, _, _, _⟩) ?_ 67 (.tmp 4) (.tmp 88) ?_ (b0 + 1 + 1) ?_ (cs := #[.int .u8 q.dep, .bool q.wr, .int .u8 q.ste, .int .u8 q.ref, .int .u8 q.msk, .int .u8 q.fai, .int .u8 q.hid, .int .u8 q.pas, .int .u8 q.ble, .int .u8 q.cha, .int .u8 q.cul, .int .i64 q.x0, .int .i64 q.y0, .int .i64 q.x1, .int .i64 q.y1, .bool false, .int .u8 0, .int .u8 0, .int .u8 0, .int .u8 0, .int .i64 0, .int .u8 0, .int .u8 0, .int .i64 (vx % sn), .int .i64 (fr % pn), .int .u8 (kind % 5 % 3), .slice pa0 pn0 pc0]) ?_ (z := #[.int .u8 0, .bool false, .int .u8 0, .int .u8 0, .int .u8 0, .int .u8 0, .int .u8 0, .int .u8 0, .int .u8 0, .int .u8 0, .int .u8 0, .int .i64 0, .int .i64 0, .int .i64 0, .int .i64 0, .bool false, .int .u8 0, .int .u8 0, .int .u8 0, .int .u8 0, .int .i64 0, .int .u8 0, .int .u8 0, .int .i64 0, .int .i64 0, .int .u8 0, .slice none 0 0]) (T := 67) ?_ ?_ ?_ ?_ ?_); rfl; rfl; rfl; rfl; exact K2; kernel_rfl; kernel_rfl; kernel_rfl)
              | fail)
            refine bodyPost_ret (v := .agg #[.int .u8 q.dep, .bool q.wr, .int .u8 q.ste, .int .u8 q.ref, .int .u8 q.msk, .int .u8 q.fai, .int .u8 q.hid, .int .u8 q.pas, .int .u8 q.ble, .int .u8 q.cha, .int .u8 q.cul, .int .i64 q.x0, .int .i64 q.y0, .int .i64 q.x1, .int .i64 q.y1, .bool false, .int .u8 0, .int .u8 0, .int .u8 0, .int .u8 0, .int .i64 0, .int .u8 0, .int .u8 0, .int .i64 (vx % sn), .int .i64 (fr % pn), .int .u8 (kind % 5 % 3), .slice pa0 pn0 pc0]) (results_blk (b := b0 + 1 + 1) (t := 4) (ty := 67) rfl rfl HS Try.underlying67 rfl (by kernel_rfl)) rfl ?_
            exact ⟨⟨q, false, ⟨0, 0, 0, 0, 0, 0, 0⟩, (vx % sn), (fr % pn), kind % 5 % 3, ⟨pa0, pn0, pc0⟩⟩, rfl, by simp [DrM.is, drawF, hk4, HQ.out], by simp only [drawF, hk4, if_false, HN.out]; exact o9.mono (by omega), e8⟩
      · skip
        obtain ⟨N, hNN, hN6, hNx⟩ : ∃ N : Nat, N = (min xs.length 6) ∧ N ≤ 6 ∧ N ≤ xs.length := ⟨_, rfl, by omega, by omega⟩
        have hmn : minI (xs.length : Int) 6 = ((min xs.length 6 : Nat) : Int) := by unfold minI; omega
        have hmf := minI_fold
        have hk0 : (kind % 5 % 3 == 0) = false := by simp; omega
        have hN : nidx (kind % 5 % 3) xs.length = N := by unfold nidx; rw [if_neg hw.1, if_neg hw.2]; omega
        have hl3 : ¬ ((min xs.length 6 : Nat) : Int) < 3 := by omega
        have hNm : ((min xs.length 6 : Nat) : Int) = (N : Int) := by omega
        have HN := Lib.hid hN
        clear hN
        clear hNN
        have hNI : (N : Int) ≤ (xs.length : Int) := by omega
        go_wp2_with fail
        have hX' : Arr w .u8 (.slice xa xs.length xc) xs := hX
        have hvn : (vn : Int) ≠ 0 := by omega
        have hvnb : ((vn : Int) == 0) = false := by simp; omega
        go_loopg [72] N (fun n0 iv wx => ∃ (j : Nat) (pv : SlV), j + n0 = N ∧ iv = .int .i64 j ∧ OwnG LI wx (b5 + 1) pv.v (((xs.take N).take j).map (fun y => y % (vn : Int))) ∧ Blk wx b5 #[.int .u8 q.dep, .bool q.wr, .int .u8 q.ste, .int .u8 q.ref, .int .u8 q.msk, .int .u8 q.fai, .int .u8 q.hid, .int .u8 q.pas, .int .u8 q.ble, .int .u8 q.cha, .int .u8 q.cul, .int .i64 q.x0, .int .i64 q.y0, .int .i64 q.x1, .int .i64 q.y1, .bool false, .int .u8 0, .int .u8 0, .int .u8 0, .int .u8 0, .int .i64 0, .int .u8 0, .int .u8 0, .int .i64 (vx % sn), .int .i64 (fr % pn), .int .u8 (kind % 5 % 3), .slice pv.ao pv.n pv.c] 67 ∧ Blk wx b0 #[.int .u8 s.dep, .int .u8 s.ste, .int .u8 s.ref, .int .u8 s.msk, .int .u8 s.fai, .int .u8 s.hid, .int .u8 s.pas, .int .u8 s.ble, .int .u8 s.cha, .int .u8 s.cul, .bool s.wr, .bool s.ez, .int .u8 s.q0, .int .u8 s.q1, .int .u8 s.q2, .int .u8 s.q3, .int .u8 kind, .int .u8 vx, .int .u8 fr, .slice xa xs.length xc, .int .u8 r, .int .u8 g, .int .u8 b, .int .u8 a, .int .u16 dep, .bool false] 79 ∧ Blk wx (b0 + 1) #[.int .i64 sW, .int .i64 sH, .int .i64 m0, .int .i64 m1, .int .i64 m2, .int .i64 m3, .int .i64 m4, .int .i64 m5, .int .i64 m6, .int .i64 m7, .int .i64 m8, .int .i64 m9, .int .i64 m10, .int .i64 m11, .int .i64 m12, .int .i64 m13, .int .i64 m14, .int .i64 m15, .slice va vn vc, .slice sa sn sc, .slice pa pn pc, .slice da dn dc] 42 ∧ Blk wx (b0 + 1 + 1) #[.int .u8 0, .bool false, .int .u8 0, .int .u8 0, .int .u8 0, .int .u8 0, .int .u8 0, .int .u8 0, .int .u8 0, .int .u8 0, .int .u8 0, .int .i64 0, .int .i64 0, .int .i64 0, .int .i64 0, .bool false, .int .u8 0, .int .u8 0, .int .u8 0, .int .u8 0, .int .i64 0, .int .u8 0, .int .u8 0, .int .i64 0, .int .i64 0, .int .u8 0, .slice none 0 0] 67 ∧ Ext w wx ∧ b5 < wx.heap.size)
        case atStart => exact ⟨0, SlV.nil, by omega, by simp, by simpa using OwnG.nil LI w7 (b5 + 1), G, F0', F1', F2', e7, G.lt⟩
        case round =>
          clear G F0' F1' F2' e7 cG cF0 cF1
          obtain ⟨j, pv, hjk, rfl, o1, G1, K0, K1, K2, e1, hb5⟩ := hrel
          by_cases hj : j < N
          · have hjI : (j : Int) < (N : Int) := by omega
            obtain ⟨g, off, rfl, -, hc⟩ := (hX'.ext e1).at j (by omega)
            have c0 := hc j (by omega)
            have hy := bounds_u8 (hX'.wf (xs.getD j 0) (by simp [List.getD, show j < xs.length by omega]))
            have HS := Lib.hid (show ((xs.take N).take (j + 1)).map (fun y => y % (vn : Int)) = ((xs.take N).take j).map (fun y => y % (vn : Int)) ++ [xs.getD j 0 % (vn : Int)] by
              rw [List.take_take, List.take_take, show min (j + 1) N = j + 1 by omega, show min j N = j by omega]
              exact take_map_snoc _ xs j (by omega))
            have hlen : (((xs.take N).take j).map (fun y => y % (vn : Int))).length = j := by simp; omega
            generalize ((xs.take N).take j).map (fun y => y % (vn : Int)) = li at *
            generalize xs.getD j 0 = y at *
            have hyn := Int.emod_nonneg y hvn
            have hvn0 : ¬ vn = 0 := by omega
            have hyw : IntKind.i64.wrap y = y := by rw [IntKind.wrap_i64]; omega
            have hyt : y.tmod (vn : Int) = y % (vn : Int) := Int.tmod_eq_emod_of_nonneg hy.1
            obtain ⟨pa0, pn0, pc0⟩ := pv
            have hpn : j = pn0 := by
              obtain ⟨_, _, e, -, -⟩ := o1.slice
              cases e
              exact hlen.symm
            subst hpn
            dsimp only [SlV.v] at o1 G1
            have o2 := o1.ext (((Ext.refl wr).alloc #[.int .i64 (y % (vn : Int))] 3).drew)
            have e2 := e1.trans (((Ext.refl wr).alloc #[.int .i64 (y % (vn : Int))] 3).drew)
            have G2 := (G1.alloc (.cells #[.int .i64 (y % (vn : Int))] 3)).drew
            have K0' := (K0.alloc (.cells #[.int .i64 (y % (vn : Int))] 3)).drew
            have K1' := (K1.alloc (.cells #[.int .i64 (y % (vn : Int))] 3)).drew
            have K2' := (K2.alloc (.cells #[.int .i64 (y % (vn : Int))] 3)).drew
            have hcn : ∀ i u, (LI.cells (y % (vn : Int)))[i]? = some u → (wr.alloc (.cells #[.int .i64 (y % (vn : Int))] 3)).drew.cell? ⟨wr.heap.size, i, none⟩ = some u := fun i u hu => by
              have : (wr.alloc (.cells #[.int .i64 (y % (vn : Int))] 3)).drew.cell? ⟨wr.heap.size, i, none⟩ = (wr.alloc (.cells #[.int .i64 (y % (vn : Int))] 3)).cell? ⟨wr.heap.size, i, none⟩ := rfl
              rw [this, (Blk.new wr _ _).cell]
              simpa [LI] using hu
            have cG1 := G1.cell
            have cK0 := K0.cell
            have cK1 := K1.cell
            have hO : ∀ k, (Value.slice pa0 j pc0).ownBlock = some k → b5 + 1 ≤ k := fun k hk => (o1.lt k hk).1
            clear hc o1 K0 K1 K2 G1 e1
            have hG2 : b5 ∉ (Value.slice pa0 j pc0).ownBlock.toList := fun h => by have := hO _ (Option.mem_toList.1 h); omega
            have hK0 : b0 ∉ (Value.slice pa0 j pc0).ownBlock.toList := fun h => by have := hO _ (Option.mem_toList.1 h); omega
            have hK1 : b0 + 1 ∉ (Value.slice pa0 j pc0).ownBlock.toList := fun h => by have := hO _ (Option.mem_toList.1 h); omega
            have hK2 : b0 + 1 + 1 ∉ (Value.slice pa0 j pc0).ownBlock.toList := fun h => by have := hO _ (Option.mem_toList.1 h); omega
            go_wp2_with fail
            go_region_law (refine step_append_g1 LI rfl (.tmp 77) (.tmp 84) rfl (b5 + 1) _ _ rfl o2 wr.heap.size 1 (y % (vn : Int)) rfl hcn (by omega) (by simp; omega) ?_; intro v4 w4 o4 A4 hk4; have e4 := Ext.calm_trans e2 A4 (fun g hg => by have := hO g (Option.mem_toList.1 hg); omega); have G4 := G2.calm A4 hG2; have L0 := K0'.calm A4 hK0; have L1 := K1'.calm A4 hK1; have L2 := K2'.calm A4 hK2; have cG4 := G4.cell; have fG4 := G4.frozen; obtain ⟨ao4, c4', rfl, -, -⟩ := o4.slice; clear o2 e2 G2 K0' K1' K2' hcn A4 hk4)
            all_goals go_wp2
            all_goals
              have h5 := o4
              simp only [List.length_append, hlen, List.length_singleton] at h5
              have h6 := h5.calm (calm_setP w4 b5 26 (.slice ao4 (j + 1) c4')) (fun k hk hin => by have := (h5.lt k hk).1; simp at hin; omega)
              have G5 := G4.set 26 (.slice ao4 (j + 1) c4')
              simp only [List.setIfInBounds_toArray, List.set_cons_succ, List.set_cons_zero] at G5
              have L0' := L0.far (p := ⟨b5, 26, none⟩) hne0 (.slice ao4 (j + 1) c4')
              have L1' := L1.far (p := ⟨b5, 26, none⟩) hne1 (.slice ao4 (j + 1) c4')
              have L2' := L2.far (p := ⟨b5, 26, none⟩) hne (.slice ao4 (j + 1) c4')
              have e5 := e4.setCell (p := ⟨b5, 26, none⟩) hle (.slice ao4 (j + 1) c4')
              go_roundg (gk - 1)
              case measure => omega
              case rel => exact ⟨j + 1, ⟨ao4, j + 1, c4'⟩, by omega, by simp, by rw [HS.out]; exact h6, G5, L0', L1', L2', e5, G5.lt⟩
          · obtain rfl : j = N := by omega
            obtain ⟨pa0, pn0, pc0⟩ := pv
            dsimp only [SlV.v] at o1 G1
            have HS := K2.setRow #[.int .u8 q.dep, .bool q.wr, .int .u8 q.ste, .int .u8 q.ref, .int .u8 q.msk, .int .u8 q.fai, .int .u8 q.hid, .int .u8 q.pas, .int .u8 q.ble, .int .u8 q.cha, .int .u8 q.cul, .int .i64 q.x0, .int .i64 q.y0, .int .i64 q.x1, .int .i64 q.y1, .bool false, .int .u8 0, .int .u8 0, .int .u8 0, .int .u8 0, .int .i64 0, .int .u8 0, .int .u8 0, .int .i64 (vx % sn), .int .i64 (fr % pn), .int .u8 (kind % 5 % 3), .slice pa0 pn0 pc0]
            have e8 := e1.setRow (g := b0 + 1 + 1) (by omega) #[.int .u8 q.dep, .bool q.wr, .int .u8 q.ste, .int .u8 q.ref, .int .u8 q.msk, .int .u8 q.fai, .int .u8 q.hid, .int .u8 q.pas, .int .u8 q.ble, .int .u8 q.cha, .int .u8 q.cul, .int .i64 q.x0, .int .i64 q.y0, .int .i64 q.x1, .int .i64 q.y1, .bool false, .int .u8 0, .int .u8 0, .int .u8 0, .int .u8 0, .int .i64 0, .int .u8 0, .int .u8 0, .int .i64 (vx % sn), .int .i64 (fr % pn), .int .u8 (kind % 5 % 3), .slice pa0 pn0 pc0]
            have o9 := o1.ownI.calm (calm_setRow wr (b0 + 1 + 1) #[.int .u8 q.dep, .bool q.wr, .int .u8 q.ste, .int .u8 q.ref, .int .u8 q.msk, .int .u8 q.fai, .int .u8 q.hid, .int .u8 q.pas, .int .u8 q.ble, .int .u8 q.cha, .int .u8 q.cul, .int .i64 q.x0, .int .i64 q.y0, .int .i64 q.x1, .int .i64 q.y1, .bool false, .int .u8 0, .int .u8 0, .int .u8 0, .int .u8 0, .int .i64 0, .int .u8 0, .int .u8 0, .int .i64 (vx % sn), .int .i64 (fr % pn), .int .u8 (kind % 5 % 3), .slice pa0 pn0 pc0]) (fun k hk hin => by have := (o1.ownI.lt k hk).1; simp at hin; omega)
            rw [List.take_take, Nat.min_self] at o9
            clear e1 o1 K0 K1
            go_wp2_with (first
              | ((with_reducible refine wpList_load_blk (op := ⟨some 88, _, _, _, _, _⟩) ?_ 67 (.tmp 5) ?_ b5 ?_ (z := #[.int .u8 q.dep, .bool q.wr, .int .u8 q.ste, .int .u8 q.ref, .int .u8 q.msk, .int .u8 q.fai, .int .u8 q.hid, .int .u8 q.pas, .int .u8 q.ble, .int .u8 q.cha, .int .u8 q.cul, .int .i64 q.x0, .int .i64 q.y0, .int .i64 q.x1, .int .i64 q.y1, .bool false, .int .u8 0, .int .u8 0, .int .u8 0, .int .u8 0, .int .i64 0, .int .u8 0, .int .u8 0, .int .i64 (vx % sn), .int .i64 (fr % pn), .int .u8 (kind % 5 % 3), .slice pa0 pn0 pc0]) (T := 67) G1 Try.underlying67 ?_ ?_ ?_); rfl; rfl; rfl; rfl; kernel_rfl)
              | ((with_reducible refine wpList_store_blk (op := ⟨none, .store 67 (.tmp 4) (.tmp 88), _, _, _, _⟩) ?_ 67 (.tmp 4) (.tmp 88) ?_ (b0 + 1 + 1) ?_ (cs := #[.int .u8 q.dep, .bool q.wr, .int .u8 q.ste, .int .u8 q.ref, .int .u8 q.msk, .int .u8 q.fai, .int .u8 q.hid, .int .u8 q.pas, .int .u8 q.ble, .int .u8 q.cha, .int .u8 q.cul, .int .i64 q.x0, .int .i64 q.y0, .int .i64 q.x1, .int .i64 q.y1, .bool false, .int .u8 0, .int .u8 0, .int .u8 0, .int .u8 0, .int .i64 0, .int .u8 0, .int .u8 0, .int .i64 (vx % sn), .int .i64 (fr % pn), .int .u8 (kind % 5 % 3), .slice pa0 pn0 pc0]) ?_ (z := #[.int .u8 0, .bool false, .int .u8 0, .int .u8 0, .int .u8 0, .int .u8 0, .int .u8 0, .int .u8 0, .int .u8 0, .int .u8 0, .int .u8 0, .int .i64 0, .int .i64 0, .int .i64 0, .int .i64 0, .bool false, .int .u8 0, .int .u8 0, .int .u8 0, .int .u8 0, .int .i64 0, .int .u8 0, .int .u8 0, .int .i64 0, .int .i64 0, .int .u8 0, .slice none 0 0]) (T := 67) ?_ ?_ ?_ ?_ ?_); rfl; rfl; rfl; rfl; exact K2; kernel_rfl; kernel_rfl; kernel_rfl)
              | fail)
            refine bodyPost_ret (v := .agg #[.int .u8 q.dep, .bool q.wr, .int .u8 q.ste, .int .u8 q.ref, .int .u8 q.msk, .int .u8 q.fai, .int .u8 q.hid, .int .u8 q.pas, .int .u8 q.ble, .int .u8 q.cha, .int .u8 q.cul, .int .i64 q.x0, .int .i64 q.y0, .int .i64 q.x1, .int .i64 q.y1, .bool false, .int .u8 0, .int .u8 0, .int .u8 0, .int .u8 0, .int .i64 0, .int .u8 0, .int .u8 0, .int .i64 (vx % sn), .int .i64 (fr % pn), .int .u8 (kind % 5 % 3), .slice pa0 pn0 pc0]) (results_blk (b := b0 + 1 + 1) (t := 4) (ty := 67) rfl rfl HS Try.underlying67 rfl (by kernel_rfl)) rfl ?_
            exact ⟨⟨q, false, ⟨0, 0, 0, 0, 0, 0, 0⟩, (vx % sn), (fr % pn), kind % 5 % 3, ⟨pa0, pn0, pc0⟩⟩, rfl, by simp [DrM.is, drawF, hk4, HQ.out], by simp only [drawF, hk4, if_false, HN.out]; exact o9.mono (by omega), e8⟩
    · go_upto_region 9 with fail
      have G : Blk (w5.setCell ⟨b5, 25, none⟩ (.int .u8 (kind % 5 % 3))) b5 #[.int .u8 q.dep, .bool q.wr, .int .u8 q.ste, .int .u8 q.ref, .int .u8 q.msk, .int .u8 q.fai, .int .u8 q.hid, .int .u8 q.pas, .int .u8 q.ble, .int .u8 q.cha, .int .u8 q.cul, .int .i64 q.x0, .int .i64 q.y0, .int .i64 q.x1, .int .i64 q.y1, .bool false, .int .u8 0, .int .u8 0, .int .u8 0, .int .u8 0, .int .i64 0, .int .u8 0, .int .u8 0, .int .i64 0, .int .i64 0, .int .u8 (kind % 5 % 3), .slice none 0 0] 67 := by
        have := E5.set 25 (.int .u8 (kind % 5 % 3))
        simp only [List.setIfInBounds_toArray, List.set_cons_succ, List.set_cons_zero] at this
        exact this
      have F0' := F0.far (p := ⟨b5, 25, none⟩) hne0 (.int .u8 (kind % 5 % 3))
      have F1' := F1.far (p := ⟨b5, 25, none⟩) hne1 (.int .u8 (kind % 5 % 3))
      have F2' := F2.far (p := ⟨b5, 25, none⟩) hne (.int .u8 (kind % 5 % 3))
      have e7 := e5.setCell (p := ⟨b5, 25, none⟩) hle (.int .u8 (kind % 5 % 3))
      clear E5 F0 F1 F2 cE5 fE5 cF0 cF1 e5
      generalize w5.setCell ⟨b5, 25, none⟩ (.int .u8 (kind % 5 % 3)) = w7 at *
      have cG := G.cell
      have cF0 := F0'.cell
      have cF1 := F1'.cell
      rcases (by omega : kind % 5 % 3 = 0 ∨ (¬ kind % 5 % 3 = 0 ∧ min xs.length 6 < 3) ∨ (¬ kind % 5 % 3 = 0 ∧ ¬ min xs.length 6 < 3)) with hw | hw | hw
      · skip
        obtain ⟨N, hNN, hN6, hNx⟩ : ∃ N : Nat, N = (min xs.length 6 / 3 * 3) ∧ N ≤ 6 ∧ N ≤ xs.length := ⟨_, rfl, by omega, by omega⟩
        have hmn : minI (xs.length : Int) 6 = ((min xs.length 6 : Nat) : Int) := by unfold minI; omega
        have hmf := minI_fold
        have hk0 : (kind % 5 % 3 == 0) = true := by simp [hw]
        have hN : nidx (kind % 5 % 3) xs.length = N := by unfold nidx; rw [if_pos hw]; omega
        have t1 : ((min xs.length 6 : Nat) : Int).tdiv 3 = ((min xs.length 6 / 3 : Nat) : Int) := by rw [Int.tdiv_eq_ediv_of_nonneg (by omega)]; omega
        have t2 : ((min xs.length 6 / 3 : Nat) : Int) * 3 = (N : Int) := by omega
        have hw' := Lib.hid hw
        clear hw
        generalize min xs.length 6 / 3 = mq at *
        have HN := Lib.hid hN
        clear hN
        clear hNN
        have hNI : (N : Int) ≤ (xs.length : Int) := by omega
        go_wp2_with fail
        have hX' : Arr w .u8 (.slice xa xs.length xc) xs := hX
        have hvn : (vn : Int) ≠ 0 := by omega
        have hvnb : ((vn : Int) == 0) = false := by simp; omega
        go_loopg [72] N (fun n0 iv wx => ∃ (j : Nat) (pv : SlV), j + n0 = N ∧ iv = .int .i64 j ∧ OwnG LI wx (b5 + 1) pv.v (((xs.take N).take j).map (fun y => y % (vn : Int))) ∧ Blk wx b5 #[.int .u8 q.dep, .bool q.wr, .int .u8 q.ste, .int .u8 q.ref, .int .u8 q.msk, .int .u8 q.fai, .int .u8 q.hid, .int .u8 q.pas, .int .u8 q.ble, .int .u8 q.cha, .int .u8 q.cul, .int .i64 q.x0, .int .i64 q.y0, .int .i64 q.x1, .int .i64 q.y1, .bool false, .int .u8 0, .int .u8 0, .int .u8 0, .int .u8 0, .int .i64 0, .int .u8 0, .int .u8 0, .int .i64 0, .int .i64 0, .int .u8 (kind % 5 % 3), .slice pv.ao pv.n pv.c] 67 ∧ Blk wx b0 #[.int .u8 s.dep, .int .u8 s.ste, .int .u8 s.ref, .int .u8 s.msk, .int .u8 s.fai, .int .u8 s.hid, .int .u8 s.pas, .int .u8 s.ble, .int .u8 s.cha, .int .u8 s.cul, .bool s.wr, .bool s.ez, .int .u8 s.q0, .int .u8 s.q1, .int .u8 s.q2, .int .u8 s.q3, .int .u8 kind, .int .u8 vx, .int .u8 fr, .slice xa xs.length xc, .int .u8 r, .int .u8 g, .int .u8 b, .int .u8 a, .int .u16 dep, .bool true] 79 ∧ Blk wx (b0 + 1) #[.int .i64 sW, .int .i64 sH, .int .i64 m0, .int .i64 m1, .int .i64 m2, .int .i64 m3, .int .i64 m4, .int .i64 m5, .int .i64 m6, .int .i64 m7, .int .i64 m8, .int .i64 m9, .int .i64 m10, .int .i64 m11, .int .i64 m12, .int .i64 m13, .int .i64 m14, .int .i64 m15, .slice va vn vc, .slice sa sn sc, .slice pa pn pc, .slice da dn dc] 42 ∧ Blk wx (b0 + 1 + 1) #[.int .u8 0, .bool false, .int .u8 0, .int .u8 0, .int .u8 0, .int .u8 0, .int .u8 0, .int .u8 0, .int .u8 0, .int .u8 0, .int .u8 0, .int .i64 0, .int .i64 0, .int .i64 0, .int .i64 0, .bool false, .int .u8 0, .int .u8 0, .int .u8 0, .int .u8 0, .int .i64 0, .int .u8 0, .int .u8 0, .int .i64 0, .int .i64 0, .int .u8 0, .slice none 0 0] 67 ∧ Ext w wx ∧ b5 < wx.heap.size)
        case atStart => exact ⟨0, SlV.nil, by omega, by simp, by simpa using OwnG.nil LI w7 (b5 + 1), G, F0', F1', F2', e7, G.lt⟩
        case round =>
          clear G F0' F1' F2' e7 cG cF0 cF1
          obtain ⟨j, pv, hjk, rfl, o1, G1, K0, K1, K2, e1, hb5⟩ := hrel
          by_cases hj : j < N
          · have hjI : (j : Int) < (N : Int) := by omega
            obtain ⟨g, off, rfl, -, hc⟩ := (hX'.ext e1).at j (by omega)
            have c0 := hc j (by omega)
            have hy := bounds_u8 (hX'.wf (xs.getD j 0) (by simp [List.getD, show j < xs.length by omega]))
            have HS := Lib.hid (show ((xs.take N).take (j + 1)).map (fun y => y % (vn : Int)) = ((xs.take N).take j).map (fun y => y % (vn : Int)) ++ [xs.getD j 0 % (vn : Int)] by
              rw [List.take_take, List.take_take, show min (j + 1) N = j + 1 by omega, show min j N = j by omega]
              exact take_map_snoc _ xs j (by omega))
            have hlen : (((xs.take N).take j).map (fun y => y % (vn : Int))).length = j := by simp; omega
            generalize ((xs.take N).take j).map (fun y => y % (vn : Int)) = li at *
            generalize xs.getD j 0 = y at *
            have hyn := Int.emod_nonneg y hvn
            have hvn0 : ¬ vn = 0 := by omega
            have hyw : IntKind.i64.wrap y = y := by rw [IntKind.wrap_i64]; omega
            have hyt : y.tmod (vn : Int) = y % (vn : Int) := Int.tmod_eq_emod_of_nonneg hy.1
            obtain ⟨pa0, pn0, pc0⟩ := pv
            have hpn : j = pn0 := by
              obtain ⟨_, _, e, -, -⟩ := o1.slice
              cases e
              exact hlen.symm
            subst hpn
            dsimp only [SlV.v] at o1 G1
            have o2 := o1.ext (((Ext.refl wr).alloc #[.int .i64 (y % (vn : Int))] 3).drew)
            have e2 := e1.trans (((Ext.refl wr).alloc #[.int .i64 (y % (vn : Int))] 3).drew)
            have G2 := (G1.alloc (.cells #[.int .i64 (y % (vn : Int))] 3)).drew
            have K0' := (K0.alloc (.cells #[.int .i64 (y % (vn : Int))] 3)).drew
            have K1' := (K1.alloc (.cells #[.int .i64 (y % (vn : Int))] 3)).drew
            have K2' := (K2.alloc (.cells #[.int .i64 (y % (vn : Int))] 3)).drew
            have hcn : ∀ i u, (LI.cells (y % (vn : Int)))[i]? = some u → (wr.alloc (.cells #[.int .i64 (y % (vn : Int))] 3)).drew.cell? ⟨wr.heap.size, i, none⟩ = some u := fun i u hu => by
              have : (wr.alloc (.cells #[.int .i64 (y % (vn : Int))] 3)).drew.cell? ⟨wr.heap.size, i, none⟩ = (wr.alloc (.cells #[.int .i64 (y % (vn : Int))] 3)).cell? ⟨wr.heap.size, i, none⟩ := rfl
              rw [this, (Blk.new wr _ _).cell]
              simpa [LI] using hu
            have cG1 := G1.cell
            have cK0 := K0.cell
            have cK1 := K1.cell
            have hO : ∀ k, (Value.slice pa0 j pc0).ownBlock = some k → b5 + 1 ≤ k := fun k hk => (o1.lt k hk).1
            clear hc o1 K0 K1 K2 G1 e1
            have hG2 : b5 ∉ (Value.slice pa0 j pc0).ownBlock.toList := fun h => by have := hO _ (Option.mem_toList.1 h); omega
            have hK0 : b0 ∉ (Value.slice pa0 j pc0).ownBlock.toList := fun h => by have := hO _ (Option.mem_toList.1 h); omega
            have hK1 : b0 + 1 ∉ (Value.slice pa0 j pc0).ownBlock.toList := fun h => by have := hO _ (Option.mem_toList.1 h); omega
            have hK2 : b0 + 1 + 1 ∉ (Value.slice pa0 j pc0).ownBlock.toList := fun h => by have := hO _ (Option.mem_toList.1 h); omega
            go_wp2_with fail
            go_region_law (refine step_append_g1 LI rfl (.tmp 77) (.tmp 84) rfl (b5 + 1) _ _ rfl o2 wr.heap.size 1 (y % (vn : Int)) rfl hcn (by omega) (by simp; omega) ?_; intro v4 w4 o4 A4 hk4; have e4 := Ext.calm_trans e2 A4 (fun g hg => by have := hO g (Option.mem_toList.1 hg); omega); have G4 := G2.calm A4 hG2; have L0 := K0'.calm A4 hK0; have L1 := K1'.calm A4 hK1; have L2 := K2'.calm A4 hK2; have cG4 := G4.cell; have fG4 := G4.frozen; obtain ⟨ao4, c4', rfl, -, -⟩ := o4.slice; clear o2 e2 G2 K0' K1' K2' hcn A4 hk4)
            all_goals go_wp2
            all_goals
              have h5 := o4
              simp only [List.length_append, hlen, List.length_singleton] at h5
              have h6 := h5.calm (calm_setP w4 b5 26 (.slice ao4 (j + 1) c4')) (fun k hk hin => by have := (h5.lt k hk).1; simp at hin; omega)
              have G5 := G4.set 26 (.slice ao4 (j + 1) c4')
              simp only [List.setIfInBounds_toArray, List.set_cons_succ, List.set_cons_zero] at G5
              have L0' := L0.far (p := ⟨b5, 26, none⟩) hne0 (.slice ao4 (j + 1) c4')
              have L1' := L1.far (p := ⟨b5, 26, none⟩) hne1 (.slice ao4 (j + 1) c4')
              have L2' := L2.far (p := ⟨b5, 26, none⟩) hne (.slice ao4 (j + 1) c4')
              have e5 := e4.setCell (p := ⟨b5, 26, none⟩) hle (.slice ao4 (j + 1) c4')
              go_roundg (gk - 1)
              case measure => omega
              case rel => exact ⟨j + 1, ⟨ao4, j + 1, c4'⟩, by omega, by simp, by rw [HS.out]; exact h6, G5, L0', L1', L2', e5, G5.lt⟩
          · obtain rfl : j = N := by omega
            obtain ⟨pa0, pn0, pc0⟩ := pv
            dsimp only [SlV.v] at o1 G1
            have HS := K2.setRow #[.int .u8 q.dep, .bool q.wr, .int .u8 q.ste, .int .u8 q.ref, .int .u8 q.msk, .int .u8 q.fai, .int .u8 q.hid, .int .u8 q.pas, .int .u8 q.ble, .int .u8 q.cha, .int .u8 q.cul, .int .i64 q.x0, .int .i64 q.y0, .int .i64 q.x1, .int .i64 q.y1, .bool false, .int .u8 0, .int .u8 0, .int .u8 0, .int .u8 0, .int .i64 0, .int .u8 0, .int .u8 0, .int .i64 0, .int .i64 0, .int .u8 (kind % 5 % 3), .slice pa0 pn0 pc0]
            have e8 := e1.setRow (g := b0 + 1 + 1) (by omega) #[.int .u8 q.dep, .bool q.wr, .int .u8 q.ste, .int .u8 q.ref, .int .u8 q.msk, .int .u8 q.fai, .int .u8 q.hid, .int .u8 q.pas, .int .u8 q.ble, .int .u8 q.cha, .int .u8 q.cul, .int .i64 q.x0, .int .i64 q.y0, .int .i64 q.x1, .int .i64 q.y1, .bool false, .int .u8 0, .int .u8 0, .int .u8 0, .int .u8 0, .int .i64 0, .int .u8 0, .int .u8 0, .int .i64 0, .int .i64 0, .int .u8 (kind % 5 % 3), .slice pa0 pn0 pc0]
            have o9 := o1.ownI.calm (calm_setRow wr (b0 + 1 + 1) #[.int .u8 q.dep, .bool q.wr, .int .u8 q.ste, .int .u8 q.ref, .int .u8 q.msk, .int .u8 q.fai, .int .u8 q.hid, .int .u8 q.pas, .int .u8 q.ble, .int .u8 q.cha, .int .u8 q.cul, .int .i64 q.x0, .int .i64 q.y0, .int .i64 q.x1, .int .i64 q.y1, .bool false, .int .u8 0, .int .u8 0, .int .u8 0, .int .u8 0, .int .i64 0, .int .u8 0, .int .u8 0, .int .i64 0, .int .i64 0, .int .u8 (kind % 5 % 3), .slice pa0 pn0 pc0]) (fun k hk hin => by have := (o1.ownI.lt k hk).1; simp at hin; omega)
            rw [List.take_take, Nat.min_self] at o9
            clear e1 o1 K0 K1
            go_wp2_with (first
              | ((with_reducible refine wpList_load_blk (op := ⟨some 88, _, _, _, _, _⟩) ?_ 67 (.tmp 5) ?_ b5 ?_ (z := #[.int .u8 q.dep, .bool q.wr, .int .u8 q.ste, .int .u8 q.ref, .int .u8 q.msk, .int .u8 q.fai, .int .u8 q.hid, .int .u8 q.pas, .int .u8 q.ble, .int .u8 q.cha, .int .u8 q.cul, .int .i64 q.x0, .int .i64 q.y0, .int .i64 q.x1, .int .i64 q.y1, .bool false, .int .u8 0, .int .u8 0, .int .u8 0, .int .u8 0, .int .i64 0, .int .u8 0, .int .u8 0, .int .i64 0, .int .i64 0, .int .u8 (kind % 5 % 3), .slice pa0 pn0 pc0]) (T := 67) G1 Try.underlying67 ?_ ?_ ?_); rfl; rfl; rfl; rfl; kernel_rfl)
              | ((with_reducible refine wpList_store_blk (op := ⟨none, .store 67 (.tmp 4) (.tmp 88), _, _, _, _⟩) ?_ 67 (.tmp 4) (.tmp 88) ?_ (b0 + 1 + 1) ?_ (cs := #[.int .u8 q.dep, .bool q.wr, .int .u8 q.ste, .int .u8 q.ref, .int .u8 q.msk, .int .u8 q.fai, .int .u8 q.hid, .int .u8 q.pas, .int .u8 q.ble, .int .u8 q.cha, .int .u8 q.cul, .int .i64 q.x0, .int .i64 q.y0, .int .i64 q.x1, .int .i64 q.y1, .bool false, .int .u8 0, .int .u8 0, .int .u8 0, .int .u8 0, .int .i64 0, .int .u8 0, .int .u8 0, .int .i64 0, .int .i64 0, .int .u8 (kind % 5 % 3), .slice pa0 pn0 pc0]) ?_ (z := #[.int .u8 0, .bool false, .int .u8 0, .int .u8 0, .int .u8 0, .int .u8 0, .int .u8 0, .int .u8 0, .int .u8 0, .int .u8 0, .int .u8 0, .int .i64 0, .int .i64 0, .int .i64 0, .int .i64 0, .bool false, .int .u8 0, .int .u8 0, .int .u8 0, .int .u8 0, .int .i64 0, .int .u8 0, .int .u8 0, .int .i64 0, .int .i64 0, .int .u8 0, .slice none 0 0]) (T := 67) ?_ ?_ ?_ ?_ ?_); rfl; rfl; rfl; rfl; exact K2; kernel_rfl; kernel_rfl; kernel_rfl)
              | fail)
            refine bodyPost_ret (v := .agg #[.int .u8 q.dep, .bool q.wr, .int .u8 q.ste, .int .u8 q.ref, .int .u8 q.msk, .int .u8 q.fai, .int .u8 q.hid, .int .u8 q.pas, .int .u8 q.ble, .int .u8 q.cha, .int .u8 q.cul, .int .i64 q.x0, .int .i64 q.y0, .int .i64 q.x1, .int .i64 q.y1, .bool false, .int .u8 0, .int .u8 0, .int .u8 0, .int .u8 0, .int .i64 0, .int .u8 0, .int .u8 0, .int .i64 0, .int .i64 0, .int .u8 (kind % 5 % 3), .slice pa0 pn0 pc0]) (results_blk (b := b0 + 1 + 1) (t := 4) (ty := 67) rfl rfl HS Try.underlying67 rfl (by kernel_rfl)) rfl ?_
            exact ⟨⟨q, false, ⟨0, 0, 0, 0, 0, 0, 0⟩, 0, 0, kind % 5 % 3, ⟨pa0, pn0, pc0⟩⟩, rfl, by simp [DrM.is, drawF, hk4, HQ.out], by simp only [drawF, hk4, if_false, HN.out]; exact o9.mono (by omega), e8⟩
      · skip
        obtain ⟨N, hNN, hN6, hNx⟩ : ∃ N : Nat, N = 0 ∧ N ≤ 6 ∧ N ≤ xs.length := ⟨_, rfl, by omega, by omega⟩
        have hmn : minI (xs.length : Int) 6 = ((min xs.length 6 : Nat) : Int) := by unfold minI; omega
        have hmf := minI_fold
        have hk0 : (kind % 5 % 3 == 0) = false := by simp; omega
        have hN : nidx (kind % 5 % 3) xs.length = N := by unfold nidx; rw [if_neg hw.1, if_pos hw.2]; omega
        have hl3 : ((min xs.length 6 : Nat) : Int) < 3 := by omega
        have HN := Lib.hid hN
        clear hN
        subst hNN
        have hNI : (0 : Int) ≤ (xs.length : Int) := by omega
        go_wp2_with fail
        have hX' : Arr w .u8 (.slice xa xs.length xc) xs := hX
        have hvn : (vn : Int) ≠ 0 := by omega
        have hvnb : ((vn : Int) == 0) = false := by simp; omega
        go_loopg [72] 0 (fun n0 iv wx => ∃ (j : Nat) (pv : SlV), j + n0 = 0 ∧ iv = .int .i64 j ∧ OwnG LI wx (b5 + 1) pv.v (((xs.take 0).take j).map (fun y => y % (vn : Int))) ∧ Blk wx b5 #[.int .u8 q.dep, .bool q.wr, .int .u8 q.ste, .int .u8 q.ref, .int .u8 q.msk, .int .u8 q.fai, .int .u8 q.hid, .int .u8 q.pas, .int .u8 q.ble, .int .u8 q.cha, .int .u8 q.cul, .int .i64 q.x0, .int .i64 q.y0, .int .i64 q.x1, .int .i64 q.y1, .bool false, .int .u8 0, .int .u8 0, .int .u8 0, .int .u8 0, .int .i64 0, .int .u8 0, .int .u8 0, .int .i64 0, .int .i64 0, .int .u8 (kind % 5 % 3), .slice pv.ao pv.n pv.c] 67 ∧ Blk wx b0 #[.int .u8 s.dep, .int .u8 s.ste, .int .u8 s.ref, .int .u8 s.msk, .int .u8 s.fai, .int .u8 s.hid, .int .u8 s.pas, .int .u8 s.ble, .int .u8 s.cha, .int .u8 s.cul, .bool s.wr, .bool s.ez, .int .u8 s.q0, .int .u8 s.q1, .int .u8 s.q2, .int .u8 s.q3, .int .u8 kind, .int .u8 vx, .int .u8 fr, .slice xa xs.length xc, .int .u8 r, .int .u8 g, .int .u8 b, .int .u8 a, .int .u16 dep, .bool true] 79 ∧ Blk wx (b0 + 1) #[.int .i64 sW, .int .i64 sH, .int .i64 m0, .int .i64 m1, .int .i64 m2, .int .i64 m3, .int .i64 m4, .int .i64 m5, .int .i64 m6, .int .i64 m7, .int .i64 m8, .int .i64 m9, .int .i64 m10, .int .i64 m11, .int .i64 m12, .int .i64 m13, .int .i64 m14, .int .i64 m15, .slice va vn vc, .slice sa sn sc, .slice pa pn pc, .slice da dn dc] 42 ∧ Blk wx (b0 + 1 + 1) #[.int .u8 0, .bool false, .int .u8 0, .int .u8 0, .int .u8 0, .int .u8 0, .int .u8 0, .int .u8 0, .int .u8 0, .int .u8 0, .int .u8 0, .int .i64 0, .int .i64 0, .int .i64 0, .int .i64 0, .bool false, .int .u8 0, .int .u8 0, .int .u8 0, .int .u8 0, .int .i64 0, .int .u8 0, .int .u8 0, .int .i64 0, .int .i64 0, .int .u8 0, .slice none 0 0] 67 ∧ Ext w wx ∧ b5 < wx.heap.size)
        case atStart => exact ⟨0, SlV.nil, by omega, by simp, by simpa using OwnG.nil LI w7 (b5 + 1), G, F0', F1', F2', e7, G.lt⟩
        case round =>
          clear G F0' F1' F2' e7 cG cF0 cF1
          obtain ⟨j, pv, hjk, rfl, o1, G1, K0, K1, K2, e1, hb5⟩ := hrel
          by_cases hj : j < 0
          · exact absurd hj (by omega)
          · obtain rfl : j = 0 := by omega
            obtain ⟨pa0, pn0, pc0⟩ := pv
            dsimp only [SlV.v] at o1 G1
            have HS := K2.setRow #[.int .u8 q.dep, .bool q.wr, .int .u8 q.ste, .int .u8 q.ref, .int .u8 q.msk, .int .u8 q.fai, .int .u8 q.hid, .int .u8 q.pas, .int .u8 q.ble, .int .u8 q.cha, .int .u8 q.cul, .int .i64 q.x0, .int .i64 q.y0, .int .i64 q.x1, .int .i64 q.y1, .bool false, .int .u8 0, .int .u8 0, .int .u8 0, .int .u8 0, .int .i64 0, .int .u8 0, .int .u8 0, .int .i64 0, .int .i64 0, .int .u8 (kind % 5 % 3), .slice pa0 pn0 pc0]
            have e8 := e1.setRow (g := b0 + 1 + 1) (by omega) #[.int .u8 q.dep, .bool q.wr, .int .u8 q.ste, .int .u8 q.ref, .int .u8 q.msk, .int .u8 q.fai, .int .u8 q.hid, .int .u8 q.pas, .int .u8 q.ble, .int .u8 q.cha, .int .u8 q.cul, .int .i64 q.x0, .int .i64 q.y0, .int .i64 q.x1, .int .i64 q.y1, .bool false, .int .u8 0, .int .u8 0, .int .u8 0, .int .u8 0, .int .i64 0, .int .u8 0, .int .u8 0, .int .i64 0, .int .i64 0, .int .u8 (kind % 5 % 3), .slice pa0 pn0 pc0]
            have o9 := o1.ownI.calm (calm_setRow wr (b0 + 1 + 1) #[.int .u8 q.dep, .bool q.wr, .int .u8 q.ste, .int .u8 q.ref, .int .u8 q.msk, .int .u8 q.fai, .int .u8 q.hid, .int .u8 q.pas, .int .u8 q.ble, .int .u8 q.cha, .int .u8 q.cul, .int .i64 q.x0, .int .i64 q.y0, .int .i64 q.x1, .int .i64 q.y1, .bool false, .int .u8 0, .int .u8 0, .int .u8 0, .int .u8 0, .int .i64 0, .int .u8 0, .int .u8 0, .int .i64 0, .int .i64 0, .int .u8 (kind % 5 % 3), .slice pa0 pn0 pc0]) (fun k hk hin => by have := (o1.ownI.lt k hk).1; simp at hin; omega)
            rw [List.take_take, Nat.min_self] at o9
            clear e1 o1 K0 K1
            go_wp2_with (first
              | ((with_reducible refine wpList_load_blk (op := ⟨some 88, _, _, _, _, _⟩) ?_ 67 (.tmp 5) ?_ b5 ?_ (z := #[.int .u8 q.dep, .bool q.wr, .int .u8 q.ste, .int .u8 q.ref, .int .u8 q.msk, .int .u8 q.fai, .int .u8 q.hid, .int .u8 q.pas, .int .u8 q.ble, .int .u8 q.cha, .int .u8 q.cul, .int .i64 q.x0, .int .i64 q.y0, .int .i64 q.x1, .int .i64 q.y1, .bool false, .int .u8 0, .int .u8 0, .int .u8 0, .int .u8 0, .int .i64 0, .int .u8 0, .int .u8 0, .int .i64 0, .int .i64 0, .int .u8 (kind % 5 % 3), .slice pa0 pn0 pc0]) (T := 67) G1 Try.underlying67 ?_ ?_ ?_); rfl; rfl; rfl; rfl; kernel_rfl)
              | ((with_reducible refine wpList_store_blk (op := ⟨none, .store 67 (.tmp 4) (.tmp 88), _, _, _, _⟩) ?_ 67 (.tmp 4) (.tmp 88) ?_ (b0 + 1 + 1) ?_ (cs := #[.int .u8 q.dep, .bool q.wr, .int .u8 q.ste, .int .u8 q.ref, .int .u8 q.msk, .int .u8 q.fai, .int .u8 q.hid, .int .u8 q.pas, .int .u8 q.ble, .int .u8 q.cha, .int .u8 q.cul, .int .i64 q.x0, .int .i64 q.y0, .int .i64 q.x1, .int .i64 q.y1, .bool false, .int .u8 0, .int .u8 0, .int .u8 0, .int .u8 0, .int .i64 0, .int .u8 0, .int .u8 0, .int .i64 0, .int .i64 0, .int .u8 (kind % 5 % 3), .slice pa0 pn0 pc0]) ?_ (z := #[.int .u8 0, .bool false, .int .u8 0, .int .u8 0, .int .u8 0, .int .u8 0, .int .u8 0, .int .u8 0, .int .u8 0, .int .u8 0, .int .u8 0, .int .i64 0, .int .i64 0, .int .i64 0, .int .i64 0, .bool false, .int .u8 0, .int .u8 0, .int .u8 0, .int .u8 0, .int .i64 0, .int .u8 0, .int .u8 0, .int .i64 0, .int .i64 0, .int .u8 0, .slice none 0 0]) (T := 67) ?_ ?_ ?_ ?_ ?_); rfl; rfl; rfl; rfl; exact K2; kernel_rfl; kernel_rfl; kernel_rfl)
              | fail)
            refine bodyPost_ret (v := .agg #[.int .u8 q.dep, .bool q.wr, .int .u8 q.ste, .int .u8 q.ref, .int .u8 q.msk, .int .u8 q.fai, .int .u8 q.hid, .int .u8 q.pas, .int .u8 q.ble, .int .u8 q.cha, .int .u8 q.cul, .int .i64 q.x0, .int .i64 q.y0, .int .i64 q.x1, .int .i64 q.y1, .bool false, .int .u8 0, .int .u8 0, .int .u8 0, .int .u8 0, .int .i64 0, .int .u8 0, .int .u8 0, .int .i64 0, .int .i64 0, .int .u8 (kind % 5 % 3), .slice pa0 pn0 pc0]) (results_blk (b := b0 + 1 + 1) (t := 4) (ty := 67) rfl rfl HS Try.underlying67 rfl (by kernel_rfl)) rfl ?_
            exact ⟨⟨q, false, ⟨0, 0, 0, 0, 0, 0, 0⟩, 0, 0, kind % 5 % 3, ⟨pa0, pn0, pc0⟩⟩, rfl, by simp [DrM.is, drawF, hk4, HQ.out], by simp only [drawF, hk4, if_false, HN.out]; exact o9.mono (by omega), e8⟩
      · skip
        obtain ⟨N, hNN, hN6, hNx⟩ : ∃ N : Nat, N = (min xs.length 6) ∧ N ≤ 6 ∧ N ≤ xs.length := ⟨_, rfl, by omega, by omega⟩
        have hmn : minI (xs.length : Int) 6 = ((min xs.length 6 : Nat) : Int) := by unfold minI; omega
        have hmf := minI_fold
        have hk0 : (kind % 5 % 3 == 0) = false := by simp; omega
        have hN : nidx (kind % 5 % 3) xs.length = N := by unfold nidx; rw [if_neg hw.1, if_neg hw.2]; omega
        have hl3 : ¬ ((min xs.length 6 : Nat) : Int) < 3 := by omega
        have hNm : ((min xs.length 6 : Nat) : Int) = (N : Int) := by omega
        have HN := Lib.hid hN
        clear hN
        clear hNN
        have hNI : (N : Int) ≤ (xs.length : Int) := by omega
        go_wp2_with fail
        have hX' : Arr w .u8 (.slice xa xs.length xc) xs := hX
        have hvn : (vn : Int) ≠ 0 := by omega
        have hvnb : ((vn : Int) == 0) = false := by simp; omega
        go_loopg [72] N (fun n0 iv wx => ∃ (j : Nat) (pv : SlV), j + n0 = N ∧ iv = .int .i64 j ∧ OwnG LI wx (b5 + 1) pv.v (((xs.take N).take j).map (fun y => y % (vn : Int))) ∧ Blk wx b5 #[.int .u8 q.dep, .bool q.wr, .int .u8 q.ste, .int .u8 q.ref, .int .u8 q.msk, .int .u8 q.fai, .int .u8 q.hid, .int .u8 q.pas, .int .u8 q.ble, .int .u8 q.cha, .int .u8 q.cul, .int .i64 q.x0, .int .i64 q.y0, .int .i64 q.x1, .int .i64 q.y1, .bool false, .int .u8 0, .int .u8 0, .int .u8 0, .int .u8 0, .int .i64 0, .int .u8 0, .int .u8 0, .int .i64 0, .int .i64 0, .int .u8 (kind % 5 % 3), .slice pv.ao pv.n pv.c] 67 ∧ Blk wx b0 #[.int .u8 s.dep, .int .u8 s.ste, .int .u8 s.ref, .int .u8 s.msk, .int .u8 s.fai, .int .u8 s.hid, .int .u8 s.pas, .int .u8 s.ble, .int .u8 s.cha, .int .u8 s.cul, .bool s.wr, .bool s.ez, .int .u8 s.q0, .int .u8 s.q1, .int .u8 s.q2, .int .u8 s.q3, .int .u8 kind, .int .u8 vx, .int .u8 fr, .slice xa xs.length xc, .int .u8 r, .int .u8 g, .int .u8 b, .int .u8 a, .int .u16 dep, .bool true] 79 ∧ Blk wx (b0 + 1) #[.int .i64 sW, .int .i64 sH, .int .i64 m0, .int .i64 m1, .int .i64 m2, .int .i64 m3, .int .i64 m4, .int .i64 m5, .int .i64 m6, .int .i64 m7, .int .i64 m8, .int .i64 m9, .int .i64 m10, .int .i64 m11, .int .i64 m12, .int .i64 m13, .int .i64 m14, .int .i64 m15, .slice va vn vc, .slice sa sn sc, .slice pa pn pc, .slice da dn dc] 42 ∧ Blk wx (b0 + 1 + 1) #[.int .u8 0, .bool false, .int .u8 0, .int .u8 0, .int .u8 0, .int .u8 0, .int .u8 0, .int .u8 0, .int .u8 0, .int .u8 0, .int .u8 0, .int .i64 0, .int .i64 0, .int .i64 0, .int .i64 0, .bool false, .int .u8 0, .int .u8 0, .int .u8 0, .int .u8 0, .int .i64 0, .int .u8 0, .int .u8 0, .int .i64 0, .int .i64 0, .int .u8 0, .slice none 0 0] 67 ∧ Ext w wx ∧ b5 < wx.heap.size)
        case atStart => exact ⟨0, SlV.nil, by omega, by simp, by simpa using OwnG.nil LI w7 (b5 + 1), G, F0', F1', F2', e7, G.lt⟩
        case round =>
          clear G F0' F1' F2' e7 cG cF0 cF1
          obtain ⟨j, pv, hjk, rfl, o1, G1, K0, K1, K2, e1, hb5⟩ := hrel
          by_cases hj : j < N
          · have hjI : (j : Int) < (N : Int) := by omega
            obtain ⟨g, off, rfl, -, hc⟩ := (hX'.ext e1).at j (by omega)
            have c0 := hc j (by omega)
            have hy := bounds_u8 (hX'.wf (xs.getD j 0) (by simp [List.getD, show j < xs.length by omega]))
            have HS := Lib.hid (show ((xs.take N).take (j + 1)).map (fun y => y % (vn : Int)) = ((xs.take N).take j).map (fun y => y % (vn : Int)) ++ [xs.getD j 0 % (vn : Int)] by
              rw [List.take_take, List.take_take, show min (j + 1) N = j + 1 by omega, show min j N = j by omega]
              exact take_map_snoc _ xs j (by omega))
            have hlen : (((xs.take N).take j).map (fun y => y % (vn : Int))).length = j := by simp; omega
            generalize ((xs.take N).take j).map (fun y => y % (vn : Int)) = li at *
            generalize xs.getD j 0 = y at *
            have hyn := Int.emod_nonneg y hvn
            have hvn0 : ¬ vn = 0 := by omega
            have hyw : IntKind.i64.wrap y = y := by rw [IntKind.wrap_i64]; omega
            have hyt : y.tmod (vn : Int) = y % (vn : Int) := Int.tmod_eq_emod_of_nonneg hy.1
            obtain ⟨pa0, pn0, pc0⟩ := pv
            have hpn : j = pn0 := by
              obtain ⟨_, _, e, -, -⟩ := o1.slice
              cases e
              exact hlen.symm
            subst hpn
            dsimp only [SlV.v] at o1 G1
            have o2 := o1.ext (((Ext.refl wr).alloc #[.int .i64 (y % (vn : Int))] 3).drew)
            have e2 := e1.trans (((Ext.refl wr).alloc #[.int .i64 (y % (vn : Int))] 3).drew)
            have G2 := (G1.alloc (.cells #[.int .i64 (y % (vn : Int))] 3)).drew
            have K0' := (K0.alloc (.cells #[.int .i64 (y % (vn : Int))] 3)).drew
            have K1' := (K1.alloc (.cells #[.int .i64 (y % (vn : Int))] 3)).drew
            have K2' := (K2.alloc (.cells #[.int .i64 (y % (vn : Int))] 3)).drew
            have hcn : ∀ i u, (LI.cells (y % (vn : Int)))[i]? = some u → (wr.alloc (.cells #[.int .i64 (y % (vn : Int))] 3)).drew.cell? ⟨wr.heap.size, i, none⟩ = some u := fun i u hu => by
              have : (wr.alloc (.cells #[.int .i64 (y % (vn : Int))] 3)).drew.cell? ⟨wr.heap.size, i, none⟩ = (wr.alloc (.cells #[.int .i64 (y % (vn : Int))] 3)).cell? ⟨wr.heap.size, i, none⟩ := rfl
              rw [this, (Blk.new wr _ _).cell]
              simpa [LI] using hu
            have cG1 := G1.cell
            have cK0 := K0.cell
            have cK1 := K1.cell
            have hO : ∀ k, (Value.slice pa0 j pc0).ownBlock = some k → b5 + 1 ≤ k := fun k hk => (o1.lt k hk).1
            clear hc o1 K0 K1 K2 G1 e1
            have hG2 : b5 ∉ (Value.slice pa0 j pc0).ownBlock.toList := fun h => by have := hO _ (Option.mem_toList.1 h); omega
            have hK0 : b0 ∉ (Value.slice pa0 j pc0).ownBlock.toList := fun h => by have := hO _ (Option.mem_toList.1 h); omega
            have hK1 : b0 + 1 ∉ (Value.slice pa0 j pc0).ownBlock.toList := fun h => by have := hO _ (Option.mem_toList.1 h); omega
            have hK2 : b0 + 1 + 1 ∉ (Value.slice pa0 j pc0).ownBlock.toList := fun h => by have := hO _ (Option.mem_toList.1 h); omega
            go_wp2_with fail
            go_region_law (refine step_append_g1 LI rfl (.tmp 77) (.tmp 84) rfl (b5 + 1) _ _ rfl o2 wr.heap.size 1 (y % (vn : Int)) rfl hcn (by omega) (by simp; omega) ?_; intro v4 w4 o4 A4 hk4; have e4 := Ext.calm_trans e2 A4 (fun g hg => by have := hO g (Option.mem_toList.1 hg); omega); have G4 := G2.calm A4 hG2; have L0 := K0'.calm A4 hK0; have L1 := K1'.calm A4 hK1; have L2 := K2'.calm A4 hK2; have cG4 := G4.cell; have fG4 := G4.frozen; obtain ⟨ao4, c4', rfl, -, -⟩ := o4.slice; clear o2 e2 G2 K0' K1' K2' hcn A4 hk4)
            all_goals go_wp2
            all_goals
              have h5 := o4
              simp only [List.length_append, hlen, List.length_singleton] at h5
              have h6 := h5.calm (calm_setP w4 b5 26 (.slice ao4 (j + 1) c4')) (fun k hk hin => by have := (h5.lt k hk).1; simp at hin; omega)
              have G5 := G4.set 26 (.slice ao4 (j + 1) c4')
              simp only [List.setIfInBounds_toArray, List.set_cons_succ, List.set_cons_zero] at G5
              have L0' := L0.far (p := ⟨b5, 26, none⟩) hne0 (.slice ao4 (j + 1) c4')
              have L1' := L1.far (p := ⟨b5, 26, none⟩) hne1 (.slice ao4 (j + 1) c4')
              have L2' := L2.far (p := ⟨b5, 26, none⟩) hne (.slice ao4 (j + 1) c4')
              have e5 := e4.setCell (p := ⟨b5, 26, none⟩) hle (.slice ao4 (j + 1) c4')
              go_roundg (gk - 1)
              case measure => omega
              case rel => exact ⟨j + 1, ⟨ao4, j + 1, c4'⟩, by omega, by simp, by rw [HS.out]; exact h6, G5, L0', L1', L2', e5, G5.lt⟩
          · obtain rfl : j = N := by omega
            obtain ⟨pa0, pn0, pc0⟩ := pv
            dsimp only [SlV.v] at o1 G1
            have HS := K2.setRow #[.int .u8 q.dep, .bool q.wr, .int .u8 q.ste, .int .u8 q.ref, .int .u8 q.msk, .int .u8 q.fai, .int .u8 q.hid, .int .u8 q.pas, .int .u8 q.ble, .int .u8 q.cha, .int .u8 q.cul, .int .i64 q.x0, .int .i64 q.y0, .int .i64 q.x1, .int .i64 q.y1, .bool false, .int .u8 0, .int .u8 0, .int .u8 0, .int .u8 0, .int .i64 0, .int .u8 0, .int .u8 0, .int .i64 0, .int .i64 0, .int .u8 (kind % 5 % 3), .slice pa0 pn0 pc0]
            have e8 := e1.setRow (g := b0 + 1 + 1) (by omega) #[.int .u8 q.dep, .bool q.wr, .int .u8 q.ste, .int .u8 q.ref, .int .u8 q.msk, .int .u8 q.fai, .int .u8 q.hid, .int .u8 q.pas, .int .u8 q.ble, .int .u8 q.cha, .int .u8 q.cul, .int .i64 q.x0, .int .i64 q.y0, .int .i64 q.x1, .int .i64 q.y1, .bool false, .int .u8 0, .int .u8 0, .int .u8 0, .int .u8 0, .int .i64 0, .int .u8 0, .int .u8 0, .int .i64 0, .int .i64 0, .int .u8 (kind % 5 % 3), .slice pa0 pn0 pc0]
            have o9 := o1.ownI.calm (calm_setRow wr (b0 + 1 + 1) #[.int .u8 q.dep, .bool q.wr, .int .u8 q.ste, .int .u8 q.ref, .int .u8 q.msk, .int .u8 q.fai, .int .u8 q.hid, .int .u8 q.pas, .int .u8 q.ble, .int .u8 q.cha, .int .u8 q.cul, .int .i64 q.x0, .int .i64 q.y0, .int .i64 q.x1, .int .i64 q.y1, .bool false, .int .u8 0, .int .u8 0, .int .u8 0, .int .u8 0, .int .i64 0, .int .u8 0, .int .u8 0, .int .i64 0, .int .i64 0, .int .u8 (kind % 5 % 3), .slice pa0 pn0 pc0]) (fun k hk hin => by have := (o1.ownI.lt k hk).1; simp at hin; omega)
            rw [List.take_take, Nat.min_self] at o9
            clear e1 o1 K0 K1
            go_wp2_with (first
              | ((with_reducible refine wpList_load_blk (op := ⟨some 88, _, _, _, _, _⟩) ?_ 67 (.tmp 5) ?_ b5 ?_ (z := #[.int .u8 q.dep, .bool q.wr, .int .u8 q.ste, .int .u8 q.ref, .int .u8 q.msk, .int .u8 q.fai, .int .u8 q.hid, .int .u8 q.pas, .int .u8 q.ble, .int .u8 q.cha, .int .u8 q.cul, .int .i64 q.x0, .int .i64 q.y0, .int .i64 q.x1, .int .i64 q.y1, .bool false, .int .u8 0, .int .u8 0, .int .u8 0, .int .u8 0, .int .i64 0, .int .u8 0, .int .u8 0, .int .i64 0, .int .i64 0, .int .u8 (kind % 5 % 3), .slice pa0 pn0 pc0]) (T := 67) G1 Try.underlying67 ?_ ?_ ?_); rfl; rfl; rfl; rfl; kernel_rfl)
              | ((with_reducible refine wpList_store_blk (op := ⟨none, .store 67 (.tmp 4) (.tmp 88), _, _, _, _⟩) ?_ 67 (.tmp 4) (.tmp 88) ?_ (b0 + 1 + 1) ?_ (cs := #[.int .u8 q.dep, .bool q.wr, .int .u8 q.ste, .int .u8 q.ref, .int .u8 q.msk, .int .u8 q.fai, .int .u8 q.hid, .int .u8 q.pas, .int .u8 q.ble, .int .u8 q.cha, .int .u8 q.cul, .int .i64 q.x0, .int .i64 q.y0, .int .i64 q.x1, .int .i64 q.y1, .bool false, .int .u8 0, .int .u8 0, .int .u8 0, .int .u8 0, .int .i64 0, .int .u8 0, .int .u8 0, .int .i64 0, .int .i64 0, .int .u8 (kind % 5 % 3), .slice pa0 pn0 pc0]) ?_ (z := #[.int .u8 0, .bool false, .int .u8 0, .int .u8 0, .int .u8 0, .int .u8 0, .int .u8 0, .int .u8 0, .int .u8 0, .int .u8 0, .int .u8 0, .int .i64 0, .int .i64 0, .int .i64 0, .int .i64 0, .bool false, .int .u8 0, .int .u8 0, .int .u8 0, .int .u8 0, .int .i64 0, .int .u8 0, .int .u8 0, .int .i64 0, .int .i64 0, .int .u8 0, .slice none 0 0]) (T := 67) ?_ ?_ ?_ ?_ ?_); rfl; rfl; rfl; rfl; exact K2; kernel_rfl; kernel_rfl; kernel_rfl)
              | fail)
            refine bodyPost_ret (v := .agg #[.int .u8 q.dep, .bool q.wr, .int .u8 q.ste, .int .u8 q.ref, .int .u8 q.msk, .int .u8 q.fai, .int .u8 q.hid, .int .u8 q.pas, .int .u8 q.ble, .int .u8 q.cha, .int .u8 q.cul, .int .i64 q.x0, .int .i64 q.y0, .int .i64 q.x1, .int .i64 q.y1, .bool false, .int .u8 0, .int .u8 0, .int .u8 0, .int .u8 0, .int .i64 0, .int .u8 0, .int .u8 0, .int .i64 0, .int .i64 0, .int .u8 (kind % 5 % 3), .slice pa0 pn0 pc0]) (results_blk (b := b0 + 1 + 1) (t := 4) (ty := 67) rfl rfl HS Try.underlying67 rfl (by kernel_rfl)) rfl ?_
            exact ⟨⟨q, false, ⟨0, 0, 0, 0, 0, 0, 0⟩, 0, 0, kind % 5 % 3, ⟨pa0, pn0, pc0⟩⟩, rfl, by simp [DrM.is, drawF, hk4, HQ.out], by simp only [drawF, hk4, if_false, HN.out]; exact o9.mono (by omega), e8⟩
end Go.Proofs.Ytbbfmlehddfneaa

