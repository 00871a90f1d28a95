/-
  DERIVED. Layer 9 (state), in plain numbers: what Holds, Do, Check, Late come to; a state's cells and its bytes. No Go in sight. · THE WALKS of layer 9 (state): Holds, Do, bit, spans; the document's Holds and Do. · THE WALKS of layer 9 (state): Put. · THE WALKS of layer 9 (state): a state where it lies: defined, Check, Late, Plain.
-/
import Derived.Test.YtbbfmlehddfneaaPkFix
import Derived.Laws.BitsAllLaws
import Derived.Test.YtbbfmlehddfneaaPkWire
import Derived.Deep.DeepCutAuto
namespace Go.Proofs.Ytbbfmlehddfneaa
open Go.RowKit
set_option linter.unusedVariables false

/-- a state: its numbers, and its cells -/
structure Stt where
  (dep : Int) (wr : Bool) (ste ref msk fai hid pas ble cha cul x0 y0 x1 y1 : Int)
  deriving DecidableEq
def Stt.byt (s : Stt) : Prop := (0 ≤ s.dep ∧ s.dep ≤ 255) ∧ (0 ≤ s.ste ∧ s.ste ≤ 255) ∧ (0 ≤ s.ref ∧ s.ref ≤ 255) ∧ (0 ≤ s.msk ∧ s.msk ≤ 255) ∧ (0 ≤ s.fai ∧ s.fai ≤ 255) ∧ (0 ≤ s.hid ∧ s.hid ≤ 255) ∧ (0 ≤ s.pas ∧ s.pas ≤ 255) ∧ (0 ≤ s.ble ∧ s.ble ≤ 255) ∧ (0 ≤ s.cha ∧ s.cha ≤ 255) ∧ (0 ≤ s.cul ∧ s.cul ≤ 255)
abbrev Stt.v (s : Stt) : Array Value := #[.int .u8 s.dep, .bool s.wr, .int .u8 s.ste, .int .u8 s.ref, .int .u8 s.msk, .int .u8 s.fai, .int .u8 s.hid, .int .u8 s.pas, .int .u8 s.ble, .int .u8 s.cha, .int .u8 s.cul, .int .i64 s.x0, .int .i64 s.y0, .int .i64 s.x1, .int .i64 s.y1]
abbrev Stt.nul : Stt := ⟨0, false, 0, 0, 0, 0, 0, 0, 0, 0, 0, 0, 0, 0, 0⟩
abbrev Stt.plain : Stt := ⟨7, false, 7, 0, 0, 0, 0, 0, 0, 15, 0, 0, 0, 64, 64⟩
def bitI (b : Bool) : Int := if b then 1 else 0
/-- the fifteen bytes of a state -/
def Stt.enc (s : Stt) : List Int := [s.dep, bitI s.wr, s.ste, s.ref, s.msk, s.fai, s.hid, s.pas, s.ble, s.cha, s.cul, s.x0, s.y0, s.x1, s.y1]
def holdsB (f a b : Int) : Bool := if a < b then f % 2 != 0 else if a = b then f / 2 % 2 != 0 else f / 4 % 2 != 0
def doI (o n r : Int) : Int := if o = 1 then 0 else if o = 2 then r else if o = 3 then (if n < 255 then n + 1 else 255) else if o = 4 then (if 0 < n then n - 1 else 0) else if o = 5 then 255 - n else n
def spansB (a b : Int) : Bool := decide (0 ≤ a) && decide (a ≤ b) && decide (b ≤ 64)
def Stt.def (s : Stt) : Bool := decide (s.dep < 8) && decide (s.ste < 8) && (decide (s.fai < 6) && decide (s.hid < 6) && decide (s.pas < 6)) && decide (s.ble < 4) && decide (s.cul < 3) && decide (s.cha ≤ 15)
def Stt.chk (s : Stt) : Int := if s.def then (if spansB s.x0 s.x1 && spansB s.y0 s.y1 then 0 else 2) else 13
def Stt.late (s : Stt) : Bool := decide (s.ste = 7) && (decide (s.pas = 0) && decide (s.hid = 0)) && (decide (s.ble = 0) && decide (s.cha = 15))

theorem mod2 (x : Int) : x % 2 = 0 ∨ x % 2 = 1 := by omega
theorem and1 {f : Int} (h : 0 ≤ f ∧ f ≤ 255) : bits .and .u8 f 1 = f % 2 := by
  rw [u8_and f 1 h.1 (by omega) (by omega) (by omega), show (1 : Int).toNat = 1 from rfl, Nat.and_one_is_mod]
  omega
theorem and24 : ∀ n : Fin 256, (n.val &&& 2 = n.val / 2 % 2 * 2) ∧ (n.val &&& 4 = n.val / 4 % 2 * 4) := by decide +kernel
theorem xor255n : ∀ n : Fin 256, 255 ^^^ n.val = 255 - n.val := by decide +kernel
theorem and2 {f : Int} (h : 0 ≤ f ∧ f ≤ 255) : bits .and .u8 f 2 = f / 2 % 2 * 2 := by
  rw [u8_and f 2 h.1 (by omega) (by omega) (by omega), show (2 : Int).toNat = 2 from rfl, (and24 ⟨f.toNat, by omega⟩).1]
  simp
  omega
theorem and4 {f : Int} (h : 0 ≤ f ∧ f ≤ 255) : bits .and .u8 f 4 = f / 4 % 2 * 4 := by
  rw [u8_and f 4 h.1 (by omega) (by omega) (by omega), show (4 : Int).toNat = 4 from rfl, (and24 ⟨f.toNat, by omega⟩).2]
  simp
  omega
theorem xor255 {n : Int} (h : 0 ≤ n ∧ n ≤ 255) : bits .xor .u8 255 n = 255 - n := by
  rw [u8_xor 255 n (by omega) (by omega) h.1 (by omega), show (255 : Int).toNat = 255 from rfl, (xor255n ⟨n.toNat, by omega⟩)]
  simp
  omega
theorem ne2 (x : Int) : (x % 2 * 2 != 0) = (x % 2 != 0) := by
  rcases mod2 x with h | h <;> rw [h] <;> rfl
theorem ne4 (x : Int) : (x % 2 * 4 != 0) = (x % 2 != 0) := by
  rcases mod2 x with h | h <;> rw [h] <;> rfl
end Go.Proofs.Ytbbfmlehddfneaa

namespace Go.Proofs.Ytbbfmlehddfneaa
open Go.RowKit
set_option linter.unusedVariables false
theorem bit_any (b : Bool) (w : World) : Calls Try.prog 68 #[.bool b] w fun e w' => e = .returned (.int .u8 (bitI b)) ∧ w = w' := by
  cases b
  all_goals
    go_enter Try.func68, Try.ntmps68
    go_wp2
    go_ret
    exact ⟨rfl, rfl⟩
theorem spans_any (a b : Int) (w : World) : Calls Try.prog 83 #[.int .i64 a, .int .i64 b] w fun e w' => e = .returned (.bool (spansB a b)) ∧ w = w' := by
  unfold spansB
  cases h1 : decide (0 ≤ a)
  · go_enter Try.func83, Try.ntmps83
    go_wp2
    go_ret
    exact ⟨by simp, rfl⟩
  · cases h2 : decide (a ≤ b)
    · go_enter Try.func83, Try.ntmps83
      go_wp2
      go_ret
      exact ⟨by simp, rfl⟩
    · go_enter Try.func83, Try.ntmps83
      go_wp2
      go_ret
      exact ⟨by simp, rfl⟩
end Go.Proofs.Ytbbfmlehddfneaa

namespace Go.Proofs.Ytbbfmlehddfneaa
open Go.RowKit
set_option linter.unusedVariables false
def Stt.box (s : Stt) : Prop := (0 ≤ s.x0 ∧ s.x0 ≤ 255) ∧ (0 ≤ s.y0 ∧ s.y0 ≤ 255) ∧ (0 ≤ s.x1 ∧ s.x1 ≤ 255) ∧ (0 ≤ s.y1 ∧ s.y1 ≤ 255)
theorem bitI_bd (b : Bool) : 0 ≤ bitI b ∧ bitI b ≤ 255 := by cases b <;> decide
theorem Stt.enc_bd {s : Stt} (h : s.byt) (hb : s.box) : ∀ y ∈ s.enc, 0 ≤ y ∧ y ≤ 255 := by
  obtain ⟨h1, h2, h3, h4, h5, h6, h7, h8, h9, h10⟩ := h
  obtain ⟨k1, k2, k3, k4⟩ := hb
  intro y hy
  simp only [Stt.enc, List.mem_cons, List.not_mem_nil, or_false] at hy
  rcases hy with rfl | rfl | rfl | rfl | rfl | rfl | rfl | rfl | rfl | rfl | rfl | rfl | rfl | rfl | rfl
  all_goals first | assumption | exact bitI_bd _
set_option maxRecDepth 100000 in
set_option maxHeartbeats 2000000 in
theorem sput_any (s : Stt) (hs : s.byt) (hx : s.box) (w : World) (base p : Nat) (l : List Int) (F : List Nat) (hP : Pen w base p l F) (hlen : l.length < 80000) (hb : base ≤ w.heap.size) :
    Calls Try.prog 49 #[.agg s.v, .pointer (some ⟨p, 0, none⟩)] w fun e w' => e = .returned (.tuple #[]) ∧ ∃ F', Pen w' base p (l ++ s.enc) F' ∧ Step F F' w w' := by
  have hbd := Stt.enc_bd hs hx
  obtain ⟨k1, k2, k3, k4⟩ := hx
  have u1 := IntWalk.u8_in s.x0 k1
  have u2 := IntWalk.u8_in s.y0 k2
  have u3 := IntWalk.u8_in s.x1 k3
  have u4 := IntWalk.u8_in s.y1 k4
  have x1 := (Ext.refl w).alloc s.v 57
  have x2 := x1.alloc #[.int .i64 s.x0, .int .i64 s.y0, .int .i64 s.x1, .int .i64 s.y1] 55
  have B1 := (Blk.new w s.v 57).alloc (.cells #[.int .i64 s.x0, .int .i64 s.y0, .int .i64 s.x1, .int .i64 s.y1] 55)
  have B2 := Blk.new (w.alloc (.cells s.v 57)) #[.int .i64 s.x0, .int .i64 s.y0, .int .i64 s.x1, .int .i64 s.y1] 55
  have hF := hP.lt
  have P2 := hP.ext x2
  have z1 : (w.alloc (.cells s.v 57)).heap.size = w.heap.size + 1 := by simp
  rw [z1] at B2
  go_enter Try.func49, Try.ntmps49
  go_wp2_with fail
  generalize ((w.alloc (.cells s.v 57)).alloc (.cells #[.int .i64 s.x0, .int .i64 s.y0, .int .i64 s.x1, .int .i64 s.y1] 55)) = w2 at *
  have n1 : w.heap.size ∉ F := fun h => by have := (hF _ h).2; omega
  have n2 : w.heap.size + 1 ∉ F := fun h => by have := (hF _ h).2; omega
  have hz2 := x2.size
  apply wp_region_tail 3 [false, false, false, false, false, false, false, false, false, false, false, false, false, false, false, false, false, false, false, false, false, false, false, false, false, false, false, false, false, false, false, false, false, false, false, false, true, true] [43, 44] F _ (by kernel_rfl) (by kernel_rfl) (by kernel_rfl)
  case H =>
    intro x hx
    have hne : Nonempty (Wx x) := ⟨⟨x, Ext.refl x⟩⟩
    have q1 := fun (y : Wx x) => ((B1.calm hx n1).ext y.ext).cell
    have q2 := fun (y : Wx x) => ((B2.calm hx n2).ext y.ext).cell
    simp only [eraseM]
    repeat (go_big_quiet_step ((go_at_call 68; exact calm_eq (bit_any _ _))))
    exact wpQuiet_nil rfl
  case hF => rfl
  case T =>
    change tailW _ _ _ _ [_, _] _ _
    refine fun u x hc => ?_
    have A := lit_arr u s.enc hbd (by simp [Stt.enc])
    refine gives_value (u' := u.alloc (.cells (s.enc.map (Value.int .u8)).toArray 5)) (v := .slice (some ⟨u.heap.size, 0, none⟩) 15 15) ?_ ⟨hc.trans (((Ext.refl u).alloc _ _).calm F), fun u2 x2' hc2 => ?_⟩
    · simp [go_sem, Stt.enc]
    · refine gives_enter (f := 30) (args := #[.pointer (some ⟨p, 0, none⟩), .slice (some ⟨u.heap.size, 0, none⟩) 15 15]) (by simp [go_sem]) (pen_put u2 base p l F ((P2.ext (x.trans ((Ext.refl u).alloc _ _))).ext x2') _ s.enc (A.ext x2') (by simp [Stt.enc]; omega) (by have := hc2.size; omega)) ?_
      rintro e w' ⟨rfl, F', P', s'⟩
      refine ⟨.tuple #[], rfl, hc2.trans s'.1, fun u3 x3 hc3 => ?_⟩
      go_wp2
      exact bodyPost_end (v := .tuple #[]) (by simp [results, Try.results49]) rfl ⟨rfl, F', P'.ext x3, (x2.calm F).trans hc3, fun b hb' => (s'.2 b hb').imp id (fun h => by have := hc2.size; omega)⟩
end Go.Proofs.Ytbbfmlehddfneaa

namespace Go.Proofs.Ytbbfmlehddfneaa
open Go.RowKit
set_option linter.unusedVariables false
set_option maxRecDepth 100000 in
theorem defined_any (s : Stt) (w : World) : Calls Try.prog 82 #[.agg s.v] w fun e w' => e = .returned (.bool s.def) ∧ Ext w w' := by
  obtain ⟨dep, wr, ste, ref, msk, fai, hid, pas, ble, cha, cul, x0, y0, x1, y1⟩ := s
  have B := Blk.new w (Stt.v ⟨dep, wr, ste, ref, msk, fai, hid, pas, ble, cha, cul, x0, y0, x1, y1⟩) 57
  have cB := B.cell
  have x := (Ext.refl w).alloc (Stt.v ⟨dep, wr, ste, ref, msk, fai, hid, pas, ble, cha, cul, x0, y0, x1, y1⟩) 57
  unfold Stt.def
  dsimp only
  generalize hb1 : decide (dep < 8) = b1
  generalize hb2 : decide (ste < 8) = b2
  generalize hb3 : decide (fai < 6) = b3
  generalize hb4 : decide (hid < 6) = b4
  generalize hb5 : decide (pas < 6) = b5
  generalize hb6 : decide (ble < 4) = b6
  generalize hb7 : decide (cul < 3) = b7
  generalize hb8 : decide (cha ≤ 15) = b8
  go_enter Try.func82, Try.ntmps82
  go_upto_region 1 with fail
  go_cut [3] (fun o wx => o = .bool (b1 && b2) ∧ w.alloc (.cells (Stt.v ⟨dep, wr, ste, ref, msk, fai, hid, pas, ble, cha, cul, x0, y0, x1, y1⟩) 57) = wx)
  case first =>
    cases b1
    · go_wp2
      go_meet
      exact ⟨rfl, rfl⟩
    · go_wp2
      go_meet
      exact ⟨by simp, rfl⟩
  obtain ⟨rfl, rfl⟩ := hcut
  go_upto_region 2 with fail
  go_cut [4] (fun o wx => o = .bool (b3 && b4 && b5) ∧ w.alloc (.cells (Stt.v ⟨dep, wr, ste, ref, msk, fai, hid, pas, ble, cha, cul, x0, y0, x1, y1⟩) 57) = wx)
  case first =>
    cases b3
    · go_wp2
      go_meet
      exact ⟨rfl, rfl⟩
    · cases b4
      · go_wp2
        go_meet
        exact ⟨rfl, rfl⟩
      · go_wp2
        go_meet
        exact ⟨by simp, rfl⟩
  obtain ⟨rfl, rfl⟩ := hcut
  generalize hc1 : (b1 && b2) = c1
  generalize hc2 : (b3 && b4 && b5) = c2
  cases c1
  · go_wp2
    go_ret
    exact ⟨by rw [hc1]; rfl, x⟩
  cases c2
  · go_wp2
    go_ret
    exact ⟨by rw [hc1, hc2]; rfl, x⟩
  cases b6
  · go_wp2
    go_ret
    exact ⟨by rw [hc1, hc2]; rfl, x⟩
  cases b7
  · go_wp2
    go_ret
    exact ⟨by rw [hc1, hc2]; rfl, x⟩
  go_wp2
  go_ret
  exact ⟨by rw [hc1, hc2]; rfl, x⟩
set_option maxRecDepth 100000 in
theorem scheck_any (s : Stt) (w : World) : Calls Try.prog 63 #[.agg s.v] w fun e w' => e = .returned (.int .i64 s.chk) ∧ Ext w w' := by
  have hd := fun u => defined_any s u
  unfold Stt.chk
  generalize s.def = b0 at *
  obtain ⟨dep, wr, ste, ref, msk, fai, hid, pas, ble, cha, cul, x0, y0, x1, y1⟩ := s
  have B := Blk.new w (Stt.v ⟨dep, wr, ste, ref, msk, fai, hid, pas, ble, cha, cul, x0, y0, x1, y1⟩) 57
  have cB := B.cell
  have x := (Ext.refl w).alloc (Stt.v ⟨dep, wr, ste, ref, msk, fai, hid, pas, ble, cha, cul, x0, y0, x1, y1⟩) 57
  dsimp only
  go_enter Try.func63, Try.ntmps63
  go_wp2_with fail
  refine (hd _).mono ?_
  rintro e w1 ⟨rfl, x1⟩
  have B1 := B.ext x1
  have cB1 := B1.cell
  have e1 := x.trans x1
  clear B cB x x1
  cases b0
  · go_wp2
    go_ret
    exact ⟨rfl, e1⟩
  go_wp2_with fail
  refine (spans_any x0 x1 _).mono ?_
  rintro e w2 ⟨rfl, rfl⟩
  cases hs : spansB x0 x1
  · go_wp2
    go_ret
    exact ⟨rfl, e1⟩
  go_wp2_with fail
  refine (spans_any y0 y1 _).mono ?_
  rintro e w2 ⟨rfl, rfl⟩
  cases hs2 : spansB y0 y1
  · go_wp2
    go_ret
    exact ⟨rfl, e1⟩
  · go_wp2
    go_ret
    exact ⟨rfl, e1⟩
end Go.Proofs.Ytbbfmlehddfneaa

