/-
  DERIVED. THE WALKS of layer 4 (wire): the Writer.
-/
import Derived.Test.YtkdonkebnnjkkaaWirePlain
import Derived.Test.YtkdonkebnnjkkaaClones
import Derived.Test.YtkdonkebnnjkkaaMinMax
import Derived.Test.YtkdonkebnnjkkaaSteps
import Derived.Deep.LoopGhost
namespace Go.Proofs.Ytkdonkebnnjkkaa
open Go.RowKit
set_option linter.unusedVariables false

def Pen (w : World) (base p : Nat) (l : List Int) (F : List Nat) : Prop :=
  ∃ v, Blk w p #[v] 30 ∧ Own w base v l ∧ base ≤ p ∧ F = p :: v.ownBlock.toList ∧ ∀ k, v.ownBlock = some k → k ≠ p
theorem Pen.kept {w w' : World} {base p : Nat} {l : List Int} {F O : List Nat} (h : Pen w base p l F) (hc : Calm O w w') (hO : ∀ b ∈ F, b ∉ O) : Pen w' base p l F := by
  obtain ⟨v, B, ho, hb, rfl, hne⟩ := h
  exact ⟨v, B.calm hc (hO p (by simp)), ho.calm hc (fun k hk => hO k (by simp [hk])), hb, rfl, hne⟩
theorem Pen.lt {w : World} {base p : Nat} {l : List Int} {F : List Nat} (h : Pen w base p l F) : ∀ b ∈ F, base ≤ b ∧ b < w.heap.size := by
  obtain ⟨v, B, ho, hb, rfl, hne⟩ := h
  intro b hm
  rcases List.mem_cons.1 hm with rfl | hm
  · exact ⟨hb, B.lt⟩
  · exact ho.lt b (Option.mem_toList.1 hm)
theorem Pen.new {w : World} {base : Nat} (hb : base ≤ w.heap.size) : Pen (w.alloc (.cells #[.slice none 0 0] 30)) base w.heap.size [] [w.heap.size] :=
  ⟨.slice none 0 0, Blk.new w _ _, Own.nil _ _, hb, rfl, fun k hk => by cases hk⟩

set_option maxRecDepth 100000 in
theorem pen_byte (c : Int) (hc : 0 ≤ c ∧ c ≤ 255) (w : World) (base p : Nat) (l : List Int) (F : List Nat) (hP : Pen w base p l F) (hlen : l.length < 100000) (hb : base ≤ w.heap.size) :
    Calls Try.prog 39 #[.pointer (some ⟨p, 0, none⟩), .int .u8 c] w fun e w' => e = .returned (.tuple #[]) ∧ ∃ F', Pen w' base p (l ++ [c]) F' ∧ Step F F' w w' := by
  obtain ⟨v, B, ho, hbp, rfl, hne⟩ := hP
  have cB := B.cell
  have hp := B.lt
  go_enter Try.func39, Try.ntmps39
  go_wp2_with (at_builtin; refine wpList_append_byte rfl _ _ rfl base _ l rfl (ho.alloc _) w.heap.size 1 c rfl (by simp [go_sem]) (by omega) (by simp; omega) ?_)
  intro v' w' ho' hc' hk'
  have B' : Blk w' p #[v] 30 := (B.alloc _).calm hc' (fun hm => hne p (Option.mem_toList.1 hm) rfl)
  have cB' := B'.cell
  have fB' := B'.frozen
  have hz := hc'.size
  obtain ⟨ao, c', rfl, -, -⟩ := ho'.slice
  have el : (l ++ [c]).length = l.length + 1 := by simp
  rw [el] at ho' hk'
  simp at hz
  go_wp2
  refine bodyPost_end (v := .tuple #[]) (by simp [results, Try.results39]) rfl ?_
  have hne' : ∀ k, (Value.slice ao (l.length + 1) c').ownBlock = some k → k ≠ p := fun k hk => by
    rcases hk' k hk with x | x
    · exact hne k x
    · first | omega | (simp at x; omega)
  refine ⟨rfl, p :: (Value.slice ao (l.length + 1) c').ownBlock.toList, ⟨_, B'.set 0 _, ho'.kept (fun k hk => Below.heap_setCell _ _ _ _ (hne' k hk)), hbp, rfl, hne'⟩, ⟨⟨hc'.os, hc'.tape, hc'.output, by simp; omega, fun k hk hO => ?_⟩, fun b hm => ?_⟩⟩
  · simp only [List.mem_cons, not_or] at hO
    rw [Below.heap_setCell _ _ _ _ hO.1, hc'.block k (by simp; omega) hO.2, Below.heap_alloc _ _ _ hk]
  · rcases List.mem_cons.1 hm with rfl | hm
    · exact .inl (by simp)
    · rcases hk' b (Option.mem_toList.1 hm) with x | x
      · exact .inl (by simp [x])
      · exact .inr (by first | omega | (simp at x; omega))
set_option maxRecDepth 100000 in
theorem pen_number (n : Nat) (hn : n < 18446744073709551616) (w : World) (base p : Nat) (l : List Int) (F : List Nat) (hP : Pen w base p l F) (hlen : l.length < 90000) (hb : base ≤ w.heap.size) :
    Calls Try.prog 31 #[.pointer (some ⟨p, 0, none⟩), .int .u64 n] w fun e w' => e = .returned (.tuple #[]) ∧ ∃ F', Pen w' base p (l ++ leb n) F' ∧ Step F F' w w' := by
  have hl10 := leb_len10 hn
  go_enter Try.func31, Try.ntmps31
  go_wp2
  go_loopg [1] n (fun k nv wr => ∃ (m : Nat) (l' : List Int) (F' : List Nat), m ≤ k ∧ k < 18446744073709551616 ∧ nv = .int .u64 m ∧ Pen wr base p l' F' ∧ l' ++ leb m = l ++ leb n ∧ Step F F' w wr)
  case atStart => exact ⟨n, l, F, Nat.le_refl _, hn, rfl, hP, rfl, Step.refl _ _⟩
  case round =>
    obtain ⟨m, l', F', hmk, hk, rfl, hP', hl, hs⟩ := hrel
    have hlen' : l'.length ≤ 90010 := by
      have := congrArg List.length hl
      simp at this
      omega
    have hz := hs.1.size
    have HL := Lib.hid hl
    clear hl
    by_cases hm : 128 ≤ m
    · go_wp2_with fail
      refine (pen_byte _ (by omega) _ _ _ _ _ hP' (by omega) (by omega)).mono ?_
      rintro e w1 ⟨rfl, F1, hP1, hs1⟩
      go_wp2
      go_roundg (m / 128)
      case measure => omega
      case rel =>
        refine ⟨m / 128, _, F1, Nat.le_refl _, by omega, by simp, hP1, ?_, hs.trans hs1⟩
        rw [← HL.out, leb_great hm]
        simp
    · go_wp2_with fail
      refine (pen_byte _ (by omega) _ _ _ _ _ hP' (by omega) (by omega)).mono ?_
      rintro e w1 ⟨rfl, F1, hP1, hs1⟩
      go_wp2
      refine bodyPost_end (v := .tuple #[]) (by simp [results, Try.results31]) rfl ⟨rfl, F1, ?_, hs.trans hs1⟩
      rw [← HL.out, leb_small (n := m) (by omega)]
      exact hP1
set_option maxRecDepth 100000 in
theorem pen_count (n : Int) (hn : -9223372036854775808 ≤ n ∧ n ≤ 9223372036854775807) (w : World) (base p : Nat) (l : List Int) (F : List Nat) (hP : Pen w base p l F) (hlen : l.length < 90000) (hb : base ≤ w.heap.size) :
    Calls Try.prog 21 #[.pointer (some ⟨p, 0, none⟩), .int .i64 n] w fun e w' => e = .returned (.tuple #[]) ∧ ∃ F', Pen w' base p (l ++ leb n.toNat) F' ∧ Step F F' w w' := by
  obtain ⟨m, hmt, hm, hn2⟩ : ∃ m : Nat, n.toNat = m ∧ (if n < 0 then 0 else n) = (m : Int) ∧ m < 18446744073709551616 := ⟨n.toNat, rfl, by split <;> omega, by omega⟩
  try rw [hmt]
  go_enter Try.func21, Try.ntmps21
  go_wp2_with fail
  refine (pen_number m hn2 _ _ _ _ _ hP (by omega) (by omega)).mono ?_
  rintro e w1 ⟨rfl, F1, hP1, hs1⟩
  go_wp2
  exact bodyPost_end (v := .tuple #[]) (by simp [results, Try.results21]) rfl ⟨rfl, F1, hP1, hs1⟩
theorem folded_any (n : Int) (hn : -9223372036854775808 ≤ n ∧ n ≤ 9223372036854775807) (w : World) :
    Calls Try.prog 32 #[.int .i64 n] w fun e w' => e = .returned (.int .u64 (zig n)) ∧ w = w' := by
  have hz := zig_lt hn
  go_enter Try.func32, Try.ntmps32
  by_cases h : n < 0
  · have hd : decide (n < 0) = true := by simpa using h
    have hv : (2 * (-(n + 1)) + 1 : Int) = ((zig n : Nat) : Int) := by unfold zig; rw [if_pos h]; omega
    go_wp2
    go_ret
    exact ⟨ret_int (by omega), rfl⟩
  · have hd : decide (n < 0) = false := by simpa using h
    have hv : (2 * n : Int) = ((zig n : Nat) : Int) := by unfold zig; rw [if_neg h]; omega
    go_wp2
    go_ret
    exact ⟨ret_int (by omega), rfl⟩
set_option maxRecDepth 100000 in
theorem pen_int (n : Int) (hn : -9223372036854775808 ≤ n ∧ n ≤ 9223372036854775807) (w : World) (base p : Nat) (l : List Int) (F : List Nat) (hP : Pen w base p l F) (hlen : l.length < 90000) (hb : base ≤ w.heap.size) :
    Calls Try.prog 23 #[.pointer (some ⟨p, 0, none⟩), .int .i64 n] w fun e w' => e = .returned (.tuple #[]) ∧ ∃ F', Pen w' base p (l ++ leb (zig n)) F' ∧ Step F F' w w' := by
  have hz := zig_lt hn
  go_enter Try.func23, Try.ntmps23
  go_wp2_with fail
  refine (folded_any n hn _).mono ?_
  rintro e w0 ⟨rfl, rfl⟩
  go_wp2_with fail
  refine (pen_number _ hz _ _ _ _ _ hP (by omega) (by omega)).mono ?_
  rintro e w1 ⟨rfl, F1, hP1, hs1⟩
  go_wp2
  exact bodyPost_end (v := .tuple #[]) (by simp [results, Try.results23]) rfl ⟨rfl, F1, hP1, hs1⟩
theorem Pen.own {w : World} {base p : Nat} {l : List Int} {F : List Nat} (h : Pen w base p l F) (hb : ∀ y ∈ l, 0 ≤ y ∧ y ≤ 255) : ∃ v, Blk w p #[v] 30 ∧ Arr w .u8 v l := by
  obtain ⟨v, B, ho, _⟩ := h
  exact ⟨v, B, ho.arr hb⟩
set_option maxRecDepth 100000 in
theorem pen_bytes (w : World) (base p : Nat) (l : List Int) (F : List Nat) (hP : Pen w base p l F) (hb : ∀ y ∈ l, 0 ≤ y ∧ y ≤ 255) (hlen : l.length < 100000) :
    Calls Try.prog 11 #[.pointer (some ⟨p, 0, none⟩)] w fun e w' => ∃ v, e = .returned v ∧ Own w' w.heap.size v l ∧ Ext w w' := by
  obtain ⟨v, B, ha⟩ := hP.own hb
  have cB := B.cell
  obtain ⟨⟨ao, c, rfl, _⟩, _, _⟩ := id ha
  go_enter Try.func11, Try.ntmps11
  go_wp2_with fail
  refine (clone_any _ _ _ ha (by omega)).mono ?_
  rintro e w1 ⟨v', rfl, o1, x1⟩
  go_wp2
  go_ret
  exact ⟨v', rfl, o1, x1⟩
set_option maxRecDepth 100000 in
theorem pen_put (w : World) (base p : Nat) (l : List Int) (F : List Nat) (hP : Pen w base p l F) (v : Value) (m : List Int) (hm : Arr w .u8 v m) (hlen : l.length + m.length < 90000) (hb : base ≤ w.heap.size) :
    Calls Try.prog 22 #[.pointer (some ⟨p, 0, none⟩), v] w fun e w' => e = .returned (.tuple #[]) ∧ ∃ F', Pen w' base p (l ++ m) F' ∧ Step F F' w w' := by
  obtain ⟨v0, B, ho, hbp, rfl, hne⟩ := hP
  have cB := B.cell
  have hp := B.lt
  obtain ⟨⟨ao1, c1, rfl, _⟩, _, _⟩ := id hm
  go_enter Try.func22, Try.ntmps22
  go_wp2_with (at_builtin; refine wpList_append_arr rfl _ _ rfl base _ l rfl ho _ m rfl hm (by omega) (by omega) ?_)
  intro v' w' ho' hc' hk'
  have B' : Blk w' p #[v0] 30 := B.calm hc' (fun hm => hne p (Option.mem_toList.1 hm) rfl)
  have cB' := B'.cell
  have fB' := B'.frozen
  have hz := hc'.size
  obtain ⟨ao, c', rfl, -, -⟩ := ho'.slice
  have el : (l ++ m).length = l.length + m.length := by simp
  rw [el] at ho' hk'
  go_wp2
  refine bodyPost_end (v := .tuple #[]) (by simp [results, Try.results22]) rfl ?_
  have hne' : ∀ k, (Value.slice ao (l.length + m.length) c').ownBlock = some k → k ≠ p := fun k hk => by
    rcases hk' k hk with x | x
    · exact hne k x
    · omega
  refine ⟨rfl, p :: (Value.slice ao (l.length + m.length) c').ownBlock.toList, ⟨_, B'.set 0 _, ho'.kept (fun k hk => Below.heap_setCell _ _ _ _ (hne' k hk)), hbp, rfl, hne'⟩, ⟨⟨hc'.os, hc'.tape, hc'.output, by simp; omega, fun k hk hO => ?_⟩, fun b hm => ?_⟩⟩
  · simp only [List.mem_cons, not_or] at hO
    rw [Below.heap_setCell _ _ _ _ hO.1, hc'.block k (by omega) hO.2]
  · rcases List.mem_cons.1 hm with rfl | hm
    · exact .inl (by simp)
    · rcases hk' b (Option.mem_toList.1 hm) with x | x
      · exact .inl (by simp [x])
      · exact .inr (by omega)
/-- nil pens -/
theorem pen_byte_nil (c : Int) (w : World) : Calls Try.prog 39 #[.pointer none, .int .u8 c] w fun e w' => e = .returned (.tuple #[]) ∧ w = w' := by
  go_enter Try.func39, Try.ntmps39
  go_wp2
  exact bodyPost_ret (v := .tuple #[]) (by simp [results, Try.results39]) rfl ⟨rfl, rfl⟩
theorem pen_put_nil (v : Value) (w : World) : Calls Try.prog 22 #[.pointer none, v] w fun e w' => e = .returned (.tuple #[]) ∧ w = w' := by
  go_enter Try.func22, Try.ntmps22
  go_wp2
  exact bodyPost_ret (v := .tuple #[]) (by simp [results, Try.results22]) rfl ⟨rfl, rfl⟩
theorem pen_bytes_nil (w : World) : Calls Try.prog 11 #[.pointer none] w fun e w' => e = .returned (.slice none 0 0) ∧ w = w' := by
  go_enter Try.func11, Try.ntmps11
  go_wp2
  go_ret
  exact ⟨rfl, rfl⟩
set_option maxRecDepth 100000 in
theorem pen_number_nil (n : Nat) (hn : n < 18446744073709551616) (w : World) :
    Calls Try.prog 31 #[.pointer none, .int .u64 n] w fun e w' => e = .returned (.tuple #[]) ∧ w = w' := by
  go_enter Try.func31, Try.ntmps31
  go_wp2
  go_loopg [1] n (fun k nv wr => ∃ (m : Nat), m ≤ k ∧ k < 18446744073709551616 ∧ nv = .int .u64 m ∧ w = wr)
  case atStart => exact ⟨n, Nat.le_refl _, hn, rfl, rfl⟩
  case round =>
    obtain ⟨m, hmk, hk, rfl, rfl⟩ := hrel
    by_cases hm : 128 ≤ m
    · go_wp2_with fail
      refine (pen_byte_nil _ _).mono ?_
      rintro e w1 ⟨rfl, rfl⟩
      go_wp2
      go_roundg (m / 128)
      case measure => omega
      case rel => exact ⟨m / 128, Nat.le_refl _, by omega, by simp, rfl⟩
    · go_wp2_with fail
      refine (pen_byte_nil _ _).mono ?_
      rintro e w1 ⟨rfl, rfl⟩
      go_wp2
      exact bodyPost_end (v := .tuple #[]) (by simp [results, Try.results31]) rfl ⟨rfl, rfl⟩
set_option maxRecDepth 100000 in
theorem pen_count_nil (n : Int) (hn : -9223372036854775808 ≤ n ∧ n ≤ 9223372036854775807) (w : World) :
    Calls Try.prog 21 #[.pointer none, .int .i64 n] w fun e w' => e = .returned (.tuple #[]) ∧ w = w' := by
  obtain ⟨m, hmt, hm, hn2⟩ : ∃ m : Nat, n.toNat = m ∧ (if n < 0 then 0 else n) = (m : Int) ∧ m < 18446744073709551616 := ⟨n.toNat, rfl, by split <;> omega, by omega⟩
  try rw [hmt]
  go_enter Try.func21, Try.ntmps21
  go_wp2_with fail
  refine (pen_number_nil m hn2 _).mono ?_
  rintro e w1 ⟨rfl, rfl⟩
  go_wp2
  exact bodyPost_end (v := .tuple #[]) (by simp [results, Try.results21]) rfl ⟨rfl, rfl⟩
set_option maxRecDepth 100000 in
theorem pen_int_nil (n : Int) (hn : -9223372036854775808 ≤ n ∧ n ≤ 9223372036854775807) (w : World) :
    Calls Try.prog 23 #[.pointer none, .int .i64 n] w fun e w' => e = .returned (.tuple #[]) ∧ w = w' := by
  have hz := zig_lt hn
  go_enter Try.func23, Try.ntmps23
  go_wp2_with fail
  refine (folded_any n hn _).mono ?_
  rintro e w0 ⟨rfl, rfl⟩
  go_wp2_with fail
  refine (pen_number_nil _ hz _).mono ?_
  rintro e w1 ⟨rfl, rfl⟩
  go_wp2
  exact bodyPost_end (v := .tuple #[]) (by simp [results, Try.results23]) rfl ⟨rfl, rfl⟩
end Go.Proofs.Ytkdonkebnnjkkaa
