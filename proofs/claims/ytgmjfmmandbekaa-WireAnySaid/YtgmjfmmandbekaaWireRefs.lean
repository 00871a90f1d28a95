/-
  DERIVED. The document's own answers for layer 4: azulejoref01.Count, Int.
-/
import Derived.Test.YtgmjfmmandbekaaBytes
import Derived.Deep.LoopGhost
namespace Go.Proofs.Ytgmjfmmandbekaa
open Go.RowKit
set_option linter.unusedVariables false
set_option maxRecDepth 100000 in
theorem rcount_any (n : Nat) (w : World) (hn : n < 18446744073709551616) :
    Calls Try.prog 11 #[.int .u64 n] w fun e w' => ∃ v, e = .returned v ∧ Own w' w.heap.size v (leb n) ∧ Ext w w' := by
  have hl10 := leb_len10 hn
  go_enter Try.func11, Try.ntmps11
  go_wp2
  go_loopg [0, 3] n (fun k nv ov wr => ∃ (m : Nat) (l : List Int), m ≤ k ∧ k < 18446744073709551616 ∧ nv = .int .u64 m ∧ Own wr w.heap.size ov l ∧ l ++ leb m = leb n ∧ Ext w wr)
  case atStart => exact ⟨n, [], Nat.le_refl _, hn, rfl, Own.nil _ _, rfl, Ext.refl _⟩
  case round =>
    obtain ⟨m, l, hmk, hk, rfl, ho, hl, hx⟩ := hrel
    have hlen : l.length ≤ 10 := by
      have := congrArg List.length hl
      simp at this
      omega
    have hz := hx.size
    have HL := Lib.hid hl
    clear hl
    by_cases hm : 128 ≤ m
    · go_wp2_with (at_builtin; refine wpList_append_byte rfl _ _ rfl w.heap.size _ l rfl (ho.alloc _) wr.heap.size 1 ((m : Int) % 128 + 128) rfl (by simp [go_sem]) (by omega) (by simp; omega) ?_)
      intro v' w' ho' hc _
      have hx' : Ext w w' := Ext.calm_trans (hx.alloc _ _) hc (fun g hg => by
        have := Option.mem_toList.1 hg
        exact (ho.lt g this).1)
      go_wp2
      go_roundg (m / 128)
      case measure => omega
      case rel =>
        refine ⟨m / 128, l ++ [(m : Int) % 128 + 128], Nat.le_refl _, by omega, by simp, ho', ?_, hx'⟩
        rw [← HL.out, leb_great hm]
        simp
    · go_wp2_with (at_builtin; refine wpList_append_byte rfl _ _ rfl w.heap.size _ l rfl (ho.alloc _) wr.heap.size 1 (m : Int) rfl (by simp [go_sem]) (by omega) (by simp; omega) ?_)
      intro v' w' ho' hc _
      have hx' : Ext w w' := Ext.calm_trans (hx.alloc _ _) hc (fun g hg => by
        have := Option.mem_toList.1 hg
        exact (ho.lt g this).1)
      go_wp2
      go_ret
      refine ⟨_, rfl, ?_, hx'⟩
      rw [← HL.out, leb_small (by omega)]
      exact ho'
/-- a number with a sign, as one without -/
def zig (n : Int) : Nat := if n < 0 then (-(n + 1)).toNat * 2 + 1 else n.toNat * 2
theorem zig_lt {n : Int} (h : -9223372036854775808 ≤ n ∧ n ≤ 9223372036854775807) : zig n < 18446744073709551616 := by
  unfold zig; split <;> omega
set_option maxRecDepth 100000 in
theorem rint_any (n : Int) (w : World) (hn : -9223372036854775808 ≤ n ∧ n ≤ 9223372036854775807) :
    Calls Try.prog 9 #[.int .i64 n] w fun e w' => ∃ v, e = .returned v ∧ Own w' w.heap.size v (leb (zig n)) ∧ Ext w w' := by
  have hz := zig_lt hn
  go_enter Try.func9, Try.ntmps9
  by_cases h : n < 0
  · have hd : decide (n < 0) = true := by simpa using h
    have hv : ((-(n + 1)) * 2 + 1 : Int) = ((zig n : Nat) : Int) := by unfold zig; rw [if_pos h]; omega
    go_wp2_with fail
    refine (rcount_any _ _ hz).mono ?_
    rintro e w1 ⟨v, rfl, ho, hx⟩
    go_wp2
    go_ret
    exact ⟨_, rfl, ho, hx⟩
  · have hd : decide (n < 0) = false := by simpa using h
    have hv : (n * 2 : Int) = ((zig n : Nat) : Int) := by unfold zig; rw [if_neg h]; omega
    go_wp2_with fail
    refine (rcount_any _ _ hz).mono ?_
    rintro e w1 ⟨v, rfl, ho, hx⟩
    go_wp2
    go_ret
    exact ⟨_, rfl, ho, hx⟩
end Go.Proofs.Ytgmjfmmandbekaa
