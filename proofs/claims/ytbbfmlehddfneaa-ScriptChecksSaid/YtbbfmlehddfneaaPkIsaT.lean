/-
  DERIVED. THE WALKS of layer 7 (isa): Put. · Layer 7: what reading an instruction, and instructions, comes to. · THE WALKS of layer 7 (isa): takeInstr. · THE WALKS of layer 7 (isa): Take.
-/
import Derived.Test.YtbbfmlehddfneaaPkIsaC
import Derived.Test.YtbbfmlehddfneaaPkWire
import Derived.Test.YtbbfmlehddfneaaPkIsa
namespace Go.Proofs.Ytbbfmlehddfneaa
open Go.RowKit
set_option linter.unusedVariables false
theorem lit4_arr (w : World) (a b c d : Int) (ha : 0 ≤ a ∧ a ≤ 255) (hb : 0 ≤ b ∧ b ≤ 255) (hc : 0 ≤ c ∧ c ≤ 255) (hd : 0 ≤ d ∧ d ≤ 255) :
    Arr (w.alloc (.cells #[.int .u8 a, .int .u8 b, .int .u8 c, .int .u8 d] 5)) .u8 (.slice (some ⟨w.heap.size, 0, none⟩) 4 4) [a, b, c, d] := by
  refine ⟨⟨_, 4, rfl, by simp, fun _ => ⟨w.heap.size, 0, rfl, fun j hj => ?_⟩, fun h => by cases h⟩, by simp [maxLen], fun y hy => wfu8 ?_⟩
  · match j, hj with
    | 0, _ => simp [go_sem]
    | 1, _ => simp [go_sem]
    | 2, _ => simp [go_sem]
    | 3, _ => simp [go_sem]
    | j + 4, h => simp at h; omega
  · simp at hy
    rcases hy with rfl | rfl | rfl | rfl <;> assumption
theorem OwnP.step {F F' : List Nat} {w w' : World} {base : Nat} {v : Value} {l : List In} (h : OwnP w base v l) (hs : Step F F' w w') (hF : ∀ k, v.ownBlock = some k → k ∉ F) : OwnP w' base v l ∧ ∀ k, v.ownBlock = some k → k ∉ F' :=
  ⟨h.calm hs.1 hF, fun k hk hin => by
    rcases hs.2 k hin with h1 | h1
    · exact hF k hk h1
    · have := (h.lt k hk).2
      omega⟩
theorem PArr.calm {O : List Nat} {w w' : World} {ao : Option Addr} {n c : Nat} {xs : List In} (h : PArr w (.slice ao n c) xs) (hx : Calm O w w') (hO : ∀ a, ao = some a → a.block ∉ O ∧ a.block < w.heap.size) : PArr w' (.slice ao n c) xs := by
  obtain ⟨ao', c', e, h1⟩ := h
  refine ⟨ao', c', e, fun hne => ?_⟩
  cases e
  obtain ⟨b, off, rfl, hc⟩ := h1 hne
  obtain ⟨k1, k2⟩ := hO _ rfl
  refine ⟨b, off, rfl, fun j x hj => ?_⟩
  obtain ⟨c0, c1, c2, c3, c4⟩ := hc j x hj
  exact ⟨(hx.cell _ k2 k1).trans c0, (hx.cell _ k2 k1).trans c1, (hx.cell _ k2 k1).trans c2, (hx.cell _ k2 k1).trans c3, (hx.cell _ k2 k1).trans c4⟩
theorem PArr.step {F F' : List Nat} {w w' : World} {ao : Option Addr} {n c : Nat} {xs : List In} (h : PArr w (.slice ao n c) xs) (hs : Step F F' w w') (hF : ∀ a, ao = some a → a.block ∉ F ∧ a.block < w.heap.size) : PArr w' (.slice ao n c) xs ∧ ∀ a, ao = some a → a.block ∉ F' ∧ a.block < w'.heap.size :=
  ⟨h.calm hs.1 hF, fun a ha => ⟨fun hin => by
    rcases hs.2 _ hin with h1 | h1
    · exact (hF a ha).1 h1
    · have := (hF a ha).2
      omega, Nat.lt_of_lt_of_le (hF a ha).2 hs.1.size⟩⟩
set_option maxRecDepth 100000 in
set_option maxHeartbeats 1000000 in
/-- a program that can be read is put -/
theorem putR_any (w : World) (base p : Nat) (l : List Int) (F : List Nat) (hP : Pen w base p l F) (ao : Option Addr) (c : Nat) (xs : List In) (h : PArr w (.slice ao xs.length c) xs) (hF : ∀ a, ao = some a → a.block ∉ F ∧ a.block < w.heap.size) (hok : ∀ x ∈ xs, x.ok) (hl : xs.length ≤ 1000) (hlen : l.length < 50000) (hb : base ≤ w.heap.size) :
    Calls Try.prog 48 #[.slice ao xs.length c, .pointer (some ⟨p, 0, none⟩)] w fun e w' => e = .returned (.tuple #[]) ∧ ∃ F', Pen w' base p (l ++ enc xs) F' ∧ Step F F' w w' := by
  have hlI : (xs.length : Int) ≤ 1000 := by omega
  go_enter Try.func48, Try.ntmps48
  go_wp2_with fail
  refine (pen_count (xs.length : Int) (by omega) _ _ _ _ _ hP (by omega) hb).mono ?_
  rintro e w1 ⟨rfl, F1, P1, s1⟩
  rw [Int.toNat_natCast] at P1
  have hl1 : (leb xs.length).length ≤ 10 := leb_len10 (by omega)
  go_wp2_with fail
  go_loopg [12] xs.length (fun k iv wr => ∃ (j : Nat) (F' : List Nat), j + k = xs.length ∧ iv = .int .i64 j ∧ Pen wr base p (l ++ leb xs.length ++ encs (xs.take j)) F' ∧ Step F F' w wr)
  case atStart => exact ⟨0, F1, by omega, rfl, by simpa [encs] using P1, s1⟩
  case round =>
    clear P1 s1
    obtain ⟨j, F2, hjk, rfl, P2, s2⟩ := hrel
    by_cases hj : j < xs.length
    · have hjI : (j : Int) < (xs.length : Int) := by omega
      obtain ⟨h2, hF2⟩ := h.step s2 hF
      obtain ⟨g, off, x, rfl, -, hx, c0, c1, c2, c3, c4⟩ := h2.nth j hj
      have hxo := hok x (List.mem_of_getElem? hx)
      have hsz := s2.1.size
      have him := hxo.2.2.2.2
      have hel : (encs (xs.take j)).length ≤ 7000 := by
        have := encs_len (xs := xs.take j) fun y hy => hok y (List.mem_of_mem_take hy)
        simp at this
        omega
      have hes := encs_snoc hx
      have HES := Lib.hid hes
      clear hes hx
      have x3 := ((Ext.refl wr).alloc #[.int .u8 x.op, .int .u8 x.dst, .int .u8 x.a, .int .u8 x.b, .int .i16 x.imm] 72)
      have x4 := x3.alloc #[.int .u8 x.op, .int .u8 x.dst, .int .u8 x.a, .int .u8 x.b] 5
      have B4 := (Blk.new wr #[.int .u8 x.op, .int .u8 x.dst, .int .u8 x.a, .int .u8 x.b, .int .i16 x.imm] 72).alloc (.cells #[.int .u8 x.op, .int .u8 x.dst, .int .u8 x.a, .int .u8 x.b] 5)
      have P4 := P2.ext x4
      have A4 := lit4_arr (wr.alloc (.cells #[.int .u8 x.op, .int .u8 x.dst, .int .u8 x.a, .int .u8 x.b, .int .i16 x.imm] 72)) x.op x.dst x.a x.b hxo.1 hxo.2.1 hxo.2.2.1 hxo.2.2.2.1
      have z4 : (wr.alloc (.cells #[.int .u8 x.op, .int .u8 x.dst, .int .u8 x.a, .int .u8 x.b, .int .i16 x.imm] 72)).heap.size = wr.heap.size + 1 := by simp
      rw [z4] at A4
      clear z4
      have s4 := s2.trans (Step.of_ext x4)
      go_wp2_with fail
      refine (pen_put _ base p _ _ P4 _ _ A4 (by simp only [List.length_append, List.length_cons, List.length_nil]; omega) (by have := x4.size; omega)).mono ?_
      rintro e w5 ⟨rfl, F5, P5, s5⟩
      have B5 := B4.calm s5.1 (fun hin => by have := (P2.lt _ hin).2; omega)
      have b5 := B5.cell
      have s6 := s4.trans s5
      clear x3 x4 B4 P4 A4 s4 s5 P2
      go_wp2_with fail
      refine (pen_int x.imm (by have := hxo.2.2.2.2; omega) _ _ _ _ _ P5 (by simp only [List.length_append, List.length_cons, List.length_nil]; omega) (by have := s6.1.size; omega)).mono ?_
      rintro e w7 ⟨rfl, F7, P7, s7⟩
      have s8 := s6.trans s7
      go_wp2
      go_roundg (gk - 1)
      case measure => omega
      case rel => exact ⟨j + 1, F7, by omega, rfl, by rw [HES.out]; simpa [encI] using P7, s8⟩
    · obtain rfl : j = xs.length := by omega
      rw [List.take_length] at P2
      go_wp2
      exact bodyPost_end (v := .tuple #[]) (by simp [results, Try.results48]) rfl ⟨rfl, F2, by simpa [enc] using P2, s2⟩
theorem putP_any (w : World) (base p : Nat) (l : List Int) (F : List Nat) (hP : Pen w base p l F) (base' : Nat) (v : Value) (xs : List In) (h : OwnP w base' v xs) (hF : ∀ k, v.ownBlock = some k → k ∉ F) (hok : ∀ x ∈ xs, x.ok) (hl : xs.length ≤ 1000) (hlen : l.length < 1000) (hb : base ≤ w.heap.size) :
    Calls Try.prog 48 #[v, .pointer (some ⟨p, 0, none⟩)] w fun e w' => e = .returned (.tuple #[]) ∧ ∃ F', Pen w' base p (l ++ enc xs) F' ∧ Step F F' w w' := by
  have hp := h.parr
  have hlt := h.lt
  obtain ⟨ao, c, rfl, -, ha⟩ := h.slice
  refine putR_any w base p l F hP ao c xs hp (fun a e => ?_) hok hl (by omega) hb
  subst e
  have e := ha a rfl
  have ho : (Value.slice (some a) xs.length c).ownBlock = some a.block := by rw [e]; rfl
  exact ⟨hF _ ho, (hlt _ ho).2⟩
end Go.Proofs.Ytbbfmlehddfneaa

namespace Go.Proofs.Ytbbfmlehddfneaa
open Go.RowKit
set_option linter.unusedVariables false

def byteR (l : List Int) (k : Nat) (err : Int) (y : Int) (k' : Nat) (err' : Int) : Prop :=
  (err = 0 ∧ err' = 0 ∧ l.drop k = [y] ++ l.drop k') ∨ (err' ≠ 0 ∧ (err ≠ 0 ∨ l.drop k = []))
def intR (l : List Int) (k : Nat) (err : Int) (n : Int) (k' : Nat) (err' : Int) : Prop :=
  (err = 0 ∧ err' = 0 ∧ l.drop k = leb (zig n) ++ l.drop k') ∨ (err' ≠ 0 ∧ (err ≠ 0 ∨ ∀ m r, -32768 ≤ m ∧ m ≤ 32767 → l.drop k ≠ leb (zig m) ++ r))
def cntR (l : List Int) (k : Nat) (err : Int) (n : Nat) (k' : Nat) (err' : Int) : Prop :=
  (err = 0 ∧ err' = 0 ∧ l.drop k = leb n ++ l.drop k') ∨ (err' ≠ 0 ∧ n = 0 ∧ (err ≠ 0 ∨ ∀ m r, m ≤ 24 → l.drop k ≠ leb m ++ r))
theorem errOr_pos (err : Int) {n : Int} (h : n ≠ 0) : errOr err n ≠ 0 := by
  unfold errOr
  split
  · exact h
  · assumption
theorem rd_byte_any (w : World) (base p : Nat) (l : List Int) (k : Nat) (err : Int) (F : List Nat) (h : Rdr w base p l k err F) :
    Calls Try.prog 58 #[.pointer (some ⟨p, 0, none⟩)] w fun e w' => ∃ y k' err', e = .returned (.int .u8 y) ∧ (0 ≤ y ∧ y ≤ 255) ∧ Rdr w' base p l k' err' F ∧ Step F F w w' ∧ byteR l k err y k' err' := by
  have hm := h.most
  by_cases he : err = 0 ∧ k < l.length
  · obtain ⟨rfl, hk⟩ := he
    have hy : l[k]? = some l[k] := by simp [hk]
    refine (rd_byte w base p l k F h _ hy).mono ?_
    rintro e w' ⟨rfl, h1, s1⟩
    exact ⟨_, _, _, rfl, h.bytes _ (List.getElem_mem hk), h1, s1, .inl ⟨rfl, rfl, by rw [List.drop_eq_getElem_cons hk]; rfl⟩⟩
  · have hno : err ≠ 0 ∨ k = l.length := by
      rcases Classical.em (err = 0) with h0 | h0
      · right; have : ¬ k < l.length := fun hk => he ⟨h0, hk⟩; omega
      · exact .inl h0
    refine (rd_byte_no w base p l k err F h hno).mono ?_
    rintro e w' ⟨rfl, h1, s1⟩
    refine ⟨_, _, _, rfl, by omega, h1, s1, .inr ⟨errOr_pos err (by decide), ?_⟩⟩
    rcases hno with h0 | h0
    · exact .inl h0
    · right; rw [h0]; simp
theorem rdAt_cases {err : Int} {b : List Int} (hb : ∀ y ∈ b, 0 ≤ y ∧ y ≤ 255) {n j : Nat} {e : Int} (h : rdAt err b = (n, j, e)) : (err = 0 ∧ e = 0 ∧ n < 18446744073709551616 ∧ b = leb n ++ b.drop j) ∨ (n = 0 ∧ e ≠ 0 ∧ (err ≠ 0 ∨ ∀ m r, m < 18446744073709551616 → b ≠ leb m ++ r)) := by
  by_cases he : err = 0
  · subst he
    rw [rdAt_zero] at h
    rcases rdNum_ok hb h with ⟨rfl, h1, h2, h3⟩ | ⟨rfl, h2⟩
    · exact .inl ⟨rfl, rfl, h1, by rw [← h2, List.take_append_drop]⟩
    · refine .inr ⟨rfl, by omega, .inr fun m r hm e1 => ?_⟩
      rw [e1, rdNum_leb hm] at h
      cases h
      omega
  · rw [rdAt_ne he] at h
    cases h
    exact .inr ⟨rfl, he, .inl he⟩
theorem rd_within16 (w : World) (base p : Nat) (l : List Int) (k : Nat) (err : Int) (F : List Nat) (h : Rdr w base p l k err F) :
    Calls Try.prog 86 #[.pointer (some ⟨p, 0, none⟩), .int .i64 (-32768), .int .i64 32767] w fun e w' => ∃ n k' err', e = .returned (.int .i64 n) ∧ (-32768 ≤ n ∧ n ≤ 32767) ∧ Rdr w' base p l k' err' F ∧ Step F F w w' ∧ intR l k err n k' err' := by
  obtain ⟨⟨n, j, e⟩, hrd⟩ : ∃ q, rdAt err (l.drop k) = q := ⟨_, rfl⟩
  have hc := rdAt_cases (fun y hy => h.bytes y (List.mem_of_mem_drop hy)) hrd
  rw [List.drop_drop] at hc
  by_cases hle : -32768 ≤ unzig n ∧ unzig n ≤ 32767
  · refine (rd_within (-32768) 32767 (by omega) (by omega) w base p l k err F h n j e hrd hle).mono ?_
    rintro r w' ⟨rfl, h1, s1⟩
    refine ⟨_, _, _, rfl, hle, h1, s1, ?_⟩
    rcases hc with ⟨rfl, rfl, _, h2⟩ | ⟨rfl, h2, h3⟩
    · exact .inl ⟨rfl, rfl, by rw [zig_unzig]; exact h2⟩
    · refine .inr ⟨h2, ?_⟩
      rcases h3 with h3 | h3
      · exact .inl h3
      · exact .inr fun m r hm => h3 _ r (zig_lt (by omega))
  · refine (rd_within_out (-32768) 32767 (by omega) (by omega) w base p l k err F h n j e hrd hle).mono ?_
    rintro r w' ⟨rfl, h1, s1⟩
    refine ⟨_, _, _, rfl, by omega, h1, s1, .inr ⟨errOr_pos e (by decide), ?_⟩⟩
    rcases hc with ⟨rfl, rfl, hn, h2⟩ | ⟨rfl, h2, h3⟩
    · refine .inr fun m r hm e1 => ?_
      rw [e1, rdAt_zero, rdNum_leb (zig_lt (by omega))] at hrd
      cases hrd
      rw [unzig_zig] at hle
      exact hle hm
    · rcases h3 with h3 | h3
      · exact .inl h3
      · exact .inr fun m r hm => h3 _ r (zig_lt (by omega))
theorem rd_count24 (w : World) (base p : Nat) (l : List Int) (k : Nat) (err : Int) (F : List Nat) (h : Rdr w base p l k err F) :
    Calls Try.prog 37 #[.pointer (some ⟨p, 0, none⟩), .int .i64 24] w fun e w' => ∃ (n k' : Nat) (err' : Int), e = .returned (.int .i64 n) ∧ n ≤ 24 ∧ Rdr w' base p l k' err' F ∧ Step F F w w' ∧ cntR l k err n k' err' := by
  obtain ⟨⟨n, j, e⟩, hrd⟩ : ∃ q, rdAt err (l.drop k) = q := ⟨_, rfl⟩
  have hc := rdAt_cases (fun y hy => h.bytes y (List.mem_of_mem_drop hy)) hrd
  rw [List.drop_drop] at hc
  by_cases hle : n ≤ 24
  · refine (rd_count 24 (by omega) w base p l k err F h n j e hrd (by simpa using hle)).mono ?_
    rintro r w' ⟨rfl, h1, s1⟩
    refine ⟨_, _, _, rfl, hle, h1, s1, ?_⟩
    rcases hc with ⟨rfl, rfl, _, h2⟩ | ⟨rfl, h2, h3⟩
    · exact .inl ⟨rfl, rfl, h2⟩
    · refine .inr ⟨h2, rfl, ?_⟩
      rcases h3 with h3 | h3
      · exact .inl h3
      · exact .inr fun m r hm => h3 _ r (by omega)
  · refine (rd_count_many 24 (by omega) w base p l k err F h n j e hrd (by simp; omega)).mono ?_
    rintro r w' ⟨rfl, h1, s1⟩
    refine ⟨0, _, _, rfl, by omega, h1, s1, .inr ⟨by decide, rfl, ?_⟩⟩
    rcases hc with ⟨rfl, rfl, hn, h2⟩ | ⟨rfl, h2, h3⟩
    · refine .inr fun m r hm e1 => ?_
      rw [e1, rdAt_zero, rdNum_leb (by omega)] at hrd
      cases hrd
      exact hle hm
    · omega

/-- an instruction is read -/
def TakeI (l : List Int) (k : Nat) (err : Int) (x : In) (k' : Nat) (err' : Int) : Prop :=
  (err = 0 ∧ err' = 0 ∧ l.drop k = encI x ++ l.drop k') ∨ (err' ≠ 0 ∧ (err ≠ 0 ∨ ∀ y r, y.ok → l.drop k ≠ encI y ++ r))
theorem takeI_of {l : List Int} {k k1 k2 k3 k4 k5 : Nat} {e e1 e2 e3 e4 e5 : Int} {op dst a b imm : Int} (h1 : byteR l k e op k1 e1) (h2 : byteR l k1 e1 dst k2 e2) (h3 : byteR l k2 e2 a k3 e3) (h4 : byteR l k3 e3 b k4 e4) (h5 : intR l k4 e4 imm k5 e5) : TakeI l k e ⟨op, dst, a, b, imm⟩ k5 e5 := by
  rcases h1 with ⟨rfl, rfl, d1⟩ | ⟨n1, h1⟩
  · rcases h2 with ⟨_, rfl, d2⟩ | ⟨n2, h2⟩
    · rcases h3 with ⟨_, rfl, d3⟩ | ⟨n3, h3⟩
      · rcases h4 with ⟨_, rfl, d4⟩ | ⟨n4, h4⟩
        · rcases h5 with ⟨_, rfl, d5⟩ | ⟨n5, h5⟩
          · exact .inl ⟨rfl, rfl, by rw [d1, d2, d3, d4, d5]; simp [encI]⟩
          · refine .inr ⟨n5, .inr fun y r hy e0 => ?_⟩
            rcases h5 with h5 | h5
            · exact h5 rfl
            · rw [d1, d2, d3, d4] at e0
              simp [encI] at e0
              exact h5 y.imm r hy.2.2.2.2 e0.2.2.2.2
        · have h4' : l.drop k3 = [] := by rcases h4 with h | h; exact absurd rfl h; exact h
          refine .inr ⟨?_, .inr fun y r hy e0 => by rw [d1, d2, d3, h4'] at e0; simp [encI] at e0⟩
          rcases h5 with ⟨h, _⟩ | ⟨h, _⟩
          · exact absurd h n4
          · exact h
      · have h3' : l.drop k2 = [] := by rcases h3 with h | h; exact absurd rfl h; exact h
        refine .inr ⟨?_, .inr fun y r hy e0 => by rw [d1, d2, h3'] at e0; simp [encI] at e0⟩
        rcases h4 with ⟨h, _⟩ | ⟨n4, _⟩
        · exact absurd h n3
        · rcases h5 with ⟨h, _⟩ | ⟨h, _⟩
          · exact absurd h n4
          · exact h
    · have h2' : l.drop k1 = [] := by rcases h2 with h | h; exact absurd rfl h; exact h
      refine .inr ⟨?_, .inr fun y r hy e0 => by rw [d1, h2'] at e0; simp [encI] at e0⟩
      rcases h3 with ⟨h, _⟩ | ⟨n3, _⟩
      · exact absurd h n2
      · rcases h4 with ⟨h, _⟩ | ⟨n4, _⟩
        · exact absurd h n3
        · rcases h5 with ⟨h, _⟩ | ⟨h, _⟩
          · exact absurd h n4
          · exact h
  · refine .inr ⟨?_, ?_⟩
    · rcases h2 with ⟨h, _⟩ | ⟨n2, _⟩
      · exact absurd h n1
      · rcases h3 with ⟨h, _⟩ | ⟨n3, _⟩
        · exact absurd h n2
        · rcases h4 with ⟨h, _⟩ | ⟨n4, _⟩
          · exact absurd h n3
          · rcases h5 with ⟨h, _⟩ | ⟨h, _⟩
            · exact absurd h n4
            · exact h
    · rcases h1 with h | h
      · exact .inl h
      · exact .inr fun y r hy e0 => by rw [h] at e0; simp [encI] at e0
theorem append_inj_leb {m n : Nat} {r s : List Int} (h : leb m ++ r = leb n ++ s) (hm : m < 18446744073709551616) (hn : n < 18446744073709551616) : m = n ∧ r = s := by
  have h1 := rdNum_leb hm r
  rw [h, rdNum_leb hn s] at h1
  cases h1
  exact ⟨rfl, List.append_cancel_left h⟩
theorem encI_inj {x y : In} {r s : List Int} (hx : x.ok) (hy : y.ok) (h : encI x ++ r = encI y ++ s) : x = y ∧ r = s := by
  have zx := zig_ok hx
  have zy := zig_ok hy
  obtain ⟨op, dst, a, b, imm⟩ := x
  obtain ⟨op', dst', a', b', imm'⟩ := y
  simp [encI] at h
  dsimp only at zx zy
  obtain ⟨rfl, rfl, rfl, rfl, h⟩ := h
  obtain ⟨h1, h2⟩ := append_inj_leb h (by omega) (by omega)
  have := zig_inj h1
  subst this
  exact ⟨rfl, h2⟩
/-- instructions are read, one behind the other -/
def Took (l : List Int) (k0 : Nat) (e0 : Int) (done : List In) (k : Nat) (e : Int) : Prop :=
  (∀ x ∈ done, x.ok) ∧ ((e0 = 0 ∧ e = 0 ∧ l.drop k0 = encs done ++ l.drop k) ∨ (e ≠ 0 ∧ (e0 ≠ 0 ∨ ∀ ys r, (∀ y ∈ ys, y.ok) → done.length ≤ ys.length → l.drop k0 ≠ encs ys ++ r)))
theorem Took.start (l : List Int) (k : Nat) (e : Int) : Took l k e [] k e := by
  refine ⟨fun x hx => absurd hx (by simp), ?_⟩
  by_cases h : e = 0
  · exact .inl ⟨h, h, rfl⟩
  · exact .inr ⟨h, .inl h⟩
theorem encs_inj {xs ys : List In} {r s : List Int} (hx : ∀ x ∈ xs, x.ok) (hy : ∀ y ∈ ys, y.ok) (hl : xs.length ≤ ys.length) (h : encs xs ++ r = encs ys ++ s) : xs = ys.take xs.length ∧ r = encs (ys.drop xs.length) ++ s := by
  induction xs generalizing ys with
  | nil => exact ⟨by simp, by simpa [encs] using h⟩
  | cons x xs ih =>
    cases ys with
    | nil => simp at hl
    | cons y ys =>
      simp only [encs, List.append_assoc] at h
      obtain ⟨rfl, h2⟩ := encI_inj (hx x (by simp)) (hy y (by simp)) h
      obtain ⟨h3, h4⟩ := ih (fun z hz => hx z (by simp [hz])) (fun z hz => hy z (by simp [hz])) (by simpa using hl) h2
      exact ⟨by simp; exact h3, by simpa using h4⟩
theorem Took.next {l : List Int} {k0 k k' : Nat} {e0 e e' : Int} {done : List In} {x : In} (h : Took l k0 e0 done k e) (hx : x.ok) (hi : TakeI l k e x k' e') : Took l k0 e0 (done ++ [x]) k' e' := by
  obtain ⟨h1, h2⟩ := h
  refine ⟨fun y hy => ?_, ?_⟩
  · rcases List.mem_append.1 hy with hy | hy
    · exact h1 y hy
    · simp at hy; rw [hy]; exact hx
  · rcases h2 with ⟨rfl, rfl, d⟩ | ⟨ne, h2⟩
    · rcases hi with ⟨_, rfl, d2⟩ | ⟨ne, hi⟩
      · exact .inl ⟨rfl, rfl, by rw [d, d2, encs_append]; simp [encs]⟩
      · refine .inr ⟨ne, .inr fun ys r hy hlen e1 => ?_⟩
        simp at hlen
        rw [d] at e1
        obtain ⟨_, h4⟩ := encs_inj h1 hy (by omega) e1
        rcases hi with hi | hi
        · exact hi rfl
        · have hd : ys.drop done.length = ys[done.length] :: ys.drop (done.length + 1) := List.drop_eq_getElem_cons (by omega)
          rw [hd] at h4
          simp only [encs, List.append_assoc] at h4
          exact hi _ _ (hy _ (List.getElem_mem _)) h4
    · refine .inr ⟨?_, ?_⟩
      · rcases hi with ⟨h, _⟩ | ⟨h, _⟩
        · exact absurd h ne
        · exact h
      · rcases h2 with h2 | h2
        · exact .inl h2
        · exact .inr fun ys r hy hlen => h2 ys r hy (by simp at hlen; omega)
end Go.Proofs.Ytbbfmlehddfneaa

namespace Go.Proofs.Ytbbfmlehddfneaa
open Go.RowKit
set_option linter.unusedVariables false

set_option maxRecDepth 100000 in
set_option maxHeartbeats 1000000 in
theorem takeInstr_any (w : World) (base p : Nat) (l : List Int) (k : Nat) (err : Int) (F : List Nat) (h : Rdr w base p l k err F) :
    Calls Try.prog 72 #[.pointer (some ⟨p, 0, none⟩)] w fun e w' => ∃ (x : In) (k' : Nat) (err' : Int), e = .returned (.agg #[.int .u8 x.op, .int .u8 x.dst, .int .u8 x.a, .int .u8 x.b, .int .i16 x.imm]) ∧ x.ok ∧ Rdr w' base p l k' err' F ∧ Step F F w w' ∧ TakeI l k err x k' err' := by
  have x0 := (Ext.refl w).alloc #[.int .u8 0, .int .u8 0, .int .u8 0, .int .u8 0, .int .i16 0] 72
  have B0 := Blk.new w #[.int .u8 0, .int .u8 0, .int .u8 0, .int .u8 0, .int .i16 0] 72
  have h0 := h.ext x0
  have s0 : Step F F w _ := Step.of_ext x0
  have hb : ∀ b ∈ F, b < w.heap.size := fun b hb => (h.lt b hb).2
  have hnF : w.heap.size ∉ F := fun hin => by have := hb _ hin; omega
  clear x0 h
  go_enter Try.func72, Try.ntmps72
  go_wp2_with fail
  refine (rd_byte_any _ _ _ _ _ _ _ h0).mono ?_
  rintro e w1 ⟨op, k1, e1, rfl, b1, h1, s1, r1⟩
  go_wp2_with fail
  refine (rd_byte_any _ _ _ _ _ _ _ h1).mono ?_
  rintro e w2 ⟨dst, k2, e2, rfl, b2, h2, s2, r2⟩
  go_wp2_with fail
  refine (rd_byte_any _ _ _ _ _ _ _ h2).mono ?_
  rintro e w3 ⟨ra, k3, e3, rfl, b3, h3, s3, r3⟩
  go_wp2_with fail
  refine (rd_byte_any _ _ _ _ _ _ _ h3).mono ?_
  rintro e w4 ⟨rb, k4, e4, rfl, b4, h4, s4, r4⟩
  go_wp2_with fail
  refine (rd_within16 _ _ _ _ _ _ _ h4).mono ?_
  rintro e w5 ⟨imm, k5, e5, rfl, b5, h5, s5, r5⟩
  have s6 := (((s1.trans s2).trans s3).trans s4).trans s5
  have B5 := B0.calm s6.1 hnF
  have s7 := s0.trans s6
  have T5 := takeI_of r1 r2 r3 r4 r5
  clear h0 s0 B0 h1 h2 h3 h4 s1 s2 s3 s4 s5 r1 r2 r3 r4 r5 s6
  have hc5 := B5.cell
  have hf5 := B5.frozen
  go_wp2
  have K6 := calm5 w5 w.heap.size 0 1 2 3 4 (.int .u8 op) (.int .u8 dst) (.int .u8 ra) (.int .u8 rb) (.int .i16 imm)
  have B6 : Blk _ w.heap.size #[.int .u8 op, .int .u8 dst, .int .u8 ra, .int .u8 rb, .int .i16 imm] 72 := ((((B5.set 0 (.int .u8 op)).set 1 (.int .u8 dst)).set 2 (.int .u8 ra)).set 3 (.int .u8 rb)).set 4 (.int .i16 imm)
  have h6 := h5.kept K6 (fun b hm => by have := hb b hm; simp; omega)
  have s8 := s7.store K6 (by simp)
  have hc6 := B6.cell
  generalize (((((w5.setCell ⟨w.heap.size, 0, none⟩ (.int .u8 op)).setCell ⟨w.heap.size, 1, none⟩ (.int .u8 dst)).setCell ⟨w.heap.size, 2, none⟩ (.int .u8 ra)).setCell ⟨w.heap.size, 3, none⟩ (.int .u8 rb)).setCell ⟨w.heap.size, 4, none⟩ (.int .i16 imm)) = w6 at *
  exact bodyPost_ret (v := .agg #[.int .u8 op, .int .u8 dst, .int .u8 ra, .int .u8 rb, .int .i16 imm]) (by simp [results, Try.results72, go_sem, hc6]) rfl ⟨⟨op, dst, ra, rb, imm⟩, k5, e5, rfl, ⟨b1, b2, b3, b4, b5⟩, h6, s8, T5⟩
end Go.Proofs.Ytbbfmlehddfneaa

namespace Go.Proofs.Ytbbfmlehddfneaa
open Go.RowKit
set_option linter.unusedVariables false
def TakeP (d : Bool) (l : List Int) (k : Nat) (err : Int) (xs : List In) (k' : Nat) (err' : Int) : Prop :=
  (err = 0 ∧ err' = 0 ∧ chk d xs = 0 ∧ l.drop k = enc xs ++ l.drop k') ∨ (err' ≠ 0 ∧ xs = [] ∧ (err ≠ 0 ∨ ∀ ys r, (∀ y ∈ ys, y.ok) → chk d ys = 0 → l.drop k ≠ enc ys ++ r))
theorem takeP_ok {d : Bool} {l : List Int} {k n k1 k2 : Nat} {err e1 e2 : Int} {xs : List In} (hc : cntR l k err n k1 e1) (ht : Took l k1 e1 xs k2 e2) (hl : xs.length = n) (h2 : e2 = 0) (hk : chk d xs = 0) : TakeP d l k err xs k2 0 := by
  subst h2
  rcases ht.2 with ⟨rfl, _, d2⟩ | ⟨h, _⟩
  · rcases hc with ⟨rfl, _, d1⟩ | ⟨h, _⟩
    · exact .inl ⟨rfl, rfl, hk, by rw [d1, d2]; simp [enc, hl]⟩
    · exact absurd rfl h
  · exact absurd rfl h
theorem takeP_no {d : Bool} {l : List Int} {k n k1 k2 : Nat} {err e1 e2 : Int} {xs : List In} (hc : cntR l k err n k1 e1) (hn : n ≤ 24) (ht : Took l k1 e1 xs k2 e2) (hl : xs.length = n) (h : ¬ (e2 = 0 ∧ chk d xs = 0)) : TakeP d l k err [] k2 (errOr e2 (chk d xs)) := by
  refine .inr ⟨?_, rfl, ?_⟩
  · unfold errOr
    split
    · intro h1; exact h ⟨by assumption, h1⟩
    · assumption
  · by_cases he : err = 0
    · right
      subst he
      intro ys r hy hk e0
      have hyl := (chk_zero hk).1
      unfold enc at e0
      rw [List.append_assoc] at e0
      rcases hc with ⟨_, rfl, d1⟩ | ⟨_, _, h1⟩
      · rw [d1] at e0
        obtain ⟨e1, e2'⟩ := append_inj_leb e0 (by omega) (by omega)
        rcases ht.2 with ⟨_, rfl, d2⟩ | ⟨_, h3⟩
        · rw [d2] at e2'
          obtain ⟨h4, _⟩ := encs_inj ht.1 hy (by omega) e2'
          rw [List.take_of_length_le (by omega)] at h4
          subst h4
          exact h ⟨rfl, hk⟩
        · rcases h3 with h3 | h3
          · exact h3 rfl
          · exact h3 ys r hy (by omega) e2'
      · rcases h1 with h1 | h1
        · exact h1 rfl
        · exact h1 _ _ hyl e0
    · exact .inl he
theorem set_done (done : List In) (n : Nat) (x : In) (z : In) : (done ++ List.replicate (n + 1) z).set done.length x = (done ++ [x]) ++ List.replicate n z := by
  rw [List.set_append_right _ _ (by omega)]
  simp [List.replicate_succ]
set_option maxRecDepth 100000 in
set_option maxHeartbeats 1000000 in
theorem take_any (d : Bool) (w : World) (base p : Nat) (l : List Int) (k : Nat) (err : Int) (F : List Nat) (h : Rdr w base p l k err F) :
    Calls Try.prog 56 #[.pointer (some ⟨p, 0, none⟩), .bool d] w fun e w' => ∃ (v : Value) (xs : List In) (k' : Nat) (err' : Int), e = .returned v ∧ OwnP w' w.heap.size v xs ∧ (∀ x ∈ xs, x.ok) ∧ xs.length ≤ 24 ∧ Rdr w' base p l k' err' F ∧ Step F F w w' ∧ TakeP d l k err xs k' err' := by
  have hb : ∀ b ∈ F, b < w.heap.size := fun b hb => (h.lt b hb).2
  go_enter Try.func56, Try.ntmps56
  go_wp2_with fail
  refine (rd_count24 _ _ _ _ _ _ _ h).mono ?_
  rintro e w1 ⟨n, k1, e1, rfl, hn, h1, s1, hc⟩
  clear h
  have hsz := s1.1.size
  have hmk := make_ins n (by omega) w1
  have o2 := (ownP_zeros w1 n (by omega)).mono hsz
  have x2 := (Ext.refl w1).alloc (madeCells #[.int .u8 0, .int .u8 0, .int .u8 0, .int .u8 0, .int .i16 0] (n * 5)) 72
  have h2 := h1.ext x2
  have s2 := s1.trans (Step.of_ext x2)
  have hnI : (n : Int) ≤ 24 := by omega
  have hbg : ∀ b ∈ F, b ≠ w1.heap.size := fun b hm => by have := hb b hm; omega
  go_wp2_with fail
  clear hmk x2 s1 h1
  generalize (w1.alloc (.cells (madeCells #[.int .u8 0, .int .u8 0, .int .u8 0, .int .u8 0, .int .i16 0] (n * 5)) 72)) = w2 at *
  generalize w1.heap.size = g at *
  go_loopg [12] n (fun m iv wr => ∃ (j : Nat) (done : List In) (k2 : Nat) (e2 : Int), j + m = n ∧ iv = .int .i64 j ∧ done.length = j ∧ OwnP wr w.heap.size (.slice (some ⟨g, 0, none⟩) n n) (done ++ List.replicate m zeroI) ∧ Rdr wr base p l k2 e2 F ∧ Step F F w wr ∧ Took l k1 e1 done k2 e2)
  case atStart => exact ⟨0, [], k1, e1, by omega, rfl, rfl, o2, h2, s2, Took.start _ _ _⟩
  case round =>
    clear o2 h2 s2
    obtain ⟨j, done, k2, e2, hjm, rfl, hdl, o3, h3, s3, T3⟩ := hrel
    by_cases hj : j < n
    · have hjI : (j : Int) < (n : Int) := by omega
      go_wp2_with fail
      refine (takeInstr_any _ _ _ _ _ _ _ h3).mono ?_
      rintro e w4 ⟨x, k4, e4, rfl, hx, h4, s4, T4⟩
      have T5 := T3.next hx T4
      have o4 := o3.calm s4.1 (fun b hbb hin => by simp [Value.ownBlock] at hbb; exact hbg b hin hbb.symm)
      obtain ⟨m, rfl⟩ : ∃ m, gk = m + 1 := ⟨gk - 1, by omega⟩
      have hll : n = (done ++ List.replicate (m + 1) zeroI).length := by simp; omega
      have hth := o4.thaw hll
      obtain ⟨g', y, eg, -, -, c0, c1, c2, c3, c4⟩ := o4.nth j (by rw [← hll]; exact hj)
      cases eg
      have o5 := o4.put hll j (by rw [← hll]; exact hj) x
      rw [show (done ++ List.replicate (m + 1) zeroI).set j x = (done ++ [x]) ++ List.replicate m zeroI by rw [← hdl]; exact set_done done m x zeroI] at o5
      have K5 := calm5 w4 g (j * 5) (j * 5 + 1) (j * 5 + 2) (j * 5 + 3) (j * 5 + 4) (.int .u8 x.op) (.int .u8 x.dst) (.int .u8 x.a) (.int .u8 x.b) (.int .i16 x.imm)
      have h5 := h4.kept K5 (fun b hm => by have := hbg b hm; simpa using this)
      have s5 := (s3.trans s4).store K5 (by simpa using hsz)
      clear o3 h3 s3 T3 T4 h4 s4 o4 K5 hll
      go_wp2
      go_roundg m
      case measure => omega
      case rel => exact ⟨j + 1, done ++ [x], k4, e4, by omega, rfl, by simp; omega, o5, h5, s5, T5⟩
    · obtain rfl : j = n := by omega
      obtain rfl : gk = 0 := by omega
      rw [List.replicate_zero, List.append_nil] at o3
      go_wp2_with fail
      refine (check_any d _ _ _ done o3 T3.1 (by omega)).mono ?_
      rintro e w4 ⟨rfl, x4⟩
      have o4 := o3.ext x4
      have h4 := h3.ext x4
      have s4 := s3.trans (Step.of_ext x4)
      clear o3 h3 s3 x4
      go_wp2_with fail
      refine (rd_fail _ _ _ _ _ _ (chk d done) _ h4).mono ?_
      rintro e w5 ⟨rfl, h5, s5⟩
      have o5 := o4.calm s5.1 (fun b hbb hin => by simp [Value.ownBlock] at hbb; exact hbg b hin hbb.symm)
      have s6 := s4.trans s5
      clear o4 h4 s4 s5
      go_wp2_with fail
      refine (rd_err _ _ _ _ _ _ _ h5).mono ?_
      rintro e w6 ⟨rfl, rfl⟩
      by_cases hok : e2 = 0 ∧ chk d done = 0
      · have TP := takeP_ok hc T3 hdl hok.1 hok.2
        have he : errOr e2 (chk d done) = 0 := by rw [hok.1, hok.2]; rfl
        rw [he] at h5 ⊢
        go_wp2
        go_ret
        exact ⟨_, done, k2, 0, rfl, o5, T3.1, by omega, h5, s6, TP⟩
      · have TP := takeP_no hc hn T3 hdl hok
        have he : (errOr e2 (chk d done) != 0) = true := by
          rcases TP with ⟨_, h, _⟩ | ⟨h, _⟩
          · exfalso
            apply hok
            unfold errOr at h
            split at h
            · exact ⟨by assumption, h⟩
            · exact absurd h (by assumption)
          · simpa using h
        generalize errOr e2 (chk d done) = e9 at *
        go_wp2
        go_ret
        exact ⟨_, [], k2, e9, rfl, OwnP.nil _ _, fun x hx => absurd hx (by simp), by simp, h5, s6, TP⟩
end Go.Proofs.Ytbbfmlehddfneaa

