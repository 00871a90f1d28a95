/-
  DERIVED. Layer 7: what reading an instruction, and instructions, comes to.
-/
import Derived.Test.YtkdonkebnnjkkaaIsaPut
import Derived.Test.YtkdonkebnnjkkaaWireRdr4
namespace Go.Proofs.Ytkdonkebnnjkkaa
open Go.RowKit
set_option linter.unusedVariables false

def byteR (l : List Int) (k : Nat) (err : Int) (y : Int) (k' : Nat) (err' : Int) : Prop :=
  (err = 0 ∧ err' = 0 ∧ l.drop k = [y] ++ l.drop k') ∨ (err' ≠ 0 ∧ (err ≠ 0 ∨ l.drop k = []))
def intR (l : List Int) (k : Nat) (err : Int) (n : Int) (k' : Nat) (err' : Int) : Prop :=
  (err = 0 ∧ err' = 0 ∧ l.drop k = leb (zig n) ++ l.drop k') ∨ (err' ≠ 0 ∧ (err ≠ 0 ∨ ∀ m r, -32768 ≤ m ∧ m ≤ 32767 → l.drop k ≠ leb (zig m) ++ r))
def cntR (l : List Int) (k : Nat) (err : Int) (n : Nat) (k' : Nat) (err' : Int) : Prop :=
  (err = 0 ∧ err' = 0 ∧ l.drop k = leb n ++ l.drop k') ∨ (err' ≠ 0 ∧ n = 0 ∧ (err ≠ 0 ∨ ∀ m r, m ≤ 24 → l.drop k ≠ leb m ++ r))
theorem errOr_pos (err : Int) {n : Int} (h : n ≠ 0) : errOr err n ≠ 0 := by
  unfold errOr
  split
  · exact h
  · assumption
theorem rd_byte_any (w : World) (base p : Nat) (l : List Int) (k : Nat) (err : Int) (F : List Nat) (h : Rdr w base p l k err F) :
    Calls Try.prog 34 #[.pointer (some ⟨p, 0, none⟩)] w fun e w' => ∃ y k' err', e = .returned (.int .u8 y) ∧ (0 ≤ y ∧ y ≤ 255) ∧ Rdr w' base p l k' err' F ∧ Step F F w w' ∧ byteR l k err y k' err' := by
  have hm := h.most
  by_cases he : err = 0 ∧ k < l.length
  · obtain ⟨rfl, hk⟩ := he
    have hy : l[k]? = some l[k] := by simp [hk]
    refine (rd_byte w base p l k F h _ hy).mono ?_
    rintro e w' ⟨rfl, h1, s1⟩
    exact ⟨_, _, _, rfl, h.bytes _ (List.getElem_mem hk), h1, s1, .inl ⟨rfl, rfl, by rw [List.drop_eq_getElem_cons hk]; rfl⟩⟩
  · have hno : err ≠ 0 ∨ k = l.length := by
      rcases Classical.em (err = 0) with h0 | h0
      · right; have : ¬ k < l.length := fun hk => he ⟨h0, hk⟩; omega
      · exact .inl h0
    refine (rd_byte_no w base p l k err F h hno).mono ?_
    rintro e w' ⟨rfl, h1, s1⟩
    refine ⟨_, _, _, rfl, by omega, h1, s1, .inr ⟨errOr_pos err (by decide), ?_⟩⟩
    rcases hno with h0 | h0
    · exact .inl h0
    · right; rw [h0]; simp
theorem rdAt_cases {err : Int} {b : List Int} (hb : ∀ y ∈ b, 0 ≤ y ∧ y ≤ 255) {n j : Nat} {e : Int} (h : rdAt err b = (n, j, e)) : (err = 0 ∧ e = 0 ∧ n < 18446744073709551616 ∧ b = leb n ++ b.drop j) ∨ (n = 0 ∧ e ≠ 0 ∧ (err ≠ 0 ∨ ∀ m r, m < 18446744073709551616 → b ≠ leb m ++ r)) := by
  by_cases he : err = 0
  · subst he
    rw [rdAt_zero] at h
    rcases rdNum_ok hb h with ⟨rfl, h1, h2, h3⟩ | ⟨rfl, h2⟩
    · exact .inl ⟨rfl, rfl, h1, by rw [← h2, List.take_append_drop]⟩
    · refine .inr ⟨rfl, by omega, .inr fun m r hm e1 => ?_⟩
      rw [e1, rdNum_leb hm] at h
      cases h
      omega
  · rw [rdAt_ne he] at h
    cases h
    exact .inr ⟨rfl, he, .inl he⟩
theorem rd_within16 (w : World) (base p : Nat) (l : List Int) (k : Nat) (err : Int) (F : List Nat) (h : Rdr w base p l k err F) :
    Calls Try.prog 35 #[.pointer (some ⟨p, 0, none⟩), .int .i64 (-32768), .int .i64 32767] w fun e w' => ∃ n k' err', e = .returned (.int .i64 n) ∧ (-32768 ≤ n ∧ n ≤ 32767) ∧ Rdr w' base p l k' err' F ∧ Step F F w w' ∧ intR l k err n k' err' := by
  obtain ⟨⟨n, j, e⟩, hrd⟩ : ∃ q, rdAt err (l.drop k) = q := ⟨_, rfl⟩
  have hc := rdAt_cases (fun y hy => h.bytes y (List.mem_of_mem_drop hy)) hrd
  rw [List.drop_drop] at hc
  by_cases hle : -32768 ≤ unzig n ∧ unzig n ≤ 32767
  · refine (rd_within (-32768) 32767 (by omega) (by omega) w base p l k err F h n j e hrd hle).mono ?_
    rintro r w' ⟨rfl, h1, s1⟩
    refine ⟨_, _, _, rfl, hle, h1, s1, ?_⟩
    rcases hc with ⟨rfl, rfl, _, h2⟩ | ⟨rfl, h2, h3⟩
    · exact .inl ⟨rfl, rfl, by rw [zig_unzig]; exact h2⟩
    · refine .inr ⟨h2, ?_⟩
      rcases h3 with h3 | h3
      · exact .inl h3
      · exact .inr fun m r hm => h3 _ r (zig_lt (by omega))
  · refine (rd_within_out (-32768) 32767 (by omega) (by omega) w base p l k err F h n j e hrd hle).mono ?_
    rintro r w' ⟨rfl, h1, s1⟩
    refine ⟨_, _, _, rfl, by omega, h1, s1, .inr ⟨errOr_pos e (by decide), ?_⟩⟩
    rcases hc with ⟨rfl, rfl, hn, h2⟩ | ⟨rfl, h2, h3⟩
    · refine .inr fun m r hm e1 => ?_
      rw [e1, rdAt_zero, rdNum_leb (zig_lt (by omega))] at hrd
      cases hrd
      rw [unzig_zig] at hle
      exact hle hm
    · rcases h3 with h3 | h3
      · exact .inl h3
      · exact .inr fun m r hm => h3 _ r (zig_lt (by omega))
theorem rd_count24 (w : World) (base p : Nat) (l : List Int) (k : Nat) (err : Int) (F : List Nat) (h : Rdr w base p l k err F) :
    Calls Try.prog 25 #[.pointer (some ⟨p, 0, none⟩), .int .i64 24] w fun e w' => ∃ (n k' : Nat) (err' : Int), e = .returned (.int .i64 n) ∧ n ≤ 24 ∧ Rdr w' base p l k' err' F ∧ Step F F w w' ∧ cntR l k err n k' err' := by
  obtain ⟨⟨n, j, e⟩, hrd⟩ : ∃ q, rdAt err (l.drop k) = q := ⟨_, rfl⟩
  have hc := rdAt_cases (fun y hy => h.bytes y (List.mem_of_mem_drop hy)) hrd
  rw [List.drop_drop] at hc
  by_cases hle : n ≤ 24
  · refine (rd_count 24 (by omega) w base p l k err F h n j e hrd (by simpa using hle)).mono ?_
    rintro r w' ⟨rfl, h1, s1⟩
    refine ⟨_, _, _, rfl, hle, h1, s1, ?_⟩
    rcases hc with ⟨rfl, rfl, _, h2⟩ | ⟨rfl, h2, h3⟩
    · exact .inl ⟨rfl, rfl, h2⟩
    · refine .inr ⟨h2, rfl, ?_⟩
      rcases h3 with h3 | h3
      · exact .inl h3
      · exact .inr fun m r hm => h3 _ r (by omega)
  · refine (rd_count_many 24 (by omega) w base p l k err F h n j e hrd (by simp; omega)).mono ?_
    rintro r w' ⟨rfl, h1, s1⟩
    refine ⟨0, _, _, rfl, by omega, h1, s1, .inr ⟨by decide, rfl, ?_⟩⟩
    rcases hc with ⟨rfl, rfl, hn, h2⟩ | ⟨rfl, h2, h3⟩
    · refine .inr fun m r hm e1 => ?_
      rw [e1, rdAt_zero, rdNum_leb (by omega)] at hrd
      cases hrd
      exact hle hm
    · omega

/-- an instruction is read -/
def TakeI (l : List Int) (k : Nat) (err : Int) (x : In) (k' : Nat) (err' : Int) : Prop :=
  (err = 0 ∧ err' = 0 ∧ l.drop k = encI x ++ l.drop k') ∨ (err' ≠ 0 ∧ (err ≠ 0 ∨ ∀ y r, y.ok → l.drop k ≠ encI y ++ r))
theorem takeI_of {l : List Int} {k k1 k2 k3 k4 k5 : Nat} {e e1 e2 e3 e4 e5 : Int} {op dst a b imm : Int} (h1 : byteR l k e op k1 e1) (h2 : byteR l k1 e1 dst k2 e2) (h3 : byteR l k2 e2 a k3 e3) (h4 : byteR l k3 e3 b k4 e4) (h5 : intR l k4 e4 imm k5 e5) : TakeI l k e ⟨op, dst, a, b, imm⟩ k5 e5 := by
  rcases h1 with ⟨rfl, rfl, d1⟩ | ⟨n1, h1⟩
  · rcases h2 with ⟨_, rfl, d2⟩ | ⟨n2, h2⟩
    · rcases h3 with ⟨_, rfl, d3⟩ | ⟨n3, h3⟩
      · rcases h4 with ⟨_, rfl, d4⟩ | ⟨n4, h4⟩
        · rcases h5 with ⟨_, rfl, d5⟩ | ⟨n5, h5⟩
          · exact .inl ⟨rfl, rfl, by rw [d1, d2, d3, d4, d5]; simp [encI]⟩
          · refine .inr ⟨n5, .inr fun y r hy e0 => ?_⟩
            rcases h5 with h5 | h5
            · exact h5 rfl
            · rw [d1, d2, d3, d4] at e0
              simp [encI] at e0
              exact h5 y.imm r hy.2.2.2.2 e0.2.2.2.2
        · have h4' : l.drop k3 = [] := by rcases h4 with h | h; exact absurd rfl h; exact h
          refine .inr ⟨?_, .inr fun y r hy e0 => by rw [d1, d2, d3, h4'] at e0; simp [encI] at e0⟩
          rcases h5 with ⟨h, _⟩ | ⟨h, _⟩
          · exact absurd h n4
          · exact h
      · have h3' : l.drop k2 = [] := by rcases h3 with h | h; exact absurd rfl h; exact h
        refine .inr ⟨?_, .inr fun y r hy e0 => by rw [d1, d2, h3'] at e0; simp [encI] at e0⟩
        rcases h4 with ⟨h, _⟩ | ⟨n4, _⟩
        · exact absurd h n3
        · rcases h5 with ⟨h, _⟩ | ⟨h, _⟩
          · exact absurd h n4
          · exact h
    · have h2' : l.drop k1 = [] := by rcases h2 with h | h; exact absurd rfl h; exact h
      refine .inr ⟨?_, .inr fun y r hy e0 => by rw [d1, h2'] at e0; simp [encI] at e0⟩
      rcases h3 with ⟨h, _⟩ | ⟨n3, _⟩
      · exact absurd h n2
      · rcases h4 with ⟨h, _⟩ | ⟨n4, _⟩
        · exact absurd h n3
        · rcases h5 with ⟨h, _⟩ | ⟨h, _⟩
          · exact absurd h n4
          · exact h
  · refine .inr ⟨?_, ?_⟩
    · rcases h2 with ⟨h, _⟩ | ⟨n2, _⟩
      · exact absurd h n1
      · rcases h3 with ⟨h, _⟩ | ⟨n3, _⟩
        · exact absurd h n2
        · rcases h4 with ⟨h, _⟩ | ⟨n4, _⟩
          · exact absurd h n3
          · rcases h5 with ⟨h, _⟩ | ⟨h, _⟩
            · exact absurd h n4
            · exact h
    · rcases h1 with h | h
      · exact .inl h
      · exact .inr fun y r hy e0 => by rw [h] at e0; simp [encI] at e0
theorem append_inj_leb {m n : Nat} {r s : List Int} (h : leb m ++ r = leb n ++ s) (hm : m < 18446744073709551616) (hn : n < 18446744073709551616) : m = n ∧ r = s := by
  have h1 := rdNum_leb hm r
  rw [h, rdNum_leb hn s] at h1
  cases h1
  exact ⟨rfl, List.append_cancel_left h⟩
theorem encI_inj {x y : In} {r s : List Int} (hx : x.ok) (hy : y.ok) (h : encI x ++ r = encI y ++ s) : x = y ∧ r = s := by
  have zx := zig_ok hx
  have zy := zig_ok hy
  obtain ⟨op, dst, a, b, imm⟩ := x
  obtain ⟨op', dst', a', b', imm'⟩ := y
  simp [encI] at h
  dsimp only at zx zy
  obtain ⟨rfl, rfl, rfl, rfl, h⟩ := h
  obtain ⟨h1, h2⟩ := append_inj_leb h (by omega) (by omega)
  have := zig_inj h1
  subst this
  exact ⟨rfl, h2⟩
/-- instructions are read, one behind the other -/
def Took (l : List Int) (k0 : Nat) (e0 : Int) (done : List In) (k : Nat) (e : Int) : Prop :=
  (∀ x ∈ done, x.ok) ∧ ((e0 = 0 ∧ e = 0 ∧ l.drop k0 = encs done ++ l.drop k) ∨ (e ≠ 0 ∧ (e0 ≠ 0 ∨ ∀ ys r, (∀ y ∈ ys, y.ok) → done.length ≤ ys.length → l.drop k0 ≠ encs ys ++ r)))
theorem Took.start (l : List Int) (k : Nat) (e : Int) : Took l k e [] k e := by
  refine ⟨fun x hx => absurd hx (by simp), ?_⟩
  by_cases h : e = 0
  · exact .inl ⟨h, h, rfl⟩
  · exact .inr ⟨h, .inl h⟩
theorem encs_inj {xs ys : List In} {r s : List Int} (hx : ∀ x ∈ xs, x.ok) (hy : ∀ y ∈ ys, y.ok) (hl : xs.length ≤ ys.length) (h : encs xs ++ r = encs ys ++ s) : xs = ys.take xs.length ∧ r = encs (ys.drop xs.length) ++ s := by
  induction xs generalizing ys with
  | nil => exact ⟨by simp, by simpa [encs] using h⟩
  | cons x xs ih =>
    cases ys with
    | nil => simp at hl
    | cons y ys =>
      simp only [encs, List.append_assoc] at h
      obtain ⟨rfl, h2⟩ := encI_inj (hx x (by simp)) (hy y (by simp)) h
      obtain ⟨h3, h4⟩ := ih (fun z hz => hx z (by simp [hz])) (fun z hz => hy z (by simp [hz])) (by simpa using hl) h2
      exact ⟨by simp; exact h3, by simpa using h4⟩
theorem Took.next {l : List Int} {k0 k k' : Nat} {e0 e e' : Int} {done : List In} {x : In} (h : Took l k0 e0 done k e) (hx : x.ok) (hi : TakeI l k e x k' e') : Took l k0 e0 (done ++ [x]) k' e' := by
  obtain ⟨h1, h2⟩ := h
  refine ⟨fun y hy => ?_, ?_⟩
  · rcases List.mem_append.1 hy with hy | hy
    · exact h1 y hy
    · simp at hy; rw [hy]; exact hx
  · rcases h2 with ⟨rfl, rfl, d⟩ | ⟨ne, h2⟩
    · rcases hi with ⟨_, rfl, d2⟩ | ⟨ne, hi⟩
      · exact .inl ⟨rfl, rfl, by rw [d, d2, encs_append]; simp [encs]⟩
      · refine .inr ⟨ne, .inr fun ys r hy hlen e1 => ?_⟩
        simp at hlen
        rw [d] at e1
        obtain ⟨_, h4⟩ := encs_inj h1 hy (by omega) e1
        rcases hi with hi | hi
        · exact hi rfl
        · have hd : ys.drop done.length = ys[done.length] :: ys.drop (done.length + 1) := List.drop_eq_getElem_cons (by omega)
          rw [hd] at h4
          simp only [encs, List.append_assoc] at h4
          exact hi _ _ (hy _ (List.getElem_mem _)) h4
    · refine .inr ⟨?_, ?_⟩
      · rcases hi with ⟨h, _⟩ | ⟨h, _⟩
        · exact absurd h ne
        · exact h
      · rcases h2 with h2 | h2
        · exact .inl h2
        · exact .inr fun ys r hy hlen => h2 ys r hy (by simp at hlen; omega)
end Go.Proofs.Ytkdonkebnnjkkaa
