/-
  DERIVED. THE WALKS of layer 7 (isa): Take.
-/
import Derived.Test.YtkdonkebnnjkkaaIsaTakeI
namespace Go.Proofs.Ytkdonkebnnjkkaa
open Go.RowKit
set_option linter.unusedVariables false
def TakeP (d : Bool) (l : List Int) (k : Nat) (err : Int) (xs : List In) (k' : Nat) (err' : Int) : Prop :=
  (err = 0 ∧ err' = 0 ∧ chk d xs = 0 ∧ l.drop k = enc xs ++ l.drop k') ∨ (err' ≠ 0 ∧ xs = [] ∧ (err ≠ 0 ∨ ∀ ys r, (∀ y ∈ ys, y.ok) → chk d ys = 0 → l.drop k ≠ enc ys ++ r))
theorem takeP_ok {d : Bool} {l : List Int} {k n k1 k2 : Nat} {err e1 e2 : Int} {xs : List In} (hc : cntR l k err n k1 e1) (ht : Took l k1 e1 xs k2 e2) (hl : xs.length = n) (h2 : e2 = 0) (hk : chk d xs = 0) : TakeP d l k err xs k2 0 := by
  subst h2
  rcases ht.2 with ⟨rfl, _, d2⟩ | ⟨h, _⟩
  · rcases hc with ⟨rfl, _, d1⟩ | ⟨h, _⟩
    · exact .inl ⟨rfl, rfl, hk, by rw [d1, d2]; simp [enc, hl]⟩
    · exact absurd rfl h
  · exact absurd rfl h
theorem takeP_no {d : Bool} {l : List Int} {k n k1 k2 : Nat} {err e1 e2 : Int} {xs : List In} (hc : cntR l k err n k1 e1) (hn : n ≤ 24) (ht : Took l k1 e1 xs k2 e2) (hl : xs.length = n) (h : ¬ (e2 = 0 ∧ chk d xs = 0)) : TakeP d l k err [] k2 (errOr e2 (chk d xs)) := by
  refine .inr ⟨?_, rfl, ?_⟩
  · unfold errOr
    split
    · intro h1; exact h ⟨by assumption, h1⟩
    · assumption
  · by_cases he : err = 0
    · right
      subst he
      intro ys r hy hk e0
      have hyl := (chk_zero hk).1
      unfold enc at e0
      rw [List.append_assoc] at e0
      rcases hc with ⟨_, rfl, d1⟩ | ⟨_, _, h1⟩
      · rw [d1] at e0
        obtain ⟨e1, e2'⟩ := append_inj_leb e0 (by omega) (by omega)
        rcases ht.2 with ⟨_, rfl, d2⟩ | ⟨_, h3⟩
        · rw [d2] at e2'
          obtain ⟨h4, _⟩ := encs_inj ht.1 hy (by omega) e2'
          rw [List.take_of_length_le (by omega)] at h4
          subst h4
          exact h ⟨rfl, hk⟩
        · rcases h3 with h3 | h3
          · exact h3 rfl
          · exact h3 ys r hy (by omega) e2'
      · rcases h1 with h1 | h1
        · exact h1 rfl
        · exact h1 _ _ hyl e0
    · exact .inl he
theorem set_done (done : List In) (n : Nat) (x : In) (z : In) : (done ++ List.replicate (n + 1) z).set done.length x = (done ++ [x]) ++ List.replicate n z := by
  rw [List.set_append_right _ _ (by omega)]
  simp [List.replicate_succ]
set_option maxRecDepth 100000 in
set_option maxHeartbeats 1000000 in
theorem take_any (d : Bool) (w : World) (base p : Nat) (l : List Int) (k : Nat) (err : Int) (F : List Nat) (h : Rdr w base p l k err F) :
    Calls Try.prog 12 #[.pointer (some ⟨p, 0, none⟩), .bool d] w fun e w' => ∃ (v : Value) (xs : List In) (k' : Nat) (err' : Int), e = .returned v ∧ OwnP w' w.heap.size v xs ∧ (∀ x ∈ xs, x.ok) ∧ xs.length ≤ 24 ∧ Rdr w' base p l k' err' F ∧ Step F F w w' ∧ TakeP d l k err xs k' err' := by
  have hb : ∀ b ∈ F, b < w.heap.size := fun b hb => (h.lt b hb).2
  go_enter Try.func12, Try.ntmps12
  go_wp2_with fail
  refine (rd_count24 _ _ _ _ _ _ _ h).mono ?_
  rintro e w1 ⟨n, k1, e1, rfl, hn, h1, s1, hc⟩
  clear h
  have hsz := s1.1.size
  have hmk := make_ins n (by omega) w1
  have o2 := (ownP_zeros w1 n (by omega)).mono hsz
  have x2 := (Ext.refl w1).alloc (madeCells #[.int .u8 0, .int .u8 0, .int .u8 0, .int .u8 0, .int .i16 0] (n * 5)) 49
  have h2 := h1.ext x2
  have s2 := s1.trans (Step.of_ext x2)
  have hnI : (n : Int) ≤ 24 := by omega
  have hbg : ∀ b ∈ F, b ≠ w1.heap.size := fun b hm => by have := hb b hm; omega
  go_wp2_with fail
  clear hmk x2 s1 h1
  generalize (w1.alloc (.cells (madeCells #[.int .u8 0, .int .u8 0, .int .u8 0, .int .u8 0, .int .i16 0] (n * 5)) 49)) = w2 at *
  generalize w1.heap.size = g at *
  go_loopg [12] n (fun m iv wr => ∃ (j : Nat) (done : List In) (k2 : Nat) (e2 : Int), j + m = n ∧ iv = .int .i64 j ∧ done.length = j ∧ OwnP wr w.heap.size (.slice (some ⟨g, 0, none⟩) n n) (done ++ List.replicate m zeroI) ∧ Rdr wr base p l k2 e2 F ∧ Step F F w wr ∧ Took l k1 e1 done k2 e2)
  case atStart => exact ⟨0, [], k1, e1, by omega, rfl, rfl, o2, h2, s2, Took.start _ _ _⟩
  case round =>
    clear o2 h2 s2
    obtain ⟨j, done, k2, e2, hjm, rfl, hdl, o3, h3, s3, T3⟩ := hrel
    by_cases hj : j < n
    · have hjI : (j : Int) < (n : Int) := by omega
      go_wp2_with fail
      refine (takeInstr_any _ _ _ _ _ _ _ h3).mono ?_
      rintro e w4 ⟨x, k4, e4, rfl, hx, h4, s4, T4⟩
      have T5 := T3.next hx T4
      have o4 := o3.calm s4.1 (fun b hbb hin => by simp [Value.ownBlock] at hbb; exact hbg b hin hbb.symm)
      obtain ⟨m, rfl⟩ : ∃ m, gk = m + 1 := ⟨gk - 1, by omega⟩
      have hll : n = (done ++ List.replicate (m + 1) zeroI).length := by simp; omega
      have hth := o4.thaw hll
      obtain ⟨g', y, eg, -, -, c0, c1, c2, c3, c4⟩ := o4.nth j (by rw [← hll]; exact hj)
      cases eg
      have o5 := o4.put hll j (by rw [← hll]; exact hj) x
      rw [show (done ++ List.replicate (m + 1) zeroI).set j x = (done ++ [x]) ++ List.replicate m zeroI by rw [← hdl]; exact set_done done m x zeroI] at o5
      have K5 := calm5 w4 g (j * 5) (j * 5 + 1) (j * 5 + 2) (j * 5 + 3) (j * 5 + 4) (.int .u8 x.op) (.int .u8 x.dst) (.int .u8 x.a) (.int .u8 x.b) (.int .i16 x.imm)
      have h5 := h4.kept K5 (fun b hm => by have := hbg b hm; simpa using this)
      have s5 := (s3.trans s4).store K5 (by simpa using hsz)
      clear o3 h3 s3 T3 T4 h4 s4 o4 K5 hll
      go_wp2
      go_roundg m
      case measure => omega
      case rel => exact ⟨j + 1, done ++ [x], k4, e4, by omega, rfl, by simp; omega, o5, h5, s5, T5⟩
    · obtain rfl : j = n := by omega
      obtain rfl : gk = 0 := by omega
      rw [List.replicate_zero, List.append_nil] at o3
      go_wp2_with fail
      refine (check_any d _ _ _ done o3 T3.1 (by omega)).mono ?_
      rintro e w4 ⟨rfl, x4⟩
      have o4 := o3.ext x4
      have h4 := h3.ext x4
      have s4 := s3.trans (Step.of_ext x4)
      clear o3 h3 s3 x4
      go_wp2_with fail
      refine (rd_fail _ _ _ _ _ _ (chk d done) _ h4).mono ?_
      rintro e w5 ⟨rfl, h5, s5⟩
      have o5 := o4.calm s5.1 (fun b hbb hin => by simp [Value.ownBlock] at hbb; exact hbg b hin hbb.symm)
      have s6 := s4.trans s5
      clear o4 h4 s4 s5
      go_wp2_with fail
      refine (rd_err _ _ _ _ _ _ _ h5).mono ?_
      rintro e w6 ⟨rfl, rfl⟩
      by_cases hok : e2 = 0 ∧ chk d done = 0
      · have TP := takeP_ok hc T3 hdl hok.1 hok.2
        have he : errOr e2 (chk d done) = 0 := by rw [hok.1, hok.2]; rfl
        rw [he] at h5 ⊢
        go_wp2
        go_ret
        exact ⟨_, done, k2, 0, rfl, o5, T3.1, by omega, h5, s6, TP⟩
      · have TP := takeP_no hc hn T3 hdl hok
        have he : (errOr e2 (chk d done) != 0) = true := by
          rcases TP with ⟨_, h, _⟩ | ⟨h, _⟩
          · exfalso
            apply hok
            unfold errOr at h
            split at h
            · exact ⟨by assumption, h⟩
            · exact absurd h (by assumption)
          · simpa using h
        generalize errOr e2 (chk d done) = e9 at *
        go_wp2
        go_ret
        exact ⟨_, [], k2, e9, rfl, OwnP.nil _ _, fun x hx => absurd hx (by simp), by simp, h5, s6, TP⟩
end Go.Proofs.Ytkdonkebnnjkkaa
