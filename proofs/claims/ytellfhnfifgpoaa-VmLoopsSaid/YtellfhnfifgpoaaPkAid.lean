/-
  DERIVED. '==' on registers: of one value and itself it is true. · Programs joined: what Run comes to.
-/
import Derived.Test.YtellfhnfifgpoaaPkPlain
import Derived.Test.YtellfhnfifgpoaaPkFix
import Derived.Test.YtellfhnfifgpoaaPkRun
namespace Go.Proofs.Ytellfhnfifgpoaa
open Go.RowKit
set_option linter.unusedVariables false
set_option maxRecDepth 100000 in
set_option maxHeartbeats 1000000 in
theorem eqR (l : List Int) (hl : l.length = 48) (w : World) : (Op.equalIn 10000 31 (.agg (l.map (Value.int .i64)).toArray) (.agg (l.map (Value.int .i64)).toArray)).run Try.prog w = .ok true w := by
  have h := eqInV 9997
  have t0 := take4 l hl 0 (by omega)
  have t1 := take4 l hl 1 (by omega)
  have t2 := take4 l hl 2 (by omega)
  have t3 := take4 l hl 3 (by omega)
  have t4 := take4 l hl 4 (by omega)
  have t5 := take4 l hl 5 (by omega)
  have t6 := take4 l hl 6 (by omega)
  have t7 := take4 l hl 7 (by omega)
  have t8 := take4 l hl 8 (by omega)
  have t9 := take4 l hl 9 (by omega)
  have t10 := take4 l hl 10 (by omega)
  have t11 := take4 l hl 11 (by omega)
  simp only [Nat.zero_mul, Nat.one_mul, Nat.reduceMul, List.drop_zero] at t0 t1 t2 t3 t4 t5 t6 t7 t8 t9 t10 t11
  unfold Op.equalIn
  simp [run_underlying Try.underlying31, go_sem, part, List.range', List.forIn_cons, h, t0, t1, t2, t3, t4, t5, t6, t7, t8, t9, t10, t11]
end Go.Proofs.Ytellfhnfifgpoaa

namespace Go.Proofs.Ytellfhnfifgpoaa
open Go.RowKit
set_option linter.unusedVariables false
theorem clamp_rb {rs : List Int} (h : RB rs) : rs.map clampZ = rs := by
  have : ∀ n ∈ rs, clampZ n = n := fun n hn => by
    have := h.2 n hn
    unfold Q31 at this
    unfold clampZ
    omega
  exact (List.map_congr_left this).trans (List.map_id' rs)
theorem st_eta {s : St} (hrb : RB s.rs) (ho : s.over = false) (hg : s.gone = false) : s = (st0 s.rs).plus s.steps := by
  obtain ⟨rs, g, o, n⟩ := s
  simp only at *
  subst ho hg
  simp [st0, St.plus, clamp_rb hrb]
theorem runV_ok {p : List In} (h : chk true p = 0) (rs : List Int) : runV p rs = run p 0 p.length (st0 rs) := by unfold runV; rw [if_pos h]
theorem run_pl (p : List In) (i tp : Nat) (s : St) (c : Int) : run p i tp (s.plus c) = (run p i tp s).plus c := run_plus p c _ i tp s
/-- one program, and another behind it -/
theorem join_runs {p q : List In} (hokp : ∀ x ∈ p, x.ok) (hokq : ∀ x ∈ q, x.ok) (cp : chk true p = 0) (cq : chk true q = 0) (cb : chk true (p ++ q) = 0) (hqt : Quiet p) {rs : List Int} (hl : rs.length = 48) :
    runV (p ++ q) rs = (runV q (runV p rs).rs).plus (runV p rs).steps := by
  obtain ⟨_, hap, _⟩ := chk_zero cp
  obtain ⟨_, haq, _⟩ := chk_zero cq
  rw [runV_ok cb, runV_ok cp, runV_ok cq]
  have gp := good_of hokp hap
  have gq := good_of hokq haq
  obtain ⟨s1, hs1⟩ : ∃ s1, run p 0 p.length (st0 rs) = s1 := ⟨_, rfl⟩
  have hrb : RB s1.rs := by rw [← hs1]; exact run_rbs hokp _ _ (st0_rb hl)
  have hov := run_quiet hqt (p.length - 0) 0 p.length (st0 rs)
  have h1 : runP p (p.length - 0) 0 p.length (st0 rs) = s1 := hs1
  rw [h1] at hov
  have e1 : run (p ++ q) 0 (p ++ q).length (st0 rs) = run q 0 q.length s1 := by
    unfold run
    rw [List.length_append, run_join (ahead_of hap) gq _ 0 (st0 rs) gp (Nat.zero_le _) (by omega), run_fuel _ (p.length - 0) 0 p.length (st0 rs) gp (by omega) (by omega), h1]
    rfl
  rw [e1, hs1, ← run_pl, ← st_eta hrb hov.1 hov.2]
end Go.Proofs.Ytellfhnfifgpoaa

