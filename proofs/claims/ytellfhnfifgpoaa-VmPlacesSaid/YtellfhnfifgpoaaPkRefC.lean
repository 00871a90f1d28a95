/-
  DERIVED. THE WALK of the document's Shade (azulejoref07.Shade).
-/
import Derived.Test.YtellfhnfifgpoaaPkRefRun
import Derived.Test.YtellfhnfifgpoaaPkPlain
namespace Go.Proofs.Ytellfhnfifgpoaa
open Go.RowKit
set_option linter.unusedVariables false
def shadeL (c : V4) (x y d : Int) : List Int := [(c.lim 0 65536).c0, (c.lim 0 65536).c1, (c.lim 0 65536).c2, (c.lim 0 65536).c3, x * 65536, y * 65536, d, 65536] ++ List.replicate 40 0
theorem limI_bd {lo hi n : Int} (h : lo ≤ hi) : lo ≤ limI lo hi n ∧ limI lo hi n ≤ hi := by rw [limI_eq h]; omega
set_option maxRecDepth 100000 in
set_option maxHeartbeats 2000000 in
theorem rshade_any {d : Bool} (vp : Value) (base : Nat) (p : List In) (hok : ∀ x ∈ p, x.ok) (hc : chk d p = 0) (c : V4) (x y dp : Int) (hx : 0 ≤ x ∧ x ≤ 65535) (hy : 0 ≤ y ∧ y ≤ 65535) (hd : 0 ≤ dp ∧ dp ≤ 65535) (w : World) (hP : OwnR w base vp p) :
    Calls Try.prog 20 #[vp, .agg #[.int .i64 c.c0, .int .i64 c.c1, .int .i64 c.c2, .int .i64 c.c3], .int .i64 x, .int .i64 y, .int .i64 dp] w
      fun e w' => e = .returned (.tuple #[.agg #[.int .i64 ((regAt (run p 0 p.length ⟨(shadeL c x y dp).map clampZ, false, false, 0⟩).rs 0).lim 0 65536).c0, .int .i64 ((regAt (run p 0 p.length ⟨(shadeL c x y dp).map clampZ, false, false, 0⟩).rs 0).lim 0 65536).c1, .int .i64 ((regAt (run p 0 p.length ⟨(shadeL c x y dp).map clampZ, false, false, 0⟩).rs 0).lim 0 65536).c2, .int .i64 ((regAt (run p 0 p.length ⟨(shadeL c x y dp).map clampZ, false, false, 0⟩).rs 0).lim 0 65536).c3], .bool (run p 0 p.length ⟨(shadeL c x y dp).map clampZ, false, false, 0⟩).gone]) ∧ Ext w w' := by
  obtain ⟨ao, cc, rfl, -, -⟩ := hP.slice
  have hlb : ∀ n, 0 ≤ limI 0 65536 n ∧ limI 0 65536 n ≤ 65536 := fun n => limI_bd (by omega)
  have hin : ∀ n ∈ shadeL c x y dp, -9223372036854775808 ≤ n ∧ n ≤ 9223372036854775807 := fun n hn => by
    have h0 := hlb c.c0
    have h1 := hlb c.c1
    have h2 := hlb c.c2
    have h3 := hlb c.c3
    rcases List.mem_append.1 hn with h | h
    · simp [V4.lim] at h
      rcases h with rfl | rfl | rfl | rfl | rfl | rfl | rfl | rfl <;> omega
    · rw [(List.mem_replicate.1 h).2]; omega
  have hrb : RB ((shadeL c x y dp).map clampZ) := ⟨by simp [shadeL], fun n hn => by
    obtain ⟨m, _, rfl⟩ := List.mem_map.1 hn
    exact clampZ_bd m⟩
  have HIN := Lib.hid hin
  have HRB := Lib.hid hrb
  have HOK := Lib.hid hok
  have HC := Lib.hid hc
  have hlen := (chk_zero hc).1
  have HP := Lib.hid hP
  clear hlb hin hrb hok hc hP
  go_enter Try.func20, Try.ntmps20
  go_wp2_with fail
  refine (rwithin_any c 0 65536 (by omega) _).mono ?_
  rintro e w1 ⟨rfl, x1⟩
  have e1 : Ext w w1 := Ext.trans (((Ext.refl w).alloc _ _).alloc _ _) x1
  have R1 := ((Blk.new (w.alloc (.cells #[.int .i64 c.c0, .int .i64 c.c1, .int .i64 c.c2, .int .i64 c.c3] 24)) #[.int .i64 0, .int .i64 0, .int .i64 0, .int .i64 0] 24)).ext x1
  have zr : (w.alloc (.cells #[.int .i64 c.c0, .int .i64 c.c1, .int .i64 c.c2, .int .i64 c.c3] 24)).heap.size = w.heap.size + 1 := by simp
  rw [zr] at R1
  have HR1 := Lib.hid R1
  have HE1 := Lib.hid e1
  clear x1 e1 R1 zr
  go_wp2_with fail
  show Calls Try.prog _ #[regsV (shadeL c x y dp)] _ _
  refine (rstart_any (shadeL c x y dp) (by simp [shadeL]) HIN.out _).mono ?_
  rintro e w2 ⟨rfl, x2⟩
  have HE2 := Lib.hid (HE1.out.trans x2)
  have HR2 := Lib.hid (HR1.out.ext x2)
  clear x2
  obtain ⟨s0, hs0⟩ : ∃ s0 : St, s0 = ⟨(shadeL c x y dp).map clampZ, false, false, 0⟩ := ⟨_, rfl⟩
  rw [← hs0]
  have HS0 := Lib.hid hs0
  have hst : (stL s0).toArray.size = 51 := by rw [hs0]; simp [stL, shadeL]
  have hone : (stL s0).toArray.all (·.oneCell') = true := all_oneCell_toArray (fun v hv => by
    rcases List.mem_append.1 hv with h | h
    · obtain ⟨y, _, rfl⟩ := List.mem_map.1 h; rfl
    · simp at h; rcases h with rfl | rfl | rfl <;> rfl)
  have Z2 := Blk.new w2 #[.int .i64 0, .int .i64 0, .int .i64 0, .int .i64 0, .int .i64 0, .int .i64 0, .int .i64 0, .int .i64 0, .int .i64 0, .int .i64 0, .int .i64 0, .int .i64 0, .int .i64 0, .int .i64 0, .int .i64 0, .int .i64 0, .int .i64 0, .int .i64 0, .int .i64 0, .int .i64 0, .int .i64 0, .int .i64 0, .int .i64 0, .int .i64 0, .int .i64 0, .int .i64 0, .int .i64 0, .int .i64 0, .int .i64 0, .int .i64 0, .int .i64 0, .int .i64 0, .int .i64 0, .int .i64 0, .int .i64 0, .int .i64 0, .int .i64 0, .int .i64 0, .int .i64 0, .int .i64 0, .int .i64 0, .int .i64 0, .int .i64 0, .int .i64 0, .int .i64 0, .int .i64 0, .int .i64 0, .int .i64 0, .bool false, .bool false, .int .i64 0] 35
  clear hs0
  go_wp2_with (first
    | ((with_reducible refine wpList_store_blk (op := ⟨none, .store 35 (.tmp 12) (.tmp 22), _, _, _, _⟩) ?_ 35 (.tmp 12) (.tmp 22) ?_ w2.heap.size ?_ (cs := (stL s0).toArray) ?_ (T := 35) Z2 ?_ ?_ ?_ ?_); rfl; rfl; rfl; rfl; (rw [hst]; kernel_rfl); exact hone; (rw [hst]; rfl))
    | fail)
  have S3 : StAt ((w2.alloc (.cells #[.int .i64 0, .int .i64 0, .int .i64 0, .int .i64 0, .int .i64 0, .int .i64 0, .int .i64 0, .int .i64 0, .int .i64 0, .int .i64 0, .int .i64 0, .int .i64 0, .int .i64 0, .int .i64 0, .int .i64 0, .int .i64 0, .int .i64 0, .int .i64 0, .int .i64 0, .int .i64 0, .int .i64 0, .int .i64 0, .int .i64 0, .int .i64 0, .int .i64 0, .int .i64 0, .int .i64 0, .int .i64 0, .int .i64 0, .int .i64 0, .int .i64 0, .int .i64 0, .int .i64 0, .int .i64 0, .int .i64 0, .int .i64 0, .int .i64 0, .int .i64 0, .int .i64 0, .int .i64 0, .int .i64 0, .int .i64 0, .int .i64 0, .int .i64 0, .int .i64 0, .int .i64 0, .int .i64 0, .int .i64 0, .bool false, .bool false, .int .i64 0] 35)).setRow w2.heap.size (stL s0).toArray) w2.heap.size s0 := ⟨Z2.setRow _, by rw [HS0.out]; exact HRB.out.1⟩
  have E3 := Ext.setRow ((Ext.refl w2).alloc #[.int .i64 0, .int .i64 0, .int .i64 0, .int .i64 0, .int .i64 0, .int .i64 0, .int .i64 0, .int .i64 0, .int .i64 0, .int .i64 0, .int .i64 0, .int .i64 0, .int .i64 0, .int .i64 0, .int .i64 0, .int .i64 0, .int .i64 0, .int .i64 0, .int .i64 0, .int .i64 0, .int .i64 0, .int .i64 0, .int .i64 0, .int .i64 0, .int .i64 0, .int .i64 0, .int .i64 0, .int .i64 0, .int .i64 0, .int .i64 0, .int .i64 0, .int .i64 0, .int .i64 0, .int .i64 0, .int .i64 0, .int .i64 0, .int .i64 0, .int .i64 0, .int .i64 0, .int .i64 0, .int .i64 0, .int .i64 0, .int .i64 0, .int .i64 0, .int .i64 0, .int .i64 0, .int .i64 0, .int .i64 0, .bool false, .bool false, .int .i64 0] 35) (Nat.le_refl _) (stL s0).toArray
  have HE3 := Lib.hid (HE2.out.trans E3)
  have HR3 := Lib.hid (HR2.out.ext E3)
  have hlt3 := HR2.out.lt
  have hz2 := HE2.out.size
  clear Z2 hone hst E3
  refine (rrun_valid _ base w2.heap.size p HOK.out HC.out (fun k hk => by have := (HP.out.lt k hk).2; omega) s0 _ (HP.out.ext HE3.out) S3 (by rw [HS0.out]; exact HRB.out) (by rw [HS0.out]; exact Int.le_refl _) (by rw [HS0.out]; show (0 : Int) ≤ 1000000; omega)).mono ?_
  clear S3
  generalize ((w2.alloc (.cells #[.int .i64 0, .int .i64 0, .int .i64 0, .int .i64 0, .int .i64 0, .int .i64 0, .int .i64 0, .int .i64 0, .int .i64 0, .int .i64 0, .int .i64 0, .int .i64 0, .int .i64 0, .int .i64 0, .int .i64 0, .int .i64 0, .int .i64 0, .int .i64 0, .int .i64 0, .int .i64 0, .int .i64 0, .int .i64 0, .int .i64 0, .int .i64 0, .int .i64 0, .int .i64 0, .int .i64 0, .int .i64 0, .int .i64 0, .int .i64 0, .int .i64 0, .int .i64 0, .int .i64 0, .int .i64 0, .int .i64 0, .int .i64 0, .int .i64 0, .int .i64 0, .int .i64 0, .int .i64 0, .int .i64 0, .int .i64 0, .int .i64 0, .int .i64 0, .int .i64 0, .int .i64 0, .int .i64 0, .int .i64 0, .bool false, .bool false, .int .i64 0] 35)).setRow w2.heap.size (stL s0).toArray) = w3 at *
  rintro e w4 ⟨rfl, S4, K4⟩
  have R4 := HR3.out.calm K4 (by simp; omega)
  have E4 := Ext.calm_trans HE3.out K4 (fun g hg => by simp at hg; omega)
  have rb4 : RB (run p 0 p.length s0).rs := run_rbs HOK.out _ _ (by rw [HS0.out]; exact HRB.out)
  obtain ⟨s1, hs1⟩ : ∃ s1, run p 0 p.length s0 = s1 := ⟨_, rfl⟩
  rw [hs1] at S4 rb4
  have HS1 := Lib.hid hs1
  clear hs1
  obtain ⟨r0, r1, r2, r3⟩ := S4.reg 0 (by omega)
  simp only [Nat.zero_mul, Nat.zero_add] at r0 r1 r2 r3
  have cg := S4.gone
  obtain ⟨v, hv⟩ : ∃ v, regAt s1.rs 0 = v := ⟨_, rfl⟩
  rw [hv] at r0 r1 r2 r3
  have HV := Lib.hid hv
  clear hv
  have D4 := (Ext.refl w4).drew
  have HE4 := Lib.hid E4
  clear HR3 HE3 HE2 HR2 HE1 HR1 K4 S4 E4 hz2
  generalize w2.heap.size = sb at *
  go_wp2_with fail
  go_region_held (fun w' => w'.cell? ⟨sb, 0, none⟩ = some (.int .i64 v.c0) ∧ w'.cell? ⟨sb, 1, none⟩ = some (.int .i64 v.c1) ∧ w'.cell? ⟨sb, 2, none⟩ = some (.int .i64 v.c2) ∧ w'.cell? ⟨sb, 3, none⟩ = some (.int .i64 v.c3) ∧ w'.cell? ⟨sb, 48, none⟩ = some (.bool s1.gone)) (first | exact ⟨E5.old r0, E5.old r1, E5.old r2, E5.old r3, E5.old cg⟩ | exact ⟨D4.old r0, D4.old r1, D4.old r2, D4.old r3, D4.old cg⟩ | (go_keep; done) | assumption)
    (first | (go_at_call 22; refine (rwithin_any v 0 65536 (by omega) _).mono ?_; rintro e w5 ⟨rfl, x5⟩; have E5 := D4.trans x5; have R5 := R4.ext E5; have c5 := R5.cell; have f5 := R5.frozen; have hne5 : w.heap.size + 1 ≠ sb := by omega))
  all_goals go_wp2
  all_goals (
    have R6 : Blk _ (w.heap.size + 1) #[.int .i64 (v.lim 0 65536).c0, .int .i64 (v.lim 0 65536).c1, .int .i64 (v.lim 0 65536).c2, .int .i64 (v.lim 0 65536).c3] 24 := (((R5.set 0 (.int .i64 (v.lim 0 65536).c0)).set 1 (.int .i64 (v.lim 0 65536).c1)).set 2 (.int .i64 (v.lim 0 65536).c2)).set 3 (.int .i64 (v.lim 0 65536).c3)
    have c6 := R6.cell
    refine bodyPost_ret (v := .tuple #[.agg #[.int .i64 (v.lim 0 65536).c0, .int .i64 (v.lim 0 65536).c1, .int .i64 (v.lim 0 65536).c2, .int .i64 (v.lim 0 65536).c3], .bool s1.gone]) (by simp [results, Try.results20, go_sem, c6]) rfl ⟨by rw [← HS0.out, HS1.out, HV.out], ?_⟩
    exact Ext.calm_trans (HE4.out.trans E5) ((((calm_setP _ (w.heap.size + 1) 0 _).trans (calm_setP _ (w.heap.size + 1) 1 _)).trans (calm_setP _ (w.heap.size + 1) 2 _)).trans (calm_setP _ (w.heap.size + 1) 3 _)) (fun g hg => by simp at hg; omega))
end Go.Proofs.Ytellfhnfifgpoaa

