/-
  DERIVED. A loop is its body, so many times: what Run comes to. · THE LAW VmLoops: a loop is its body, so many times (made by mkvm.py).
-/
import Derived.Test.YtellfhnfifgpoaaPkAid
import Derived.Test.YtellfhnfifgpoaaPkRun
import Derived.Test.YtellfhnfifgpoaaPkProg
namespace Go.Proofs.Ytellfhnfifgpoaa
open Go.RowKit
set_option linter.unusedVariables false
/-- an instruction that may stand anywhere -/
def Plain (x : In) : Prop := x.op < 15 ∧ regs x = true ∧ x.op ≠ 12 ∧ x.op ≠ 11
theorem plainV_all {xs : List In} (h : ∀ x ∈ xs, Plain x) : allAt true xs := fun i x hx => by
  obtain ⟨h1, h2, h3, h4⟩ := h x (List.mem_of_getElem? hx)
  exact at1_zero.2 ⟨h1, fun _ => rfl, h2, fun e => absurd e h3, fun e => absurd e h4⟩
theorem plainV_extra : ∀ {xs : List In}, (∀ x ∈ xs, Plain x) → extraL xs = 0
  | [], _ => rfl
  | x :: xs, h => by
    rw [extraL, plainV_extra (fun y hy => h y (List.mem_cons_of_mem _ hy))]
    unfold extra
    rw [if_neg (h x (List.mem_cons_self)).2.2.1]
    rfl
theorem plainV_straight {xs : List In} (h : ∀ x ∈ xs, Plain x) : Straight xs := fun x hx => ⟨(h x hx).2.2.1, (h x hx).2.2.2⟩
theorem flatN_plain {body : List In} (h : ∀ x ∈ body, Plain x) : ∀ n, ∀ x ∈ flatN body n, Plain x
  | 0, x, hx => by cases hx
  | n + 1, x, hx => by
    rcases List.mem_append.1 hx with h1 | h1
    · exact h x h1
    · exact flatN_plain h n x h1
theorem flatN_ok {body : List In} (h : ∀ x ∈ body, x.ok) : ∀ n, ∀ x ∈ flatN body n, x.ok
  | 0, x, hx => by cases hx
  | n + 1, x, hx => by
    rcases List.mem_append.1 hx with h1 | h1
    · exact h x h1
    · exact flatN_ok h n x h1
theorem chk_flat {body : List In} (h : ∀ x ∈ body, Plain x) (l4 : body.length ≤ 4) (n : Nat) (hn : n ≤ 5) : chk true (flatN body n) = 0 := by
  have hl := flatN_length body n
  have hm : n * body.length ≤ 5 * 4 := Nat.mul_le_mul hn l4
  have hp := flatN_plain h n
  rw [chk_all (by omega) (plainV_all hp), if_neg]
  unfold fuelL
  rw [plainV_extra hp]
  omega
theorem chk_loop {body : List In} (h : ∀ x ∈ body, Plain x) (l4 : body.length ≤ 4) (l1 : 1 ≤ body.length) (n : Nat) (h1 : 1 ≤ n) (hn : n ≤ 5) : chk true (⟨12, 0, 0, (body.length : Int), (n : Int)⟩ :: body) = 0 := by
  have ha : allAt true (⟨12, 0, 0, (body.length : Int), (n : Int)⟩ :: body) := by
    intro i x hx
    cases i with
    | zero =>
      simp at hx
      subst hx
      refine at1_zero.2 ⟨by simp, fun e => by simp at e, by simp [regs], fun _ => loopH_iff.2 ⟨?_, ?_, ?_, ?_, ?_⟩, fun e => by simp at e⟩
      · simp only; omega
      · simp only [List.length_cons]; omega
      · simp only; omega
      · simp only; omega
      · rcases around_cases (⟨12, 0, 0, (body.length : Int), (n : Int)⟩ :: body) ((0 : Nat) : Int) with ⟨e, _⟩ | ⟨k, y, _, _, hb, _⟩
        · exact e
        · have := (hasB_iff.1 hb).2.1
          omega
    | succ i =>
      simp at hx
      obtain ⟨h1, h2, h3, h4⟩ := h x (List.mem_of_getElem? hx)
      exact at1_zero.2 ⟨h1, fun _ => rfl, h2, fun e => absurd e h3, fun e => absurd e h4⟩
  have hm : (body.length : Int) * ((n : Int) - 1) ≤ 4 * 4 := by
    have := Int.mul_le_mul (show (body.length : Int) ≤ 4 by omega) (show (n : Int) - 1 ≤ 4 by omega) (by omega) (by omega)
    omega
  rw [chk_all (by simp; omega) ha, if_neg]
  unfold fuelL
  rw [extraL, plainV_extra h]
  unfold extra
  rw [if_pos rfl, maxI_eq, show max ((⟨12, 0, 0, (body.length : Int), (n : Int)⟩ : In).imm) 1 = (n : Int) from by show max (n : Int) 1 = n; omega]
  simp only [List.length_cons]
  omega
theorem loop_runs {body : List In} (hok : ∀ x ∈ body, x.ok) (h : ∀ x ∈ body, Plain x) (l4 : body.length ≤ 4) (l1 : 1 ≤ body.length) (n : Nat) (h1 : 1 ≤ n) (hn : n ≤ 5) (rs : List Int) :
    runV (⟨12, 0, 0, (body.length : Int), (n : Int)⟩ :: body) rs = (runV (flatN body n) rs).plus 1 := by
  have hs := plainV_straight h
  rw [runV_ok (chk_loop h l4 l1 n h1 hn), runV_ok (chk_flat h l4 n hn)]
  unfold run
  rw [List.length_cons, Nat.add_comm body.length 1, run_looped hs _ _ (by simp) _ _ rfl (by omega), run_flatN hs n _ _ (by rw [flatN_length]; omega)]
  have e : (st0 rs).tick = (st0 rs).plus 1 := rfl
  rw [e, iter_plus (fun s => run_plus body 1 _ _ _ s)]
  simp
end Go.Proofs.Ytellfhnfifgpoaa

namespace Go.Proofs.Ytellfhnfifgpoaa
open Go.RowKit
set_option linter.unusedVariables false
theorem RAt.regs3 {w : World} {b : Nat} {s : St} (h : RAt w b s) : w.rangeAt b 0 (s.rs.map (Value.int .i64)) := fun j v hv => by
  have hj := (List.getElem?_eq_some_iff.1 hv).1
  rw [Nat.zero_add, h.1.cell j]
  simp only [List.getElem?_toArray, resL]
  rw [List.getElem?_append_left hj]
  exact hv
theorem mkRes (u : World) : (Instr.alloc 42 true (.tuple #[])).run Try.prog u = .ok (.pointer (some ⟨u.heap.size, 0, none⟩)) (u.alloc (.cells #[.int .i64 0, .int .i64 0, .int .i64 0, .int .i64 0, .int .i64 0, .int .i64 0, .int .i64 0, .int .i64 0, .int .i64 0, .int .i64 0, .int .i64 0, .int .i64 0, .int .i64 0, .int .i64 0, .int .i64 0, .int .i64 0, .int .i64 0, .int .i64 0, .int .i64 0, .int .i64 0, .int .i64 0, .int .i64 0, .int .i64 0, .int .i64 0, .int .i64 0, .int .i64 0, .int .i64 0, .int .i64 0, .int .i64 0, .int .i64 0, .int .i64 0, .int .i64 0, .int .i64 0, .int .i64 0, .int .i64 0, .int .i64 0, .int .i64 0, .int .i64 0, .int .i64 0, .int .i64 0, .int .i64 0, .int .i64 0, .int .i64 0, .int .i64 0, .int .i64 0, .int .i64 0, .int .i64 0, .int .i64 0, .bool false, .int .i64 0] 42)) := by
  simp [go_sem]
set_option maxRecDepth 100000 in
set_option maxHeartbeats 4000000 in
theorem loops_r22 (f0 f1 f2 f3 f4 f5 f6 f7 f8 f9 f10 f14 f15 f16 f17 f18 f19 f20 f21 f22 f23 f24 f25 f26 f27 f28 f29 f30 f31 f32 f33 f34 f35 f36 f37 f38 f39 f40 f41 f42 f43 f44 f45 f46 f47 f48 f49 f50 f51 f52 f53 f54 f55 f56 f57 f58 f59 f60 f61 f62 f63 f64 f65 f66 f67 f68 f69 f70 f71 f72 f73 f74 f75 f76 f77 f78 f79 f80 f81 f82 f83 f84 f85 f86 f87 f88 f89 f90 f91 f92 f93 f94 f95 f96 f97 f98 f99 f100 f101 f102 : Value) (aa ab : Option Addr) (na ca nb cb gb : Nat) (pa pb : List In) (rs : List Int) (sa sb : St) (hrl : rs.length = 48) (hbd : ∀ n ∈ rs, -9223372036854775808 ≤ n ∧ n ≤ 9223372036854775807) (oka : ∀ x ∈ pa, x.ok) (okb : ∀ x ∈ pb, x.ok) (la : pa.length ≤ 1000) (lb : pb.length ≤ 1000) (ea : runV pa rs = sa) (eb : runV pb rs = sb) (l1 : sa.rs.length = 48) (l2 : sb.rs.length = 48) (w : World) (hA : PArr w (.slice aa na ca) pa) (hB : PArr w (.slice ab nb cb) pb) (hG : Blk w gb (RL rs) 31) {Q : Exit → Act → World → Prop}
    (hQ : ∀ (c77 c78 c79 c80 c81 c82 : Value) (wx : World) (ba bb : Nat), RAt wx ba sa ∧ RAt wx bb sb ∧ Ext w wx → Q .normal ⟨(f0 :: f1 :: f2 :: f3 :: f4 :: f5 :: f6 :: f7 :: f8 :: f9 :: f10 :: Value.slice aa na ca :: Value.slice ab nb cb :: Value.pointer (some ⟨gb, 0, none⟩) :: Value.pointer (some ⟨ba, 0, none⟩) :: Value.pointer (some ⟨bb, 0, none⟩) :: f16 :: f17 :: f18 :: f19 :: f20 :: f21 :: f22 :: f23 :: f24 :: f25 :: f26 :: f27 :: f28 :: f29 :: f30 :: f31 :: f32 :: f33 :: f34 :: f35 :: f36 :: f37 :: f38 :: f39 :: f40 :: f41 :: f42 :: f43 :: f44 :: f45 :: f46 :: f47 :: f48 :: f49 :: f50 :: f51 :: f52 :: f53 :: f54 :: f55 :: f56 :: f57 :: f58 :: f59 :: f60 :: f61 :: f62 :: f63 :: f64 :: f65 :: f66 :: f67 :: f68 :: f69 :: f70 :: f71 :: f72 :: f73 :: f74 :: f75 :: f76 :: c77 :: c78 :: c79 :: c80 :: c81 :: c82 :: f83 :: f84 :: f85 :: f86 :: f87 :: f88 :: f89 :: f90 :: f91 :: f92 :: f93 :: f94 :: f95 :: f96 :: f97 :: f98 :: f99 :: f100 :: f101 :: f102 :: List.nil).toArray, []⟩ wx) : Code.wp Try.prog (regionOf Try.f7 22) Q ⟨(f0 :: f1 :: f2 :: f3 :: f4 :: f5 :: f6 :: f7 :: f8 :: f9 :: f10 :: Value.slice aa na ca :: Value.slice ab nb cb :: Value.pointer (some ⟨gb, 0, none⟩) :: f14 :: f15 :: f16 :: f17 :: f18 :: f19 :: f20 :: f21 :: f22 :: f23 :: f24 :: f25 :: f26 :: f27 :: f28 :: f29 :: f30 :: f31 :: f32 :: f33 :: f34 :: f35 :: f36 :: f37 :: f38 :: f39 :: f40 :: f41 :: f42 :: f43 :: f44 :: f45 :: f46 :: f47 :: f48 :: f49 :: f50 :: f51 :: f52 :: f53 :: f54 :: f55 :: f56 :: f57 :: f58 :: f59 :: f60 :: f61 :: f62 :: f63 :: f64 :: f65 :: f66 :: f67 :: f68 :: f69 :: f70 :: f71 :: f72 :: f73 :: f74 :: f75 :: f76 :: f77 :: f78 :: f79 :: f80 :: f81 :: f82 :: f83 :: f84 :: f85 :: f86 :: f87 :: f88 :: f89 :: f90 :: f91 :: f92 :: f93 :: f94 :: f95 :: f96 :: f97 :: f98 :: f99 :: f100 :: f101 :: f102 :: List.nil).toArray, []⟩ w := by
  have HQ := Lib.hid hQ
  clear hQ
  have hsz := RL.size hrl
  have hra : (resL sa).toArray.size = 50 := by simp [resL, l1]
  have hrb : (resL sb).toArray.size = 50 := by simp [resL, l2]
  change Code.wp Try.prog (Code.region _ _ true) _ _ _
  apply wp_region_vars [false, false, false, false, false, false, true, true, true, true] [] [⟨some 6, 14, 0, some 8, 42, #[.int .i64 0, .int .i64 0, .int .i64 0, .int .i64 0, .int .i64 0, .int .i64 0, .int .i64 0, .int .i64 0, .int .i64 0, .int .i64 0, .int .i64 0, .int .i64 0, .int .i64 0, .int .i64 0, .int .i64 0, .int .i64 0, .int .i64 0, .int .i64 0, .int .i64 0, .int .i64 0, .int .i64 0, .int .i64 0, .int .i64 0, .int .i64 0, .int .i64 0, .int .i64 0, .int .i64 0, .int .i64 0, .int .i64 0, .int .i64 0, .int .i64 0, .int .i64 0, .int .i64 0, .int .i64 0, .int .i64 0, .int .i64 0, .int .i64 0, .int .i64 0, .int .i64 0, .int .i64 0, .int .i64 0, .int .i64 0, .int .i64 0, .int .i64 0, .int .i64 0, .int .i64 0, .int .i64 0, .int .i64 0, .bool false, .int .i64 0], (resL sa).toArray⟩, ⟨some 7, 15, 0, some 9, 42, #[.int .i64 0, .int .i64 0, .int .i64 0, .int .i64 0, .int .i64 0, .int .i64 0, .int .i64 0, .int .i64 0, .int .i64 0, .int .i64 0, .int .i64 0, .int .i64 0, .int .i64 0, .int .i64 0, .int .i64 0, .int .i64 0, .int .i64 0, .int .i64 0, .int .i64 0, .int .i64 0, .int .i64 0, .int .i64 0, .int .i64 0, .int .i64 0, .int .i64 0, .int .i64 0, .int .i64 0, .int .i64 0, .int .i64 0, .int .i64 0, .int .i64 0, .int .i64 0, .int .i64 0, .int .i64 0, .int .i64 0, .int .i64 0, .int .i64 0, .int .i64 0, .int .i64 0, .int .i64 0, .int .i64 0, .int .i64 0, .int .i64 0, .int .i64 0, .int .i64 0, .int .i64 0, .int .i64 0, .int .i64 0, .bool false, .int .i64 0], (resL sb).toArray⟩] _ (by kernel_rfl) (by kernel_rfl) (by kernel_rfl)
  case H =>
    intro x hx
    have hne : Nonempty (Wx x) := ⟨⟨x, Ext.refl x⟩⟩
    have qG := fun (y : Wx x) => ((hG.calm hx (by simp)).ext y.ext)
    have qA := fun (y : Wx x) => hA.ext (hx.ext.trans y.ext)
    have qB := fun (y : Wx x) => hB.ext (hx.ext.trans y.ext)
    have vA : ∀ y : Wx x, Calls Try.prog 15 #[.slice aa na ca, .agg (RL rs)] y.val fun e w' => e = .returned (.agg (resL sa).toArray) ∧ Ext y.val w' := fun y => by
      have := vrun_any y.val _ pa (qA y) oka la rs hrl hbd
      rw [ea] at this
      exact this
    have vB : ∀ y : Wx x, Calls Try.prog 15 #[.slice ab nb cb, .agg (RL rs)] y.val fun e w' => e = .returned (.agg (resL sb).toArray) ∧ Ext y.val w' := fun y => by
      have := vrun_any y.val _ pb (qB y) okb lb rs hrl hbd
      rw [eb] at this
      exact this
    simp only [eraseM]
    repeat (first | (go_big_quiet_want; (with_reducible refine quiet_load_blk (op := ⟨some 78, _, _, _, _, _⟩) 31 (.tmp 13) ?_ (gb) ?_ (z := RL rs) (T := 31) ?_ Try.underlying31 ?_ ?_ ?_); rfl; rfl; exact (fun u hu => by obtain ⟨y, rfl⟩ := hu; exact qG y); rfl; (rw [hsz]; kernel_rfl); simp only [Act.put, List.setIfInBounds_toArray, List.set_cons_succ, List.set_cons_zero]; go_big_quiet_on) | (go_big_quiet_want; (with_reducible refine quiet_load_blk (op := ⟨some 81, _, _, _, _, _⟩) 31 (.tmp 13) ?_ (gb) ?_ (z := RL rs) (T := 31) ?_ Try.underlying31 ?_ ?_ ?_); rfl; rfl; exact (fun u hu => by obtain ⟨y, rfl⟩ := hu; exact qG y); rfl; (rw [hsz]; kernel_rfl); simp only [Act.put, List.setIfInBounds_toArray, List.set_cons_succ, List.set_cons_zero]; go_big_quiet_on) | go_big_quiet_step (first | (go_at_call 15; with_reducible exact calm_of (vA _)) | (go_at_call 15; with_reducible exact calm_of (vB _))))
    exact wpQuiet_nil rfl
  case hok =>
    simp only [List.forall_mem_cons, List.not_mem_nil, false_implies, implies_true, and_true]
    exact ⟨tgt_fresh (by simp) rfl rfl mkRes rfl rfl rfl rfl (by rw [hra]; kernel_rfl) (resL_one _) (by rw [hra]; rfl), tgt_fresh (by simp) rfl rfl mkRes rfl rfl rfl rfl (by rw [hrb]; kernel_rfl) (resL_one _) (by rw [hrb]; rfl)⟩
  case hdis =>
    intro k k' t t' hk hk' hkk ha ha'
    exfalso
    have := List.mem_of_getElem? hk
    simp only [List.mem_cons, List.not_mem_nil, or_false] at this
    rcases this with rfl | rfl <;> cases ha
  rintro w2 f hw ⟨k0, l0, d0, u0, k1, l1', d1, u1, -⟩
  have hx2 := hw.ext
  simp only [pairs, putAll, Option.isSome_some, if_true, Act.put, List.setIfInBounds_toArray, List.set_cons_succ, List.set_cons_zero]
  exact HQ.out _ _ _ _ _ _ w2 (f 0) (f 1) ⟨⟨d0, l1⟩, ⟨d1, l2⟩, hx2⟩
set_option maxRecDepth 100000 in
set_option maxHeartbeats 1000000 in
theorem vmLoops_main {w : World} (u1 : Value) (sl : List Sm) (tm : Int) (v1 : Value) (ins : List Int) (h1 : SArr w u1 sl) (ht : 0 ≤ tm ∧ tm ≤ 255) (h3 : Arr w .i32 v1 ins) (l1 : sl.length ≤ 10) (l3 : ins.length ≤ 100) :
    Calls Try.prog 7 #[u1, .int .u8 tm, v1] w fun e w' => e = .returned (.bool true) ∧ Ext w w' := by
  have hS1 := Lib.hid h1
  have hA := Lib.hid h3
  obtain ⟨⟨a1, c1, rfl, -⟩, -, -⟩ := h1
  have HBD := Lib.hid (regsOf_bd (raw := ⟨0, 0, 0, 0⟩) (arr_wide h3) (by simp) (by simp) (by simp) (by simp))
  obtain ⟨⟨a3, c3, rfl, -, -, -⟩, -, -⟩ := h3
  have i1 : (sl.length : Int) ≤ 10 := by omega
  have i3 : (ins.length : Int) ≤ 100 := by omega
  go_enter Try.func7, Try.ntmps7
  go_wp2_with fail
  refine (awake8_any _).mono ?_
  rintro e w1 ⟨rfl, x1⟩
  have HE1 := Lib.hid x1
  clear x1
  go_wp2_with fail
  refine (program_any true _ _ sl (hS1.out.ext HE1.out) (by omega)).mono ?_
  rintro e w2 ⟨v2, p, rfl, o2, hokp, hpl, hcp, x2⟩
  have HE2 := Lib.hid (HE1.out.trans x2)
  have hp12 : p.length ≤ 10 := by omega
  have HOKP := Lib.hid hokp
  have HAP := Lib.hid (chk_zero hcp).2.1
  have HP2 := Lib.hid o2
  obtain ⟨aop, cp, rfl, -, -⟩ := o2.slice
  clear hpl hokp hcp x2 HE1 hS1 o2
  go_wp2_with fail
  go_loopg [29, 7] p.length (fun m iv bv wr => ∃ (i : Nat) (bl : List In), i + m = p.length ∧ iv = .int .i64 (i : Int) ∧ OwnP wr w2.heap.size bv bl ∧ (∀ y ∈ bl, y ∈ p ∧ y.op ≠ 12 ∧ y.op ≠ 11) ∧ bl.length ≤ 4 ∧ Ext w2 wr)
  case atStart => exact ⟨0, [], by omega, rfl, OwnP.nil _ _, fun y hy => (by cases hy), by simp, Ext.refl _⟩
  case round =>
    obtain ⟨i, bl, him, rfl, ob, hbl, hb4, e4⟩ := hrel
    obtain ⟨aob, cb, rfl, -, -⟩ := ob.slice
    have HBL := Lib.hid hbl
    have HE4 := Lib.hid e4
    have HOB := Lib.hid ob
    have hbI : (bl.length : Int) ≤ 4 := by omega
    clear hbl e4 ob
    by_cases hi : i < p.length
    · have hiI : (i : Int) < (p.length : Int) := by omega
      obtain ⟨g, x, rfl, -, hx, d0, d1, d2, d3, d4⟩ := (HP2.out.ext HE4.out).nth i hi
      have HX := Lib.hid hx
      have HE5 := Lib.hid (HE4.out.alloc #[.int .u8 x.op, .int .u8 x.dst, .int .u8 x.a, .int .u8 x.b, .int .i16 x.imm] 70)
      have HOB5 := Lib.hid (HOB.out.ext ((Ext.refl wr).alloc #[.int .u8 x.op, .int .u8 x.dst, .int .u8 x.a, .int .u8 x.b, .int .i16 x.imm] 70))
      have N5 := Blk.new wr #[.int .u8 x.op, .int .u8 x.dst, .int .u8 x.a, .int .u8 x.b, .int .i16 x.imm] 70
      have HN5 := Lib.hid N5
      clear hx N5
      go_upto_region 9 with fail
      generalize wr.alloc (.cells #[.int .u8 x.op, .int .u8 x.dst, .int .u8 x.a, .int .u8 x.b, .int .i16 x.imm] 70) = w5 at *
      have cN := HN5.out.cell
      clear d0 d1 d2 d3 d4
      by_cases z : x.op ≠ 12 ∧ x.op ≠ 11 ∧ bl.length < 4
      · obtain ⟨z12, z11, z4⟩ := z
        have y12 : (x.op != 12) = true := by simpa using z12
        have y11 : (x.op != 11) = true := by simpa using z11
        have y4 : (bl.length : Int) < 4 := by omega
        have HZ := Lib.hid (And.intro z12 z11)
        have x6 := (Ext.refl w5).alloc #[.int .u8 x.op, .int .u8 x.dst, .int .u8 x.a, .int .u8 x.b, .int .i16 x.imm] 70
        have ob6 := HOB5.out.ext x6
        have hlt := lit_in w5 x 70
        have hsz5 := HE5.out.size
        have HLT := Lib.hid hlt
        clear hlt z12 z11
        go_wp2_with (at_builtin; first
          | (refine wpList_append_in rfl _ _ rfl w2.heap.size _ bl rfl ob6 w5.heap.size 1 x rfl HLT.out (by omega) (by first | omega | (simp; omega)) ?_
             intro v7 w7 o7 K7 hk7
             have x7 := Ext.calm_trans (HE5.out.trans x6) K7 (fun g hg => (ob6.lt g (Option.mem_toList.1 hg)).1)))
        have HO7 := Lib.hid o7
        have HX7 := Lib.hid x7
        clear o7 x7 K7 hk7 ob6 x6
        go_roundg (p.length - (i + 1))
        case measure => omega
        case rel =>
          refine ⟨i + 1, bl ++ [x], by omega, rfl, HO7.out, fun y hy => ?_, by simp; omega, HX7.out⟩
          rcases List.mem_append.1 hy with h | h
          · exact HBL.out y h
          · simp at h
            rw [h]
            exact ⟨List.mem_of_getElem? HX.out, HZ.out⟩
      · by_cases z12 : x.op = 12
        · have y12 : (x.op != 12) = false := by simpa using z12
          clear z z12
          go_wp2
          go_roundg (p.length - (i + 1))
          case measure => omega
          case rel => exact ⟨i + 1, bl, by omega, rfl, HOB5.out, HBL.out, hb4, HE5.out⟩
        · have y12 : (x.op != 12) = true := by simpa using z12
          by_cases z11 : x.op = 11
          · have y11 : (x.op != 11) = false := by simpa using z11
            clear z z12 z11
            go_wp2
            go_roundg (p.length - (i + 1))
            case measure => omega
            case rel => exact ⟨i + 1, bl, by omega, rfl, HOB5.out, HBL.out, hb4, HE5.out⟩
          · have y11 : (x.op != 11) = true := by simpa using z11
            have y4 : ¬ (bl.length : Int) < 4 := fun h => z ⟨z12, z11, by omega⟩
            clear z z12 z11
            go_wp2
            go_roundg (p.length - (i + 1))
            case measure => omega
            case rel => exact ⟨i + 1, bl, by omega, rfl, HOB5.out, HBL.out, hb4, HE5.out⟩
    · obtain rfl : i = p.length := by omega
      have HEW := Lib.hid (HE2.out.trans HE4.out)
      have HPL := Lib.hid (show ∀ y ∈ bl, Plain y from fun y hy => by
        obtain ⟨h1, h2, h3⟩ := HBL.out y hy
        obtain ⟨k, hk⟩ := List.mem_iff_getElem?.1 h1
        obtain ⟨g1, -, g3, -, -⟩ := at1_zero.1 (HAP.out k y hk)
        exact ⟨g1, g3, h2, h3⟩)
      have HOKB := Lib.hid (show ∀ y ∈ bl, y.ok from fun y hy => HOKP.out y (HBL.out y hy).1)
      have zw := HE4.out.size
      generalize wr = w4 at *
      clear HBL HAP HOKP HP2 HE2
      by_cases hb0 : bl.length = 0
      · have y0 : ((bl.length : Int) == 0) = true := by simp [hb0]
        clear hb0
        go_wp2
        go_ret
        exact ⟨rfl, HEW.out⟩
      · have y0 : ((bl.length : Int) == 0) = false := by simp [hb0]
        obtain ⟨n, hn⟩ : ∃ n : Nat, 1 + tm % 5 = n := ⟨(1 + tm % 5).toNat, by omega⟩
        have hn1 : 1 ≤ n := by omega
        have hn5 : n ≤ 5 := by omega
        have hnI : (n : Int) ≤ 5 := by omega
        have hwu : IntKind.u8.wrap (bl.length : Int) = bl.length := by simp [IntKind.wrap, IntKind.bits, IntKind.signed]; omega
        have hwi : IntKind.i16.wrap (n : Int) = n := by simp [IntKind.wrap, IntKind.bits, IntKind.signed]; omega
        have hb1 : 1 ≤ bl.length := by omega
        have x5 := (Ext.refl w4).alloc #[.int .u8 12, .int .u8 0, .int .u8 0, .int .u8 (bl.length : Int), .int .i16 (n : Int)] 70
        have ol := lit_own w4 ⟨12, 0, 0, (bl.length : Int), (n : Int)⟩
        have ob5 := HOB.out.ext x5
        clear hb0
        go_upto_region 17 with (at_builtin; first
          | (refine wpList_append_own rfl _ _ rfl w4.heap.size _ [⟨12, 0, 0, (bl.length : Int), (n : Int)⟩] rfl ol w2.heap.size _ bl rfl ob5 (by simp; omega) (by simp) ?_
             intro v6 w6 o6 K6 hk6
             have x6 := Ext.calm_trans x5 K6 (fun g hg => (ol.lt g (Option.mem_toList.1 hg)).1)))
        obtain ⟨La, hLa⟩ : ∃ La, [(⟨12, 0, 0, (bl.length : Int), (n : Int)⟩ : In)] ++ bl = La := ⟨_, rfl⟩
        rw [hLa] at o6
        have HLA := Lib.hid (show (⟨12, 0, 0, (bl.length : Int), (n : Int)⟩ : In) :: bl = La from hLa)
        have hla5 : La.length ≤ 5 := by rw [← hLa]; simp; omega
        obtain ⟨ao6, c6, rfl, -, -⟩ := o6.slice
        have HA6 := Lib.hid o6
        have HE6 := Lib.hid (HEW.out.trans x6)
        have HOB6 := Lib.hid (HOB.out.ext x6)
        have z6 := (HE6.out).size
        have zx6 := x6.size
        clear hLa o6 K6 hk6 x5 ol ob5 x6 HOB HEW hwu hwi hn ht
        go_wp2_with fail
        go_loopg [68, 12] n (fun m iv fv wr => ∃ k : Nat, k + m = n ∧ iv = .int .i64 (k : Int) ∧ OwnP wr w6.heap.size fv (flatN bl k) ∧ Ext w6 wr)
        case atStart => exact ⟨0, by omega, rfl, OwnP.nil _ _, Ext.refl _⟩
        case round =>
          obtain ⟨k, hkn, rfl, of7, e7⟩ := hrel
          have hfl : (flatN bl k).length ≤ 20 := by
            rw [flatN_length]
            exact Nat.mul_le_mul (show k ≤ 5 by omega) hb4
          obtain ⟨fl, hfe⟩ : ∃ fl, flatN bl k = fl := ⟨_, rfl⟩
          rw [hfe] at of7 hfl
          have HFE := Lib.hid hfe
          obtain ⟨aof, cf, rfl, -, -⟩ := of7.slice
          have ob7 := HOB6.out.ext e7
          have HE7 := Lib.hid e7
          have z7 := e7.size
          clear hfe
          by_cases hk : k < n
          · have hkI : (k : Int) < (n : Int) := by omega
            go_wp2_with (at_builtin; first
              | (refine wpList_append_own rfl _ _ rfl w6.heap.size _ fl rfl of7 w2.heap.size _ bl rfl ob7 (by omega) (by omega) ?_
                 intro v8 w8 o8 K8 hk8
                 have x8 := Ext.calm_trans e7 K8 (fun g hg => (of7.lt g (Option.mem_toList.1 hg)).1)))
            rw [← HFE.out, flatN_snoc] at o8
            have HO8 := Lib.hid o8
            have HX8 := Lib.hid x8
            clear o8 x8 K8 hk8 ob7 of7 e7
            go_roundg (n - (k + 1))
            case measure => omega
            case rel => exact ⟨k + 1, by omega, rfl, HO8.out, HX8.out⟩
          · obtain rfl : k = n := by omega
            have HF7 := Lib.hid of7
            have HA7 := Lib.hid (HA6.out.ext e7)
            have HW7 := Lib.hid (HE6.out.trans e7)
            generalize wr = w7 at *
            clear of7 e7 ob7 HA6 HE6 HOB6 HE7
            go_wp2_with fail
            show Calls Try.prog _ #[_, .agg #[.int .i64 (⟨0, 0, 0, 0⟩ : V4).c0, .int .i64 (⟨0, 0, 0, 0⟩ : V4).c1, .int .i64 (⟨0, 0, 0, 0⟩ : V4).c2, .int .i64 (⟨0, 0, 0, 0⟩ : V4).c3]] _ _
            refine (regs8_rl _ _ ins (hA.out.ext HW7.out) l3 ⟨0, 0, 0, 0⟩).mono ?_
            rintro e w9 ⟨rfl, x9⟩
            obtain ⟨rs, hrs⟩ : ∃ rs, regsOf ins ⟨0, 0, 0, 0⟩ = rs := ⟨_, rfl⟩
            have hrl : rs.length = 48 := by rw [← hrs]; exact regsOf_len ins _
            rw [hrs] at HBD ⊢
            have HRL := Lib.hid hrl
            have hsz := RL.size hrl
            have hone := RL.one rs
            have Z9 := Blk.new w9 #[.int .i64 0, .int .i64 0, .int .i64 0, .int .i64 0, .int .i64 0, .int .i64 0, .int .i64 0, .int .i64 0, .int .i64 0, .int .i64 0, .int .i64 0, .int .i64 0, .int .i64 0, .int .i64 0, .int .i64 0, .int .i64 0, .int .i64 0, .int .i64 0, .int .i64 0, .int .i64 0, .int .i64 0, .int .i64 0, .int .i64 0, .int .i64 0, .int .i64 0, .int .i64 0, .int .i64 0, .int .i64 0, .int .i64 0, .int .i64 0, .int .i64 0, .int .i64 0, .int .i64 0, .int .i64 0, .int .i64 0, .int .i64 0, .int .i64 0, .int .i64 0, .int .i64 0, .int .i64 0, .int .i64 0, .int .i64 0, .int .i64 0, .int .i64 0, .int .i64 0, .int .i64 0, .int .i64 0, .int .i64 0] 31
            have HE9 := Lib.hid (HW7.out.trans x9)
            have HA9 := Lib.hid (HA7.out.ext x9)
            have HF9 := Lib.hid (HF7.out.ext x9)
            clear hrs hrl x9 hA HW7 HA7 HF7
            go_upto_region 22 with (first
              | ((with_reducible refine wpList_store_blk (op := ⟨none, .store 31 (.tmp 13) (.tmp 76), _, _, _, _⟩) ?_ 31 (.tmp 13) (.tmp 76) ?_ w9.heap.size ?_ (cs := RL rs) ?_ (T := 31) Z9 ?_ ?_ ?_ ?_); rfl; rfl; rfl; rfl; (rw [hsz]; kernel_rfl); exact hone; (rw [hsz]; rfl))
              | fail)
            have G10 := Z9.setRow (RL rs)
            have E10 := Ext.setRow ((Ext.refl w9).alloc #[.int .i64 0, .int .i64 0, .int .i64 0, .int .i64 0, .int .i64 0, .int .i64 0, .int .i64 0, .int .i64 0, .int .i64 0, .int .i64 0, .int .i64 0, .int .i64 0, .int .i64 0, .int .i64 0, .int .i64 0, .int .i64 0, .int .i64 0, .int .i64 0, .int .i64 0, .int .i64 0, .int .i64 0, .int .i64 0, .int .i64 0, .int .i64 0, .int .i64 0, .int .i64 0, .int .i64 0, .int .i64 0, .int .i64 0, .int .i64 0, .int .i64 0, .int .i64 0, .int .i64 0, .int .i64 0, .int .i64 0, .int .i64 0, .int .i64 0, .int .i64 0, .int .i64 0, .int .i64 0, .int .i64 0, .int .i64 0, .int .i64 0, .int .i64 0, .int .i64 0, .int .i64 0, .int .i64 0, .int .i64 0] 31) (Nat.le_refl _) (RL rs)
            clear Z9
            generalize (w9.alloc (.cells #[.int .i64 0, .int .i64 0, .int .i64 0, .int .i64 0, .int .i64 0, .int .i64 0, .int .i64 0, .int .i64 0, .int .i64 0, .int .i64 0, .int .i64 0, .int .i64 0, .int .i64 0, .int .i64 0, .int .i64 0, .int .i64 0, .int .i64 0, .int .i64 0, .int .i64 0, .int .i64 0, .int .i64 0, .int .i64 0, .int .i64 0, .int .i64 0, .int .i64 0, .int .i64 0, .int .i64 0, .int .i64 0, .int .i64 0, .int .i64 0, .int .i64 0, .int .i64 0, .int .i64 0, .int .i64 0, .int .i64 0, .int .i64 0, .int .i64 0, .int .i64 0, .int .i64 0, .int .i64 0, .int .i64 0, .int .i64 0, .int .i64 0, .int .i64 0, .int .i64 0, .int .i64 0, .int .i64 0, .int .i64 0] 31)).setRow w9.heap.size (RL rs) = w10 at *
            have HE10 := Lib.hid (HE9.out.trans E10)
            have hlr := Lib.hid (loop_runs HOKB.out HPL.out hb4 hb1 k hn1 hn5 rs)
            rw [HLA.out, HFE.out] at hlr
            have okL : ∀ x ∈ La, x.ok := fun y hy => by
              rw [← HLA.out] at hy
              rcases List.mem_cons.1 hy with h | h
              · rw [h]
                simp [In.ok]
                omega
              · exact HOKB.out y h
            have okF : ∀ x ∈ fl, x.ok := by rw [← HFE.out]; exact flatN_ok HOKB.out k
            obtain ⟨sb, hsb⟩ : ∃ sb, runV fl rs = sb := ⟨_, rfl⟩
            have hrb : RB sb.rs := by rw [← hsb]; exact runV_rb okF HRL.out
            rw [hsb] at hlr
            have hcf := chk_flat HPL.out hb4 k hn5
            rw [HFE.out] at hcf
            have hst := run_fuel_bound okF (chk_zero hcf).2.1 (fl.length - 0) (st0 rs)
            have hup := run_up fl 0 fl.length (st0 rs)
            have hsb0 : 0 ≤ sb.steps ∧ sb.steps ≤ 200 := by
              have h0 : (st0 rs).steps = 0 := rfl
              have hf := (chk_zero hcf).2.2
              rw [← hsb, runV_ok hcf]
              unfold run at *
              omega
            have HS0 := Lib.hid hsb0
            clear hst hup hsz hone
            refine loops_r22 _ _ _ _ _ _ _ _ _ _ _ _ _ _ _ _ _ _ _ _ _ _ _ _ _ _ _ _ _ _ _ _ _ _ _ _ _ _ _ _ _ _ _ _ _ _ _ _ _ _ _ _ _ _ _ _ _ _ _ _ _ _ _ _ _ _ _ _ _ _ _ _ _ _ _ _ _ _ _ _ _ _ _ _ _ _ _ _ _ _ _ _ _ _ _ _ _ _ _ _ _ _ _ _ _ _ w9.heap.size La fl rs (sb.plus 1) sb HRL.out HBD.out okL okF (by omega) (by omega) hlr.out hsb hrb.1 hrb.1 w10 (HA9.out.ext E10).parr (HF9.out.ext E10).parr G10 ?_
            rintro g0 g1 g2 g3 g4 g5 w11 ba bb ⟨RA, RB', x11⟩
            have HE11 := Lib.hid (HE10.out.trans x11)
            have k1 : w11.rangeAt ba 0 (sb.rs.map (Value.int .i64)) := RA.regs3
            have k2 := RB'.regs3
            have k3 : w11.cell? ⟨ba, 48, none⟩ = some (.bool sb.gone) := RA.gone
            have k4 := RB'.gone
            have k5 : w11.cell? ⟨ba, 49, none⟩ = some (.int .i64 (sb.steps + 1)) := RA.steps
            have k6 := RB'.steps
            have hrz : (sb.rs.map (Value.int .i64)).length = 48 := by simp [hrb.1]
            have hwr : IntKind.i64.wrap (sb.steps + 1) = sb.steps + 1 := by
              have h1 := HS0.out
              rw [IntKind.wrap_i64]
              omega
            have hE := fun W => eqR sb.rs hrb.1 W
            clear RA RB' x11 hlr okL okF hsb hcf hsb0 HS0 HE9 HA9 HF9 HE10 E10 G10 HBD HRL hrb
            go_wp2_with (first
              | ((with_reducible refine wpList_load_mid (op := ⟨some 84, _, _, _, _, _⟩) ?_ 31 (.tmp 83) ?_ ba 0 ?_ (sb.rs.map (Value.int .i64)) _ k1 Try.underlying31 ?_ ?_ ?_); rfl; rfl; rfl; rfl; (rw [hrz]; kernel_rfl))
              | ((with_reducible refine wpList_load_mid (op := ⟨some 86, _, _, _, _, _⟩) ?_ 31 (.tmp 85) ?_ bb 0 ?_ (sb.rs.map (Value.int .i64)) _ k2 Try.underlying31 ?_ ?_ ?_); rfl; rfl; rfl; rfl; (rw [hrz]; kernel_rfl))
              | fail)
            go_ret
            exact ⟨rfl, HE11.out⟩
theorem vmLoops_row {w : World} (u1 : Value) (sl : List Sm) (tm : Int) (v1 : Value) (ins : List Int) (h1 : SArr w u1 sl) (ht : 0 ≤ tm ∧ tm ≤ 255) (h3 : Arr w .i32 v1 ins) :
    Calls Try.prog 7 #[u1, .int .u8 tm, v1] w fun e w' => e = .returned (.bool true) ∧ Ext w w' := by
  by_cases l0 : sl.length ≤ 10 ∧ ins.length ≤ 100
  · exact vmLoops_main u1 sl tm v1 ins h1 ht h3 l0.1 l0.2
  · obtain ⟨⟨a1, c1, rfl, -⟩, -, -⟩ := h1
    obtain ⟨⟨a3, c3, rfl, -, -, -⟩, -, -⟩ := h3
    have hb : (decide (10 < (sl.length : Int)) || decide (100 < (ins.length : Int))) = true := by
      simp only [Bool.or_eq_true, decide_eq_true_eq]
      omega
    go_enter Try.func7, Try.ntmps7
    go_wp2_with fail
    refine (awake8_any _).mono ?_
    rintro e w1 ⟨rfl, e1⟩
    go_wp2
    all_goals (go_ret; exact ⟨rfl, e1⟩)
end Go.Proofs.Ytellfhnfifgpoaa

