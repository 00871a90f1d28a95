/-
  DERIVED. ClipCrosses (made by mkcliplaws.py).
-/
import Derived.Test.YtjohcngmoemmbaaClipCrossesWalk
namespace Go.Proofs.Ytjohcngmoemmbaa
open Go.RowKit
set_option linter.unusedVariables false
theorem mixF_mm {x y a b : Int} (h0 : 0 ≤ a) (h1 : b < 0) : min x y ≤ mixF x y a (a - b) ∧ mixF x y a (a - b) ≤ max x y :=
  mixF_in h0 (by omega) (by omega) (by omega) (by omega)
theorem cut_fine {v u : V8} {k : Nat} (hv : v.fine) (hu : u.fine) (h0 : 0 ≤ insF v k) (h1 : insF u k < 0) : (cutF v u k).fine :=
  ⟨cutF_in hv.1 hu.1 h0 h1, cutF_inC hv.2 hu.2 h0 h1⟩
theorem cross_cutF {v u : V8} {k : Nat} (hv : v.fine) (hu : u.fine) (h0 : 0 ≤ insF v k) (h1 : insF u k < 0) (w : World) : Calls Try.prog 17 #[.agg v.l.toArray, .agg u.l.toArray, .int .i64 (k : Int)] w fun e w' => e = .returned (.agg (cutF v u k).l.toArray) ∧ Ext w w' := by
  have := cross_any v u hv.in64 hu.in64 k w
  unfold crossZ at this
  rw [V8.lim_id hv, V8.lim_id hu, if_neg (by omega), gcut_eq hv hu] at this
  exact this
theorem cross_same {v u : V8} {k : Nat} (hv : v.fine) (hu : u.fine) (h : insF v k < 0 ∨ 0 ≤ insF u k) (w : World) : Calls Try.prog 17 #[.agg v.l.toArray, .agg u.l.toArray, .int .i64 (k : Int)] w fun e w' => e = .returned (.agg v.l.toArray) ∧ Ext w w' := by
  have := cross_any v u hv.in64 hu.in64 k w
  unfold crossZ at this
  rw [V8.lim_id hv, V8.lim_id hu, if_pos h] at this
  exact this
theorem clipCrosses_row (va vb : VSm) (pl : Int) (ha : va.ok) (hb : vb.ok) (hp : 0 ≤ pl ∧ pl ≤ 255) (w : World) :
    Calls Try.prog 5 #[.agg va.l.toArray, .agg vb.l.toArray, .int .u8 pl] w fun e w' => e = .returned (.bool true) ∧ Ext w w' := by
  have fa := vx_fine ha
  have fb := vx_fine hb
  obtain ⟨k, hk⟩ : ∃ k : Nat, pl % 7 = (k : Int) := ⟨(pl % 7).toNat, by omega⟩
  have hk7 : k < 7 := by omega
  by_cases s1 : 0 ≤ insF (vxF va) k
  · by_cases s2 : 0 ≤ insF (vxF vb) k
    · exact crosses_keepA va.x va.y va.z va.w va.r va.g va.b va.a vb.x vb.y vb.z vb.w vb.r vb.g vb.b vb.a va.far vb.far (vxF va).p0 (vxF va).p1 (vxF va).p2 (vxF va).p3 (vxF va).c0 (vxF va).c1 (vxF va).c2 (vxF va).c3 (vxF vb).p0 (vxF vb).p1 (vxF vb).p2 (vxF vb).p3 (vxF vb).c0 (vxF vb).c1 (vxF vb).c2 (vxF vb).c3 _ _ pl k hk7 hp hk (fun u => vertex11_any va ha u) (fun u => vertex11_any vb hb u) (fun u => inside_fine _ fa k u) (fun u => inside_fine _ fb k u) (by omega) (by omega) (fun u => cross_same fa fb (by omega) u) w
    · exact crosses_cutA va.x va.y va.z va.w va.r va.g va.b va.a vb.x vb.y vb.z vb.w vb.r vb.g vb.b vb.a va.far vb.far (vxF va).p0 (vxF va).p1 (vxF va).p2 (vxF va).p3 (vxF va).c0 (vxF va).c1 (vxF va).c2 (vxF va).c3 (vxF vb).p0 (vxF vb).p1 (vxF vb).p2 (vxF vb).p3 (vxF vb).c0 (vxF vb).c1 (vxF vb).c2 (vxF vb).c3 _ _ pl k hk7 hp hk (fun u => vertex11_any va ha u) (fun u => vertex11_any vb hb u) (fun u => inside_fine _ fa k u) (fun u => inside_fine _ fb k u) (by omega) (by omega) (cutF (vxF va) (vxF vb) k).p0 (cutF (vxF va) (vxF vb) k).p1 (cutF (vxF va) (vxF vb) k).p2 (cutF (vxF va) (vxF vb) k).p3 (cutF (vxF va) (vxF vb) k).c0 (cutF (vxF va) (vxF vb) k).c1 (cutF (vxF va) (vxF vb) k).c2 (cutF (vxF va) (vxF vb) k).c3 _ (fun u => inside_fine (cutF (vxF va) (vxF vb) k) (cut_fine fa fb (by omega) (by omega)) k u) (cutF_near hk7 (by omega) (by omega)) (mixF_mm (by omega) (by omega)) (mixF_mm (by omega) (by omega)) (mixF_mm (by omega) (by omega)) (mixF_mm (by omega) (by omega)) (mixF_mm (by omega) (by omega)) (mixF_mm (by omega) (by omega)) (mixF_mm (by omega) (by omega)) (mixF_mm (by omega) (by omega)) (fun u => cross_cutF fa fb (by omega) (by omega) u) w
  · by_cases s2 : 0 ≤ insF (vxF vb) k
    · exact crosses_cutB va.x va.y va.z va.w va.r va.g va.b va.a vb.x vb.y vb.z vb.w vb.r vb.g vb.b vb.a va.far vb.far (vxF va).p0 (vxF va).p1 (vxF va).p2 (vxF va).p3 (vxF va).c0 (vxF va).c1 (vxF va).c2 (vxF va).c3 (vxF vb).p0 (vxF vb).p1 (vxF vb).p2 (vxF vb).p3 (vxF vb).c0 (vxF vb).c1 (vxF vb).c2 (vxF vb).c3 _ _ pl k hk7 hp hk (fun u => vertex11_any va ha u) (fun u => vertex11_any vb hb u) (fun u => inside_fine _ fa k u) (fun u => inside_fine _ fb k u) (by omega) (by omega) (cutF (vxF vb) (vxF va) k).p0 (cutF (vxF vb) (vxF va) k).p1 (cutF (vxF vb) (vxF va) k).p2 (cutF (vxF vb) (vxF va) k).p3 (cutF (vxF vb) (vxF va) k).c0 (cutF (vxF vb) (vxF va) k).c1 (cutF (vxF vb) (vxF va) k).c2 (cutF (vxF vb) (vxF va) k).c3 _ (fun u => inside_fine (cutF (vxF vb) (vxF va) k) (cut_fine fb fa (by omega) (by omega)) k u) (cutF_near hk7 (by omega) (by omega)) (mixF_mm (by omega) (by omega)) (mixF_mm (by omega) (by omega)) (mixF_mm (by omega) (by omega)) (mixF_mm (by omega) (by omega)) (mixF_mm (by omega) (by omega)) (mixF_mm (by omega) (by omega)) (mixF_mm (by omega) (by omega)) (mixF_mm (by omega) (by omega)) (fun u => cross_cutF fb fa (by omega) (by omega) u) w
    · exact crosses_keepB va.x va.y va.z va.w va.r va.g va.b va.a vb.x vb.y vb.z vb.w vb.r vb.g vb.b vb.a va.far vb.far (vxF va).p0 (vxF va).p1 (vxF va).p2 (vxF va).p3 (vxF va).c0 (vxF va).c1 (vxF va).c2 (vxF va).c3 (vxF vb).p0 (vxF vb).p1 (vxF vb).p2 (vxF vb).p3 (vxF vb).c0 (vxF vb).c1 (vxF vb).c2 (vxF vb).c3 _ _ pl k hk7 hp hk (fun u => vertex11_any va ha u) (fun u => vertex11_any vb hb u) (fun u => inside_fine _ fa k u) (fun u => inside_fine _ fb k u) (by omega) (by omega) (fun u => cross_same fb fa (by omega) u) w
end Go.Proofs.Ytjohcngmoemmbaa
