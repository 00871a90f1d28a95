/-
  DERIVED. Layer 13 (setup) in plain numbers: corners, triangles, what they are at a pixel; what lies between. · Layer 13: what the landed functions are told by (made by mklaw13.py).
-/
import Derived.Test.YtglehnmkdapnpaaPkRefC
import Derived.Test.YtglehnmkdapnpaaPkEdge
namespace Go.Proofs.Ytglehnmkdapnpaa
set_option linter.unusedVariables false
/-- a number within bounds -/
def bdI (n lo hi : Int) : Int := max lo (min n hi)
/-- a corner: its point, depth, how far, colour -/
structure Cn where
  (x y d f c0 c1 c2 c3 : Int)
instance : Inhabited Cn := ⟨⟨0, 0, 0, 0, 0, 0, 0, 0⟩⟩
abbrev Cn.l (c : Cn) : List Value := [.int .i64 c.x, .int .i64 c.y, .int .i64 c.d, .int .i64 c.f, .int .i64 c.c0, .int .i64 c.c1, .int .i64 c.c2, .int .i64 c.c3]
/-- a triangle on the picture: points, depths, how near, colours -/
structure Tr where
  (ax ay bx by' cx cy d0 d1 d2 n0 n1 n2 a0 a1 a2 a3 b0 b1 b2 b3 c0 c1 c2 c3 : Int)
instance : Inhabited Tr := ⟨⟨0, 0, 0, 0, 0, 0, 0, 0, 0, 0, 0, 0, 0, 0, 0, 0, 0, 0, 0, 0, 0, 0, 0, 0⟩⟩
def Tr.nul : Tr := ⟨0, 0, 0, 0, 0, 0, 0, 0, 0, 0, 0, 0, 0, 0, 0, 0, 0, 0, 0, 0, 0, 0, 0, 0⟩
abbrev Tr.l (t : Tr) : List Value := [.int .i64 t.ax, .int .i64 t.ay, .int .i64 t.bx, .int .i64 t.by', .int .i64 t.cx, .int .i64 t.cy, .int .i64 t.d0, .int .i64 t.d1, .int .i64 t.d2, .int .i64 t.n0, .int .i64 t.n1, .int .i64 t.n2, .int .i64 t.a0, .int .i64 t.a1, .int .i64 t.a2, .int .i64 t.a3, .int .i64 t.b0, .int .i64 t.b1, .int .i64 t.b2, .int .i64 t.b3, .int .i64 t.c0, .int .i64 t.c1, .int .i64 t.c2, .int .i64 t.c3]
/-- the corner of a vertex on a picture -/
def ofF (v : V8) (w h : Int) : Cn :=
  ⟨nr (8 * bdI w 1 64 + 8 * bdI w 1 64 * lim4 v.p0 / max v.p3 256), nr (8 * bdI h 1 64 - 8 * bdI h 1 64 * lim4 v.p1 / max v.p3 256), bdI (65535 * lim4 v.p2 / max v.p3 256) 0 65535, max v.p3 256, limC v.c0, limC v.c1, limC v.c2, limC v.c3⟩
def areaC (a b c : Cn) : Int := sd a.x a.y b.x b.y c.x c.y
def farB (f : Int) : Int := max f 1
def leastF (a b c : Cn) : Int := min (min (min (farB a.f) (farB b.f)) (farB c.f)) 4194304
def nearF (l f : Int) : Int := max 1 (1024 * l / farB f)
def dep (d : Int) : Int := bdI d 0 65535
def triF (a b c : Cn) : Tr :=
  ⟨nr a.x, nr a.y, nr b.x, nr b.y, nr c.x, nr c.y, dep a.d, dep b.d, dep c.d, nearF (leastF a b c) a.f, nearF (leastF a b c) b.f, nearF (leastF a b c) c.f,
    limC a.c0, limC a.c1, limC a.c2, limC a.c3, limC b.c0, limC b.c1, limC b.c2, limC b.c3, limC c.c0, limC c.c1, limC c.c2, limC c.c3⟩
def outF (ar cull : Int) : Prop := ar = 0 ∨ (ar < 0 ∧ cull = 1) ∨ (0 < ar ∧ cull = 2)
instance (ar cull : Int) : Decidable (outF ar cull) := by unfold outF; infer_instance
def makeF (a b c : Cn) (cull : Int) : Option Tr := if outF (areaC a b c) cull then none else if areaC a b c < 0 then some (triF a c b) else some (triF a b c)
def Tr.area (t : Tr) : Int := sd t.ax t.ay t.bx t.by' t.cx t.cy
def In (lo hi n : Int) : Prop := lo ≤ n ∧ n ≤ hi
instance (lo hi n : Int) : Decidable (In lo hi n) := by unfold In; infer_instance
/-- numbers as they may be -/
def Tr.rng (t : Tr) : Prop :=
  (In (-16384) 16384 t.ax ∧ In (-16384) 16384 t.ay ∧ In (-16384) 16384 t.bx ∧ In (-16384) 16384 t.by' ∧ In (-16384) 16384 t.cx ∧ In (-16384) 16384 t.cy) ∧ (In 0 65535 t.d0 ∧ In 0 65535 t.d1 ∧ In 0 65535 t.d2) ∧ (In 1 1024 t.n0 ∧ In 1 1024 t.n1 ∧ In 1 1024 t.n2) ∧
  (In 0 65536 t.a0 ∧ In 0 65536 t.a1 ∧ In 0 65536 t.a2 ∧ In 0 65536 t.a3) ∧ (In 0 65536 t.b0 ∧ In 0 65536 t.b1 ∧ In 0 65536 t.b2 ∧ In 0 65536 t.b3) ∧ (In 0 65536 t.c0 ∧ In 0 65536 t.c1 ∧ In 0 65536 t.c2 ∧ In 0 65536 t.c3)
instance (t : Tr) : Decidable t.rng := by unfold Tr.rng; infer_instance
def chkT (t : Tr) : Int := if t.rng then (if t.area ≤ 0 then 4 else 0) else 2
def midI (x : Int) : Int := 16 * bdI x (-1) 64 + 8
/-- the weights of a point -/
def Tr.w0 (t : Tr) (px py : Int) : Int := sd t.bx t.by' t.cx t.cy px py
def Tr.w1 (t : Tr) (px py : Int) : Int := sd t.cx t.cy t.ax t.ay px py
def Tr.w2 (t : Tr) (px py : Int) : Int := sd t.ax t.ay t.bx t.by' px py
def Tr.all (t : Tr) (px py : Int) : Int := t.w0 px py * t.n0 + t.w1 px py * t.n1 + t.w2 px py * t.n2
def Tr.dAt (t : Tr) (px py : Int) : Int := (t.w0 px py * t.d0 + t.w1 px py * t.d1 + t.w2 px py * t.d2) / t.area
def Tr.cAt (t : Tr) (px py x y z : Int) : Int := (t.w0 px py * t.n0 * x + t.w1 px py * t.n1 * y + t.w2 px py * t.n2 * z) / t.all px py
def Tr.cov (t : Tr) (px py : Int) : Bool := covB t.ax t.ay t.bx t.by' t.cx t.cy px py
/-- the depth and the colour at a pixel that is of it -/
structure PAt where
  (d c0 c1 c2 c3 : Int)
  is : Bool
def atF (t : Tr) (x y : Int) : PAt :=
  if chkT t = 0 ∧ t.cov (midI x) (midI y) = true then ⟨t.dAt (midI x) (midI y), t.cAt (midI x) (midI y) t.a0 t.b0 t.c0, t.cAt (midI x) (midI y) t.a1 t.b1 t.c1, t.cAt (midI x) (midI y) t.a2 t.b2 t.c2, t.cAt (midI x) (midI y) t.a3 t.b3 t.c3, true⟩ else ⟨0, 0, 0, 0, 0, false⟩

theorem bdI_bd (n : Int) {lo hi : Int} (h : lo ≤ hi) : lo ≤ bdI n lo hi ∧ bdI n lo hi ≤ hi := by unfold bdI; omega
theorem bdI_id {n lo hi : Int} (h0 : lo ≤ n) (h1 : n ≤ hi) : bdI n lo hi = n := by unfold bdI; omega
theorem limC_bd (n : Int) : 0 ≤ limC n ∧ limC n ≤ 65536 := by unfold limC; omega
theorem limC_id {n : Int} (h : 0 ≤ n ∧ n ≤ 65536) : limC n = n := by unfold limC; omega
theorem nr_nr (x : Int) : nr (nr x) = nr x := nr_id (nr_bd x).1 (nr_bd x).2
theorem sd_nr (ax ay bx by' cx cy : Int) : sd (nr ax) (nr ay) (nr bx) (nr by') (nr cx) (nr cy) = sd ax ay bx by' cx cy := by
  unfold sd
  simp only [nr_nr]
/-- what is covered has weights of 0 and more, that make the area -/
theorem cov_weights {t : Tr} {px py : Int} (h : t.cov px py = true) : 0 ≤ t.w0 px py ∧ 0 ≤ t.w1 px py ∧ 0 ≤ t.w2 px py ∧ 0 < t.area ∧ t.w0 px py + t.w1 px py + t.w2 px py = t.area := by
  have := (covB_iff _ _ _ _ _ _ _ _).1 h
  obtain ⟨h0, h1, h2, h3⟩ := this
  exact ⟨Edge.wOk_nonneg h1, Edge.wOk_nonneg h2, Edge.wOk_nonneg h3, h0, Edge.side_sum _ _ _ _ _ _ _ _⟩
theorem w_bd (t : Tr) (px py : Int) : (-2147483648 ≤ t.w0 px py ∧ t.w0 px py ≤ 2147483648) ∧ (-2147483648 ≤ t.w1 px py ∧ t.w1 px py ≤ 2147483648) ∧ (-2147483648 ≤ t.w2 px py ∧ t.w2 px py ≤ 2147483648) := ⟨sd_bd _ _ _ _ _ _, sd_bd _ _ _ _ _ _, sd_bd _ _ _ _ _ _⟩
/-- a mean lies between -/
theorem mean_in {u v w x y z lo hi : Int} (hu : 0 ≤ u) (hv : 0 ≤ v) (hw : 0 ≤ w) (hs : 0 < u + v + w) (hx : lo ≤ x ∧ x ≤ hi) (hy : lo ≤ y ∧ y ≤ hi) (hz : lo ≤ z ∧ z ≤ hi) :
    lo ≤ (u * x + v * y + w * z) / (u + v + w) ∧ (u * x + v * y + w * z) / (u + v + w) ≤ hi := by
  have a1 := Int.mul_le_mul_of_nonneg_left hx.1 hu
  have a2 := Int.mul_le_mul_of_nonneg_left hx.2 hu
  have b1 := Int.mul_le_mul_of_nonneg_left hy.1 hv
  have b2 := Int.mul_le_mul_of_nonneg_left hy.2 hv
  have c1 := Int.mul_le_mul_of_nonneg_left hz.1 hw
  have c2 := Int.mul_le_mul_of_nonneg_left hz.2 hw
  have e1 : lo * (u + v + w) = u * lo + v * lo + w * lo := by rw [Int.mul_add, Int.mul_add, Int.mul_comm lo u, Int.mul_comm lo v, Int.mul_comm lo w]
  have e2 : hi * (u + v + w) = u * hi + v * hi + w * hi := by rw [Int.mul_add, Int.mul_add, Int.mul_comm hi u, Int.mul_comm hi v, Int.mul_comm hi w]
  constructor
  · exact (Int.le_ediv_iff_mul_le hs).2 (by omega)
  · exact Int.ediv_le_of_le_mul hs (by omega)
theorem all_pos {t : Tr} {px py : Int} (h : t.cov px py = true) (hn0 : 1 ≤ t.n0) (hn1 : 1 ≤ t.n1) (hn2 : 1 ≤ t.n2) : 0 ≤ t.w0 px py * t.n0 ∧ 0 ≤ t.w1 px py * t.n1 ∧ 0 ≤ t.w2 px py * t.n2 ∧ 0 < t.all px py := by
  obtain ⟨h0, h1, h2, h3, h4⟩ := cov_weights h
  have m0 := Int.mul_le_mul_of_nonneg_left hn0 h0
  have m1 := Int.mul_le_mul_of_nonneg_left hn1 h1
  have m2 := Int.mul_le_mul_of_nonneg_left hn2 h2
  unfold Tr.all
  omega
theorem dAt_in {t : Tr} {px py lo hi : Int} (h : t.cov px py = true) (h0 : lo ≤ t.d0 ∧ t.d0 ≤ hi) (h1 : lo ≤ t.d1 ∧ t.d1 ≤ hi) (h2 : lo ≤ t.d2 ∧ t.d2 ≤ hi) : lo ≤ t.dAt px py ∧ t.dAt px py ≤ hi := by
  obtain ⟨k0, k1, k2, k3, k4⟩ := cov_weights h
  unfold Tr.dAt
  rw [← k4]
  exact mean_in k0 k1 k2 (by omega) h0 h1 h2
theorem cAt_in {t : Tr} {px py x y z lo hi : Int} (h : t.cov px py = true) (hn0 : 1 ≤ t.n0) (hn1 : 1 ≤ t.n1) (hn2 : 1 ≤ t.n2) (h0 : lo ≤ x ∧ x ≤ hi) (h1 : lo ≤ y ∧ y ≤ hi) (h2 : lo ≤ z ∧ z ≤ hi) : lo ≤ t.cAt px py x y z ∧ t.cAt px py x y z ≤ hi := by
  obtain ⟨k0, k1, k2, k3⟩ := all_pos h hn0 hn1 hn2
  unfold Tr.cAt
  unfold Tr.all at k3 ⊢
  exact mean_in k0 k1 k2 k3 h0 h1 h2
/-- of one depth, of one colour: it is everywhere -/
theorem dAt_flat {t : Tr} {px py d : Int} (h : t.cov px py = true) (h0 : t.d0 = d) (h1 : t.d1 = d) (h2 : t.d2 = d) : t.dAt px py = d := by
  have := dAt_in (t := t) (px := px) (py := py) (lo := d) (hi := d) h (by omega) (by omega) (by omega)
  omega
theorem cAt_flat {t : Tr} {px py c : Int} (h : t.cov px py = true) (hn0 : 1 ≤ t.n0) (hn1 : 1 ≤ t.n1) (hn2 : 1 ≤ t.n2) : t.cAt px py c c c = c := by
  have := cAt_in (t := t) (px := px) (py := py) (x := c) (y := c) (z := c) (lo := c) (hi := c) h hn0 hn1 hn2 (by omega) (by omega) (by omega)
  omega
/-- the next corner first -/
def Tr.turn (t : Tr) : Tr := ⟨t.bx, t.by', t.cx, t.cy, t.ax, t.ay, t.d1, t.d2, t.d0, t.n1, t.n2, t.n0, t.b0, t.b1, t.b2, t.b3, t.c0, t.c1, t.c2, t.c3, t.a0, t.a1, t.a2, t.a3⟩
theorem turn_area (t : Tr) : t.turn.area = t.area := Edge.side_turn _ _ _ _ _ _
theorem turn_rng {t : Tr} : t.turn.rng ↔ t.rng := by
  unfold Tr.rng Tr.turn
  constructor
  · rintro ⟨⟨p1, p2, p3, p4, p5, p6⟩, ⟨q1, q2, q3⟩, ⟨r1, r2, r3⟩, s1, s2, s3⟩
    exact ⟨⟨p5, p6, p1, p2, p3, p4⟩, ⟨q3, q1, q2⟩, ⟨r3, r1, r2⟩, s3, s1, s2⟩
  · rintro ⟨⟨p1, p2, p3, p4, p5, p6⟩, ⟨q1, q2, q3⟩, ⟨r1, r2, r3⟩, s1, s2, s3⟩
    exact ⟨⟨p3, p4, p5, p6, p1, p2⟩, ⟨q2, q3, q1⟩, ⟨r2, r3, r1⟩, s2, s3, s1⟩
theorem turn_chk (t : Tr) : chkT t.turn = chkT t := by
  unfold chkT
  rw [turn_area]
  by_cases h : t.rng
  · rw [if_pos h, if_pos (turn_rng.2 h)]
  · rw [if_neg h, if_neg (fun g => h (turn_rng.1 g))]
theorem turn_cov (t : Tr) (px py : Int) : t.turn.cov px py = t.cov px py := by
  unfold Tr.cov Tr.turn
  rw [Bool.eq_iff_iff, covB_iff, covB_iff]
  exact Edge.cov_turn
theorem turn_all (t : Tr) (px py : Int) : t.turn.all px py = t.all px py := by
  show t.w1 px py * t.n1 + t.w2 px py * t.n2 + t.w0 px py * t.n0 = t.w0 px py * t.n0 + t.w1 px py * t.n1 + t.w2 px py * t.n2
  omega
theorem turn_dAt (t : Tr) (px py : Int) : t.turn.dAt px py = t.dAt px py := by
  unfold Tr.dAt
  rw [turn_area]
  show (t.w1 px py * t.d1 + t.w2 px py * t.d2 + t.w0 px py * t.d0) / _ = _
  congr 1
  omega
theorem turn_cAt (t : Tr) (px py x y z : Int) : t.turn.cAt px py y z x = t.cAt px py x y z := by
  unfold Tr.cAt
  rw [turn_all]
  show (t.w1 px py * t.n1 * y + t.w2 px py * t.n2 * z + t.w0 px py * t.n0 * x) / _ = _
  congr 1
  omega
theorem turn_at (t : Tr) (x y : Int) : atF t.turn x y = atF t x y := by
  unfold atF
  rw [turn_chk, turn_cov, turn_dAt]
  by_cases h : chkT t = 0 ∧ t.cov (midI x) (midI y) = true
  · rw [if_pos h, if_pos h]
    congr 1
    · exact turn_cAt t _ _ _ _ _
    · exact turn_cAt t _ _ _ _ _
    · exact turn_cAt t _ _ _ _ _
    · exact turn_cAt t _ _ _ _ _
  · rw [if_neg h, if_neg h]
/-- a result of Make may be -/
theorem nearF_bd {l f : Int} (hl : 1 ≤ l ∧ l ≤ farB f) : 1 ≤ nearF l f ∧ nearF l f ≤ 1024 := by
  have hf : 1 ≤ farB f := by unfold farB; omega
  have : 1024 * l / farB f ≤ 1024 := Int.ediv_le_of_le_mul (by omega) (Int.mul_le_mul_of_nonneg_left hl.2 (by omega))
  unfold nearF
  omega
theorem least_bd (a b c : Cn) : 1 ≤ leastF a b c ∧ leastF a b c ≤ farB a.f ∧ leastF a b c ≤ farB b.f ∧ leastF a b c ≤ farB c.f := by
  unfold leastF farB
  omega
theorem triF_rng (a b c : Cn) : (triF a b c).rng := by
  obtain ⟨l0, l1, l2, l3⟩ := least_bd a b c
  exact ⟨⟨nr_bd _, nr_bd _, nr_bd _, nr_bd _, nr_bd _, nr_bd _⟩, ⟨bdI_bd _ (by omega), bdI_bd _ (by omega), bdI_bd _ (by omega)⟩, ⟨nearF_bd ⟨l0, l1⟩, nearF_bd ⟨l0, l2⟩, nearF_bd ⟨l0, l3⟩⟩,
    ⟨limC_bd _, limC_bd _, limC_bd _, limC_bd _⟩, ⟨limC_bd _, limC_bd _, limC_bd _, limC_bd _⟩, ⟨limC_bd _, limC_bd _, limC_bd _, limC_bd _⟩⟩
theorem triF_area (a b c : Cn) : (triF a b c).area = areaC a b c := sd_nr _ _ _ _ _ _
theorem areaC_swap (a b c : Cn) : areaC a c b = - areaC a b c := Edge.side_swap _ _ _ _ _ _
theorem make_chk {a b c : Cn} {cull : Int} {t : Tr} (h : makeF a b c cull = some t) : chkT t = 0 := by
  unfold makeF at h
  split at h
  · cases h
  · rename_i ho
    have hz : areaC a b c ≠ 0 := fun e => ho (.inl e)
    split at h
    · cases h
      unfold chkT
      rw [if_pos (triF_rng _ _ _), triF_area, areaC_swap, if_neg (by omega)]
    · cases h
      unfold chkT
      rw [if_pos (triF_rng _ _ _), triF_area, if_neg (by omega)]
/-- the other way round, without culling, it is the same -/
theorem triF_swap (a b c : Cn) : leastF a c b = leastF a b c := by unfold leastF; omega
theorem make_eq0 (a b c : Cn) : makeF a b c 0 = if areaC a b c = 0 then none else if areaC a b c < 0 then some (triF a c b) else some (triF a b c) := by
  unfold makeF
  by_cases h : areaC a b c = 0
  · rw [if_pos (show outF _ _ from .inl h), if_pos h]
  · rw [if_neg (show ¬ outF _ _ by unfold outF; omega), if_neg h]
theorem make_swap (a b c : Cn) : makeF a c b 0 = makeF a b c 0 := by
  rw [make_eq0, make_eq0, areaC_swap a b c]
  generalize areaC a b c = s
  by_cases h0 : s = 0
  · simp [h0]
  · by_cases h1 : s < 0
    · simp [h0, h1, show ¬ 0 < s by omega]
    · simp [h0, h1, show 0 < s by omega]
theorem make_none (a b c : Cn) : makeF a b c 0 = none ↔ areaC a b c = 0 := by
  rw [make_eq0]
  by_cases h : areaC a b c = 0
  · simp [h]
  · by_cases h1 : areaC a b c < 0
    · simp [h, h1]
    · simp [h, h1]
end Go.Proofs.Ytglehnmkdapnpaa

namespace Go.Proofs.Ytglehnmkdapnpaa
open Go.RowKit
set_option linter.unusedVariables false
def Tr.in64 (t : Tr) : Prop := I64 t.ax ∧ I64 t.ay ∧ I64 t.bx ∧ I64 t.by' ∧ I64 t.cx ∧ I64 t.cy ∧ I64 t.d0 ∧ I64 t.d1 ∧ I64 t.d2 ∧ I64 t.n0 ∧ I64 t.n1 ∧ I64 t.n2 ∧ I64 t.a0 ∧ I64 t.a1 ∧ I64 t.a2 ∧ I64 t.a3 ∧ I64 t.b0 ∧ I64 t.b1 ∧ I64 t.b2 ∧ I64 t.b3 ∧ I64 t.c0 ∧ I64 t.c1 ∧ I64 t.c2 ∧ I64 t.c3
def Cn.in64 (c : Cn) : Prop := I64 c.x ∧ I64 c.y ∧ I64 c.d ∧ I64 c.f ∧ I64 c.c0 ∧ I64 c.c1 ∧ I64 c.c2 ∧ I64 c.c3
theorem In.i64 {lo hi n : Int} (h : In lo hi n) (h0 : -9223372036854775808 ≤ lo) (h1 : hi ≤ 9223372036854775807) : I64 n := by unfold I64; unfold In at h; omega
theorem rng_in64 {t : Tr} (h : t.rng) : t.in64 := by
  obtain ⟨⟨p1, p2, p3, p4, p5, p6⟩, ⟨q1, q2, q3⟩, ⟨r1, r2, r3⟩, ⟨s1, s2, s3, s4⟩, ⟨u1, u2, u3, u4⟩, ⟨v1, v2, v3, v4⟩⟩ := h
  refine ⟨p1.i64 (by omega) (by omega), p2.i64 (by omega) (by omega), p3.i64 (by omega) (by omega), p4.i64 (by omega) (by omega), p5.i64 (by omega) (by omega), p6.i64 (by omega) (by omega), q1.i64 (by omega) (by omega), q2.i64 (by omega) (by omega), q3.i64 (by omega) (by omega), r1.i64 (by omega) (by omega), r2.i64 (by omega) (by omega), r3.i64 (by omega) (by omega), s1.i64 (by omega) (by omega), s2.i64 (by omega) (by omega), s3.i64 (by omega) (by omega), s4.i64 (by omega) (by omega), u1.i64 (by omega) (by omega), u2.i64 (by omega) (by omega), u3.i64 (by omega) (by omega), u4.i64 (by omega) (by omega), v1.i64 (by omega) (by omega), v2.i64 (by omega) (by omega), v3.i64 (by omega) (by omega), v4.i64 (by omega) (by omega)⟩
theorem ofF_in64 (v : V8) (hv : v.in64) (w h : Int) : (ofF v w h).in64 := by
  refine ⟨?_, ?_, ?_, ?_, ?_, ?_, ?_, ?_⟩
  · have := nr_bd (8 * bdI w 1 64 + 8 * bdI w 1 64 * lim4 v.p0 / max v.p3 256)
    unfold I64 ofF; dsimp only; omega
  · have := nr_bd (8 * bdI h 1 64 - 8 * bdI h 1 64 * lim4 v.p1 / max v.p3 256)
    unfold I64 ofF; dsimp only; omega
  · have := bdI_bd (65535 * lim4 v.p2 / max v.p3 256) (lo := 0) (hi := 65535) (by omega)
    unfold I64 ofF; dsimp only; omega
  · have := hv.2.2.2.1
    unfold I64 at this ⊢; unfold ofF; dsimp only; omega
  · have := limC_bd v.c0
    unfold I64 ofF; dsimp only; omega
  · have := limC_bd v.c1
    unfold I64 ofF; dsimp only; omega
  · have := limC_bd v.c2
    unfold I64 ofF; dsimp only; omega
  · have := limC_bd v.c3
    unfold I64 ofF; dsimp only; omega
theorem tm_bd {n m : Int} (h : 0 ≤ n) (hm : 0 < m) : 0 ≤ n.tmod m ∧ n.tmod m < m := by
  rw [Int.tmod_eq_emod_of_nonneg h]
  exact ⟨Int.emod_nonneg _ (by omega), Int.emod_lt_of_pos _ hm⟩
theorem chk_rng {t : Tr} (h : chkT t = 0) : t.rng ∧ 0 < t.area := by
  unfold chkT at h
  split at h
  · split at h
    · cases h
    · exact ⟨by assumption, by omega⟩
  · cases h
end Go.Proofs.Ytglehnmkdapnpaa

