/-
  DERIVED. Plain facts on edge functions (layer 3): sides, who owns a way, what is covered; no Go in sight. A point on a way counts as one a little to its right and, less, below ('sh'). · Layer 3 (edge) as functions on whole numbers, coordinates limited: what the calls return. · The document's own answers for layer 3 (azulejoref01.near, Side, Covers). · THE WALKS of layer 3 (edge). · THE WALKS of layer 3 (edge): Box. · THE WALKS of layer 3 (edge): Weights.
-/
import Derived.Test.YtglehnmkdapnpaaPkFix
import Derived.Deep.RegionHeld3
namespace Go.Proofs.Ytglehnmkdapnpaa.Edge
def side (ax ay bx by' cx cy : Int) : Int := (bx - ax) * (cy - ay) - (by' - ay) * (cx - ax)
/-- the way from a to b owns the points on it -/
def own (ax ay bx by' : Int) : Prop := by' < ay ∨ (by' = ay ∧ ax < bx)
def wOk (ax ay bx by' px py : Int) : Prop := 0 < side ax ay bx by' px py ∨ (side ax ay bx by' px py = 0 ∧ own ax ay bx by')
def cov (ax ay bx by' cx cy px py : Int) : Prop := 0 < side ax ay bx by' cx cy ∧ wOk bx by' cx cy px py ∧ wOk cx cy ax ay px py ∧ wOk ax ay bx by' px py
/-- of a point a little to the right and, less, below -/
def sh (ax ay bx by' px py : Int) : Int := 16777216 * side ax ay bx by' px py + 4096 * (ay - by') + (bx - ax)
def near (x y : Int) : Prop := -1023 ≤ x - y ∧ x - y ≤ 1023
theorem near.symm {x y : Int} (h : near x y) : near y x := by unfold near at *; omega

theorem wOk_iff {ax ay bx by' px py : Int} (h1 : near ax bx) (h2 : near ay by') : wOk ax ay bx by' px py ↔ 0 < sh ax ay bx by' px py := by
  unfold wOk own sh near at *
  generalize side ax ay bx by' px py = s at *
  omega
theorem sh_ne {ax ay bx by' px py : Int} (h1 : near ax bx) (h2 : near ay by') (h : ¬ (ax = bx ∧ ay = by')) : sh ax ay bx by' px py ≠ 0 := by
  unfold sh near at *
  generalize side ax ay bx by' px py = s at *
  omega
theorem sh_anti (ax ay bx by' px py : Int) : sh bx by' ax ay px py = - sh ax ay bx by' px py := by
  unfold sh side; grind
theorem sh_bal (ax ay bx by' cx cy qx qy px py : Int) : side bx by' cx cy qx qy * sh qx qy ax ay px py + side cx cy ax ay qx qy * sh qx qy bx by' px py + side ax ay bx by' qx qy * sh qx qy cx cy px py = 0 := by
  unfold sh side; grind
theorem sh_in (ax ay bx by' cx cy qx qy px py : Int) :
    side ax ay bx by' qx qy * sh bx by' cx cy px py = sh bx by' qx qy px py * side ax ay bx by' cx cy + sh ax ay bx by' px py * side bx by' cx cy qx qy := by
  unfold sh side; grind
theorem sh_in2 (ax ay bx by' cx cy qx qy px py : Int) :
    side ax ay bx by' qx qy * sh cx cy ax ay px py = sh qx qy ax ay px py * side ax ay bx by' cx cy + sh ax ay bx by' px py * side cx cy ax ay qx qy := by
  unfold sh side; grind
theorem side_anti (ax ay bx by' px py : Int) : side bx by' ax ay px py = - side ax ay bx by' px py := by
  unfold side; grind
theorem side_turn (ax ay bx by' cx cy : Int) : side bx by' cx cy ax ay = side ax ay bx by' cx cy := by
  unfold side; grind
theorem side_swap (ax ay bx by' cx cy : Int) : side ax ay cx cy bx by' = - side ax ay bx by' cx cy := by
  unfold side; grind
theorem side_sum (ax ay bx by' cx cy px py : Int) : side bx by' cx cy px py + side cx cy ax ay px py + side ax ay bx by' px py = side ax ay bx by' cx cy := by
  unfold side; grind
theorem side_self1 (ax ay bx by' : Int) : side ax ay bx by' ax ay = 0 := by unfold side; grind
theorem side_self2 (ax ay bx by' : Int) : side ax ay bx by' bx by' = 0 := by unfold side; grind
theorem bary_x (ax ay bx by' cx cy px py : Int) : side bx by' cx cy px py * (ax - px) + side cx cy ax ay px py * (bx - px) + side ax ay bx by' px py * (cx - px) = 0 := by
  unfold side; grind
theorem bary_y (ax ay bx by' cx cy px py : Int) : side bx by' cx cy px py * (ay - py) + side cx cy ax ay px py * (by' - py) + side ax ay bx by' px py * (cy - py) = 0 := by
  unfold side; grind
theorem side_move (ax ay bx by' cx cy dx dy : Int) : side (ax + dx) (ay + dy) (bx + dx) (by' + dy) (cx + dx) (cy + dy) = side ax ay bx by' cx cy := by
  unfold side; grind
theorem side_twice (ax ay bx by' cx cy : Int) : side (2 * ax) (2 * ay) (2 * bx) (2 * by') (2 * cx) (2 * cy) = 4 * side ax ay bx by' cx cy := by
  unfold side; grind

/-- three numbers that come to 0 with weights above 0 are neither all above 0 nor all below -/
theorem bal_signs {la lb lc ea eb ec : Int} (h1 : 0 < la) (h2 : 0 < lb) (h3 : 0 < lc) (h : la * ea + lb * eb + lc * ec = 0) : ¬ (0 < ea ∧ 0 < eb ∧ 0 < ec) ∧ ¬ (ea < 0 ∧ eb < 0 ∧ ec < 0) := by
  constructor
  · rintro ⟨a, b, c⟩
    have := Int.mul_pos h1 a
    have := Int.mul_pos h2 b
    have := Int.mul_pos h3 c
    omega
  · rintro ⟨a, b, c⟩
    have := Int.mul_neg_of_pos_of_neg h1 a
    have := Int.mul_neg_of_pos_of_neg h2 b
    have := Int.mul_neg_of_pos_of_neg h3 c
    omega
theorem pos_of_mul {l s x y u v : Int} (hl : 0 < l) (h : l * s = x * y + u * v) (hx : 0 < x) (hy : 0 < y) (hu : 0 < u) (hv : 0 < v) : 0 < s := by
  have h1 := Int.mul_pos hx hy
  have h2 := Int.mul_pos hu hv
  have h3 : 0 < l * s := by omega
  exact Int.pos_of_mul_pos_right h3 (by omega)

def Near3 (ax ay bx by' : Int) : Prop := near ax bx ∧ near ay by'

theorem fans {ax ay bx by' cx cy qx qy px py : Int} (nab : Near3 ax ay bx by') (nbc : Near3 bx by' cx cy) (nca : Near3 cx cy ax ay) (nqa : Near3 qx qy ax ay) (nqb : Near3 qx qy bx by') (nqc : Near3 qx qy cx cy)
    (ha : 0 < side bx by' cx cy qx qy) (hb : 0 < side cx cy ax ay qx qy) (hc : 0 < side ax ay bx by' qx qy) :
    ((cov ax ay bx by' qx qy px py ∨ cov bx by' cx cy qx qy px py ∨ cov cx cy ax ay qx qy px py) ↔ cov ax ay bx by' cx cy px py) ∧
    ¬ (cov ax ay bx by' qx qy px py ∧ cov bx by' cx cy qx qy px py) ∧ ¬ (cov bx by' cx cy qx qy px py ∧ cov cx cy ax ay qx qy px py) ∧ ¬ (cov cx cy ax ay qx qy px py ∧ cov ax ay bx by' qx qy px py) := by
  have hA : 0 < side ax ay bx by' cx cy := by have := side_sum ax ay bx by' cx cy qx qy; omega
  have hA2 : 0 < side bx by' cx cy ax ay := by rw [side_turn]; exact hA
  have hA3 : 0 < side cx cy ax ay bx by' := by rw [side_turn]; exact hA2
  have ea0 : sh qx qy ax ay px py ≠ 0 := sh_ne nqa.1 nqa.2 (by rintro ⟨rfl, rfl⟩; rw [side_self1] at hc; omega)
  have eb0 : sh qx qy bx by' px py ≠ 0 := sh_ne nqb.1 nqb.2 (by rintro ⟨rfl, rfl⟩; rw [side_self1] at ha; omega)
  have ec0 : sh qx qy cx cy px py ≠ 0 := sh_ne nqc.1 nqc.2 (by rintro ⟨rfl, rfl⟩; rw [side_self1] at hb; omega)
  have hbal := bal_signs ha hb hc (sh_bal ax ay bx by' cx cy qx qy px py)
  have c1 : cov ax ay bx by' qx qy px py ↔ 0 < - sh qx qy bx by' px py ∧ 0 < sh qx qy ax ay px py ∧ 0 < sh ax ay bx by' px py := by
    unfold cov
    rw [wOk_iff nqb.1.symm nqb.2.symm, wOk_iff nqa.1 nqa.2, wOk_iff nab.1 nab.2, sh_anti qx qy bx by']
    exact ⟨fun h => h.2, fun h => ⟨hc, h⟩⟩
  have c2 : cov bx by' cx cy qx qy px py ↔ 0 < - sh qx qy cx cy px py ∧ 0 < sh qx qy bx by' px py ∧ 0 < sh bx by' cx cy px py := by
    unfold cov
    rw [wOk_iff nqc.1.symm nqc.2.symm, wOk_iff nqb.1 nqb.2, wOk_iff nbc.1 nbc.2, sh_anti qx qy cx cy]
    exact ⟨fun h => h.2, fun h => ⟨ha, h⟩⟩
  have c3 : cov cx cy ax ay qx qy px py ↔ 0 < - sh qx qy ax ay px py ∧ 0 < sh qx qy cx cy px py ∧ 0 < sh cx cy ax ay px py := by
    unfold cov
    rw [wOk_iff nqa.1.symm nqa.2.symm, wOk_iff nqc.1 nqc.2, wOk_iff nca.1 nca.2, sh_anti qx qy ax ay]
    exact ⟨fun h => h.2, fun h => ⟨hb, h⟩⟩
  have c0 : cov ax ay bx by' cx cy px py ↔ 0 < sh bx by' cx cy px py ∧ 0 < sh cx cy ax ay px py ∧ 0 < sh ax ay bx by' px py := by
    unfold cov
    rw [wOk_iff nbc.1 nbc.2, wOk_iff nca.1 nca.2, wOk_iff nab.1 nab.2]
    exact ⟨fun h => h.2, fun h => ⟨hA, h⟩⟩
  have d1 : cov ax ay bx by' qx qy px py → cov ax ay bx by' cx cy px py := fun h => by
    obtain ⟨h1, h2, h3⟩ := c1.1 h
    have i1 := sh_in ax ay bx by' cx cy qx qy px py
    have i2 := sh_in2 ax ay bx by' cx cy qx qy px py
    rw [sh_anti qx qy bx by'] at i1
    exact c0.2 ⟨pos_of_mul hc i1 h1 hA h3 ha, pos_of_mul hc i2 h2 hA h3 hb, h3⟩
  have d2 : cov bx by' cx cy qx qy px py → cov ax ay bx by' cx cy px py := fun h => by
    obtain ⟨h1, h2, h3⟩ := c2.1 h
    have i1 := sh_in bx by' cx cy ax ay qx qy px py
    have i2 := sh_in2 bx by' cx cy ax ay qx qy px py
    rw [sh_anti qx qy cx cy] at i1
    exact c0.2 ⟨h3, pos_of_mul ha i1 h1 hA2 h3 hb, pos_of_mul ha i2 h2 hA2 h3 hc⟩
  have d3 : cov cx cy ax ay qx qy px py → cov ax ay bx by' cx cy px py := fun h => by
    obtain ⟨h1, h2, h3⟩ := c3.1 h
    have i1 := sh_in cx cy ax ay bx by' qx qy px py
    have i2 := sh_in2 cx cy ax ay bx by' qx qy px py
    rw [sh_anti qx qy ax ay] at i1
    exact c0.2 ⟨pos_of_mul hb i2 h2 hA3 h3 ha, h3, pos_of_mul hb i1 h1 hA3 h3 hc⟩
  refine ⟨⟨fun h => h.elim d1 fun h => h.elim d2 d3, fun h => ?_⟩, ?_, ?_, ?_⟩
  · rw [c1, c2, c3]
    have := c0.1 h
    omega
  all_goals
    rintro ⟨h, h'⟩
    first | rw [c1] at h | rw [c2] at h | rw [c3] at h
    first | rw [c1] at h' | rw [c2] at h' | rw [c3] at h'
    omega

/-- two triangles on both sides of one way -/
theorem shared_not_both {ax ay bx by' cx cy dx dy px py : Int} (n : Near3 ax ay bx by') : ¬ (cov ax ay bx by' cx cy px py ∧ cov bx by' ax ay dx dy px py) := by
  rintro ⟨h, h'⟩
  have h1 := (wOk_iff n.1 n.2).1 h.2.2.2
  have h2 := (wOk_iff n.1.symm n.2.symm).1 h'.2.2.2
  rw [sh_anti ax ay bx by'] at h2
  omega
theorem own_either {ax ay bx by' : Int} (h : ¬ (ax = bx ∧ ay = by')) : (own ax ay bx by' ∨ own bx by' ax ay) ∧ ¬ (own ax ay bx by' ∧ own bx by' ax ay) := by
  unfold own; omega
theorem shared_one {ax ay bx by' cx cy dx dy px py : Int} (h1 : 0 < side ax ay bx by' cx cy) (h2 : 0 < side bx by' ax ay dx dy) (h0 : side ax ay bx by' px py = 0)
    (w0 : 0 < side bx by' cx cy px py) (w1 : 0 < side cx cy ax ay px py) (v0 : 0 < side ax ay dx dy px py) (v1 : 0 < side dx dy bx by' px py) : cov ax ay bx by' cx cy px py ∨ cov bx by' ax ay dx dy px py := by
  have hne : ¬ (ax = bx ∧ ay = by') := by
    rintro ⟨rfl, rfl⟩
    have : side ax ay ax ay cx cy = 0 := by unfold side; grind
    omega
  have h0' : side bx by' ax ay px py = 0 := by rw [side_anti]; omega
  rcases (own_either hne).1 with h | h
  · exact .inl ⟨h1, .inl w0, .inl w1, .inr ⟨h0, h⟩⟩
  · exact .inr ⟨h2, .inl v0, .inl v1, .inr ⟨h0', h⟩⟩

/-- whichever point is the first -/
theorem cov_turn {ax ay bx by' cx cy px py : Int} : cov bx by' cx cy ax ay px py ↔ cov ax ay bx by' cx cy px py := by
  unfold cov; rw [side_turn]
  exact ⟨fun h => ⟨h.1, h.2.2.2, h.2.1, h.2.2.1⟩, fun h => ⟨h.1, h.2.2.1, h.2.2.2, h.2.1⟩⟩
theorem cov_area {ax ay bx by' cx cy px py : Int} (h : cov ax ay bx by' cx cy px py) : 0 < side ax ay bx by' cx cy := h.1

/-- all moved by the same; all made twice as great -/
theorem own_move (ax ay bx by' dx dy : Int) : own (ax + dx) (ay + dy) (bx + dx) (by' + dy) ↔ own ax ay bx by' := by unfold own; omega
theorem own_twice (ax ay bx by' : Int) : own (2 * ax) (2 * ay) (2 * bx) (2 * by') ↔ own ax ay bx by' := by unfold own; omega
theorem wOk_move (ax ay bx by' px py dx dy : Int) : wOk (ax + dx) (ay + dy) (bx + dx) (by' + dy) (px + dx) (py + dy) ↔ wOk ax ay bx by' px py := by
  unfold wOk; rw [side_move, own_move]
theorem wOk_twice (ax ay bx by' px py : Int) : wOk (2 * ax) (2 * ay) (2 * bx) (2 * by') (2 * px) (2 * py) ↔ wOk ax ay bx by' px py := by
  unfold wOk; rw [side_twice, own_twice]
  constructor
  · rintro (h | ⟨h, h'⟩)
    · exact .inl (by omega)
    · exact .inr ⟨by omega, h'⟩
  · rintro (h | ⟨h, h'⟩)
    · exact .inl (by omega)
    · exact .inr ⟨by omega, h'⟩
theorem cov_move (ax ay bx by' cx cy px py dx dy : Int) : cov (ax + dx) (ay + dy) (bx + dx) (by' + dy) (cx + dx) (cy + dy) (px + dx) (py + dy) ↔ cov ax ay bx by' cx cy px py := by
  unfold cov; rw [side_move, wOk_move, wOk_move, wOk_move]
theorem cov_twice (ax ay bx by' cx cy px py : Int) : cov (2 * ax) (2 * ay) (2 * bx) (2 * by') (2 * cx) (2 * cy) (2 * px) (2 * py) ↔ cov ax ay bx by' cx cy px py := by
  unfold cov; rw [side_twice, wOk_twice, wOk_twice, wOk_twice]
  constructor <;> (rintro ⟨h, h'⟩; exact ⟨by omega, h'⟩)

/-- a weighted mean lies between -/
theorem mean_le {u v w x y z p : Int} (hu : 0 ≤ u) (hv : 0 ≤ v) (hw : 0 ≤ w) (hs : 0 < u + v + w) (h : u * (x - p) + v * (y - p) + w * (z - p) = 0) : (x ≤ p ∨ y ≤ p ∨ z ≤ p) ∧ (p ≤ x ∨ p ≤ y ∨ p ≤ z) := by
  constructor
  · by_cases hx : x ≤ p
    · exact .inl hx
    · by_cases hy : y ≤ p
      · exact .inr (.inl hy)
      · by_cases hz : z ≤ p
        · exact .inr (.inr hz)
        · exfalso
          have a1 := Int.mul_nonneg hu (show 0 ≤ x - p - 1 by omega)
          have a2 := Int.mul_nonneg hv (show 0 ≤ y - p - 1 by omega)
          have a3 := Int.mul_nonneg hw (show 0 ≤ z - p - 1 by omega)
          rw [Int.mul_sub, Int.mul_one] at a1 a2 a3
          omega
  · by_cases hx : p ≤ x
    · exact .inl hx
    · by_cases hy : p ≤ y
      · exact .inr (.inl hy)
      · by_cases hz : p ≤ z
        · exact .inr (.inr hz)
        · exfalso
          have a1 := Int.mul_nonneg hu (show 0 ≤ -(x - p) - 1 by omega)
          have a2 := Int.mul_nonneg hv (show 0 ≤ -(y - p) - 1 by omega)
          have a3 := Int.mul_nonneg hw (show 0 ≤ -(z - p) - 1 by omega)
          rw [Int.mul_sub, Int.mul_neg, Int.mul_one] at a1 a2 a3
          omega
theorem wOk_nonneg {ax ay bx by' px py : Int} (h : wOk ax ay bx by' px py) : 0 ≤ side ax ay bx by' px py := by unfold wOk at h; omega
theorem cov_box {ax ay bx by' cx cy px py : Int} (h : cov ax ay bx by' cx cy px py) :
    ((ax ≤ px ∨ bx ≤ px ∨ cx ≤ px) ∧ (px ≤ ax ∨ px ≤ bx ∨ px ≤ cx)) ∧ ((ay ≤ py ∨ by' ≤ py ∨ cy ≤ py) ∧ (py ≤ ay ∨ py ≤ by' ∨ py ≤ cy)) := by
  obtain ⟨h0, h1, h2, h3⟩ := h
  have s := side_sum ax ay bx by' cx cy px py
  exact ⟨mean_le (wOk_nonneg h1) (wOk_nonneg h2) (wOk_nonneg h3) (by omega) (bary_x ax ay bx by' cx cy px py), mean_le (wOk_nonneg h1) (wOk_nonneg h2) (wOk_nonneg h3) (by omega) (bary_y ax ay bx by' cx cy px py)⟩
theorem cov_corner (ax ay bx by' cx cy : Int) : cov ax ay bx by' cx cy ax ay ↔ 0 < side ax ay bx by' cx cy ∧ own ax ay bx by' ∧ own cx cy ax ay := by
  have e := side_turn ax ay bx by' cx cy
  unfold cov wOk
  rw [side_self1, side_self2, e]
  constructor
  · rintro ⟨h, _, h2, h3⟩
    exact ⟨h, (h3.resolve_left (by omega)).2, (h2.resolve_left (by omega)).2⟩
  · rintro ⟨h, h2, h3⟩
    exact ⟨h, .inl h, .inr ⟨rfl, h3⟩, .inr ⟨rfl, h2⟩⟩
end Go.Proofs.Ytglehnmkdapnpaa.Edge

namespace Go.Proofs.Ytglehnmkdapnpaa

/-- within a point's bounds -/
def nr (x : Int) : Int := max (-16384) (min x 16384)
theorem nr_bd (x : Int) : -16384 ≤ nr x ∧ nr x ≤ 16384 := by unfold nr; omega
theorem nr_id {x : Int} (h1 : -16384 ≤ x) (h2 : x ≤ 16384) : nr x = x := by unfold nr; omega
def sd (ax ay bx by' cx cy : Int) : Int := Edge.side (nr ax) (nr ay) (nr bx) (nr by') (nr cx) (nr cy)
def ownB (ax ay bx by' : Int) : Bool := decide (nr by' < nr ay) || (decide (nr by' = nr ay) && decide (nr ax < nr bx))
def wB (ax ay bx by' px py : Int) : Bool := decide (0 < sd ax ay bx by' px py) || (decide (sd ax ay bx by' px py = 0) && ownB ax ay bx by')
def covB (ax ay bx by' cx cy px py : Int) : Bool := decide (0 < sd ax ay bx by' cx cy) && (wB bx by' cx cy px py && (wB cx cy ax ay px py && wB ax ay bx by' px py))

theorem ownB_iff (ax ay bx by' : Int) : ownB ax ay bx by' = true ↔ Edge.own (nr ax) (nr ay) (nr bx) (nr by') := by
  unfold ownB Edge.own; simp
theorem wB_iff (ax ay bx by' px py : Int) : wB ax ay bx by' px py = true ↔ Edge.wOk (nr ax) (nr ay) (nr bx) (nr by') (nr px) (nr py) := by
  unfold wB Edge.wOk
  rw [Bool.or_eq_true, Bool.and_eq_true, ownB_iff, decide_eq_true_iff, decide_eq_true_iff]
  rfl
theorem covB_iff (ax ay bx by' cx cy px py : Int) : covB ax ay bx by' cx cy px py = true ↔ Edge.cov (nr ax) (nr ay) (nr bx) (nr by') (nr cx) (nr cy) (nr px) (nr py) := by
  unfold covB Edge.cov
  rw [Bool.and_eq_true, Bool.and_eq_true, Bool.and_eq_true, wB_iff, wB_iff, wB_iff, decide_eq_true_iff]
  rfl

/-- the product of two differences -/
theorem diff_mul {a b c d : Int} (ha : -16384 ≤ a ∧ a ≤ 16384) (hb : -16384 ≤ b ∧ b ≤ 16384) (hc : -16384 ≤ c ∧ c ≤ 16384) (hd : -16384 ≤ d ∧ d ≤ 16384) : -1073741824 ≤ (b - a) * (d - c) ∧ (b - a) * (d - c) ≤ 1073741824 := by
  have h : ((b - a) * (d - c)).natAbs ≤ 32768 * 32768 := by
    rw [Int.natAbs_mul]; exact Nat.mul_le_mul (by omega) (by omega)
  omega
theorem sd_bd (ax ay bx by' cx cy : Int) : -2147483648 ≤ sd ax ay bx by' cx cy ∧ sd ax ay bx by' cx cy ≤ 2147483648 := by
  have h1 := diff_mul (nr_bd ax) (nr_bd bx) (nr_bd ay) (nr_bd cy)
  have h2 := diff_mul (nr_bd ay) (nr_bd by') (nr_bd ax) (nr_bd cx)
  unfold sd Edge.side
  omega

end Go.Proofs.Ytglehnmkdapnpaa

namespace Go.Proofs.Ytglehnmkdapnpaa
open Go.RowKit
set_option linter.unusedVariables false

set_option maxHeartbeats 400000 in
theorem rnear_any (a : Int) (w : World) (h1 : -9223372036854775808 ≤ a) (h2 : a ≤ 9223372036854775807) :
    Calls Try.prog 51 #[.int .i64 a] w fun e w' => e = .returned (.int .i64 (nr a)) ∧ w = w' := by
  go_enter Try.func51, Try.ntmps51
  go_wp2
  all_goals (go_ret; exact ⟨ret_int (by unfold nr; omega), rfl⟩)

set_option maxHeartbeats 800000 in
theorem rside_any (ax ay bx by' cx cy : Int) (hax : -9223372036854775808 ≤ ax ∧ ax ≤ 9223372036854775807) (hay : -9223372036854775808 ≤ ay ∧ ay ≤ 9223372036854775807) (hbx : -9223372036854775808 ≤ bx ∧ bx ≤ 9223372036854775807) (hby' : -9223372036854775808 ≤ by' ∧ by' ≤ 9223372036854775807) (hcx : -9223372036854775808 ≤ cx ∧ cx ≤ 9223372036854775807) (hcy : -9223372036854775808 ≤ cy ∧ cy ≤ 9223372036854775807) (w : World) :
    Calls Try.prog 28 #[.agg #[.int .i64 ax, .int .i64 ay], .agg #[.int .i64 bx, .int .i64 by'], .agg #[.int .i64 cx, .int .i64 cy]] w fun e w' => e = .returned (.int .i64 (sd ax ay bx by' cx cy)) ∧ Ext w w' := by
  have nax := nr_bd ax
  have nay := nr_bd ay
  have nbx := nr_bd bx
  have nby' := nr_bd by'
  have ncx := nr_bd cx
  have ncy := nr_bd cy
  have m1 := diff_mul nax nbx nay ncy
  have m2 := diff_mul nay nby' nax ncx
  go_enter Try.func28, Try.ntmps28
  go_wp2
  have A1 := ((Blk.new w #[.int .i64 ax, .int .i64 ay] 37).alloc (.cells #[.int .i64 bx, .int .i64 by'] 37)).alloc (.cells #[.int .i64 cx, .int .i64 cy] 37)
  have B1 : Blk (((w.alloc (.cells #[.int .i64 ax, .int .i64 ay] 37)).alloc (.cells #[.int .i64 bx, .int .i64 by'] 37)).alloc (.cells #[.int .i64 cx, .int .i64 cy] 37)) (w.heap.size + 1) #[.int .i64 bx, .int .i64 by'] 37 := (Blk.new' (by simp) _ _).alloc _
  have C1 : Blk (((w.alloc (.cells #[.int .i64 ax, .int .i64 ay] 37)).alloc (.cells #[.int .i64 bx, .int .i64 by'] 37)).alloc (.cells #[.int .i64 cx, .int .i64 cy] 37)) (w.heap.size + 1 + 1) #[.int .i64 cx, .int .i64 cy] 37 := Blk.new' (by simp) _ _
  have e1 : Ext w (((w.alloc (.cells #[.int .i64 ax, .int .i64 ay] 37)).alloc (.cells #[.int .i64 bx, .int .i64 by'] 37)).alloc (.cells #[.int .i64 cx, .int .i64 cy] 37)) := (((Ext.refl w).alloc _ _).alloc _ _).alloc _ _
  generalize ((w.alloc (.cells #[.int .i64 ax, .int .i64 ay] 37)).alloc (.cells #[.int .i64 bx, .int .i64 by'] 37)).alloc (.cells #[.int .i64 cx, .int .i64 cy] 37) = w1 at *
  have cA1 := A1.cell
  have cB1 := B1.cell
  have cC1 := C1.cell
  apply wp_region_reads2 _ (by kernel_rfl) (by kernel_rfl)
  case H =>
    intro x hx
    have hne : Nonempty (Wx x) := ⟨⟨x, Ext.refl x⟩⟩
    have qA := fun (y : Wx x) => (A1.ext (hx.trans y.ext)).cell
    have qB := fun (y : Wx x) => (B1.ext (hx.trans y.ext)).cell
    have qC := fun (y : Wx x) => (C1.ext (hx.trans y.ext)).cell
    try simp only [List.append_eq, List.cons_append, List.nil_append]
    repeat (go_big_quiet_step ((go_at_call 51; exact calm_eq (rnear_any _ _ (by omega) (by omega)))))
    exact wpQuiet_nil rfl
  intro w2 hx2
  have A2 := A1.ext hx2
  have cA2 := A2.cell
  have B2 := B1.ext hx2
  have cB2 := B2.cell
  have C2 := C1.ext hx2
  have cC2 := C2.cell
  clear A1 cA1 B1 cB1 C1 cC1
  have e2 := e1.trans hx2
  clear e1 hx2
  go_wp2
  apply wp_region_reads2 _ (by kernel_rfl) (by kernel_rfl)
  case H =>
    intro x hx
    have hne : Nonempty (Wx x) := ⟨⟨x, Ext.refl x⟩⟩
    have qA := fun (y : Wx x) => (A2.ext (hx.trans y.ext)).cell
    have qB := fun (y : Wx x) => (B2.ext (hx.trans y.ext)).cell
    have qC := fun (y : Wx x) => (C2.ext (hx.trans y.ext)).cell
    try simp only [List.append_eq, List.cons_append, List.nil_append]
    repeat (go_big_quiet_step ((go_at_call 51; exact calm_eq (rnear_any _ _ (by omega) (by omega)))))
    exact wpQuiet_nil rfl
  intro w3 hx3
  go_wp2
  go_ret
  exact ⟨rfl, e2.trans hx3⟩

end Go.Proofs.Ytglehnmkdapnpaa

namespace Go.Proofs.Ytglehnmkdapnpaa
open Go.RowKit
set_option linter.unusedVariables false

def lo3 (a b c : Int) : Int := min (nr a) (min (nr b) (nr c))
def hi3 (a b c : Int) : Int := max (nr a) (max (nr b) (nr c))
theorem within_nr (a : Int) (w : World) (h : -9223372036854775808 ≤ a ∧ a ≤ 9223372036854775807) :
    Calls Try.prog 53 #[.int .i64 a, .int .i64 16384] w fun e w' => e = .returned (.int .i64 (nr a)) ∧ w = w' := by
  have k : withinZ a 16384 = nr a := by unfold withinZ nr; omega
  rw [← k]
  exact within_any a 16384 w h.1 h.2 (by omega) (by omega)
set_option maxHeartbeats 400000 in
theorem limited_any (ax ay : Int) (hax : -9223372036854775808 ≤ ax ∧ ax ≤ 9223372036854775807) (hay : -9223372036854775808 ≤ ay ∧ ay ≤ 9223372036854775807) (w : World) :
    Calls Try.prog 52 #[.agg #[.int .i64 ax, .int .i64 ay]] w fun e w' => e = .returned (.agg #[.int .i64 (nr ax), .int .i64 (nr ay)]) ∧ Ext w w' := by
  go_enter Try.func52, Try.ntmps52
  go_wp2
  have A1 : Blk ((w.alloc (.cells #[.int .i64 ax, .int .i64 ay] 50)).alloc (.cells #[.int .i64 0, .int .i64 0] 50)) w.heap.size #[.int .i64 ax, .int .i64 ay] 50 := (Blk.new w _ _).alloc _
  have R1 : Blk ((w.alloc (.cells #[.int .i64 ax, .int .i64 ay] 50)).alloc (.cells #[.int .i64 0, .int .i64 0] 50)) (w.heap.size + 1) #[.int .i64 0, .int .i64 0] 50 := Blk.new' (by simp) _ _
  have e1 : Ext w ((w.alloc (.cells #[.int .i64 ax, .int .i64 ay] 50)).alloc (.cells #[.int .i64 0, .int .i64 0] 50)) := ((Ext.refl w).alloc _ _).alloc _ _
  generalize ((w.alloc (.cells #[.int .i64 ax, .int .i64 ay] 50)).alloc (.cells #[.int .i64 0, .int .i64 0] 50)) = w1 at *
  have cA1 := A1.cell
  have cR1 := R1.cell
  apply wp_region_vars [false, false, false, false, false, false, false, true] [w.heap.size + 1] [⟨none, 0, w.heap.size + 1, some 7, 50, #[.int .i64 0, .int .i64 0], #[.int .i64 (nr ax), .int .i64 (nr ay)]⟩] _ (by kernel_rfl) (by kernel_rfl) (by kernel_rfl)
  case H =>
    intro x hx
    have hne : Nonempty (Wx x) := ⟨⟨x, Ext.refl x⟩⟩
    have qA1 := fun (y : Wx x) => ((A1.calm hx (by simp <;> omega)).ext y.ext).cell
    simp only [eraseM]
    repeat (go_big_quiet_step ((go_at_call 53; exact calm_eq (within_nr _ _ (by omega)))))
    exact wpQuiet_nil rfl
  case hok =>
    simp only [List.forall_mem_cons, List.not_mem_nil, false_implies, implies_true, and_true]
    exact tgt_mine (by simp) R1 rfl rfl rfl rfl rfl rfl (by kernel_rfl) (by kernel_rfl) (of_decide_eq_true (by kernel_rfl)) rfl
  case hdis =>
    intro k k' t t' hk hk' hne _ _
    rcases k with _ | k <;> rcases k' with _ | k' <;> simp at hk hk' hne <;> (subst hk; subst hk'; dsimp only; omega)
  rintro w2 f hw ⟨k0, l0, d0, -, -⟩
  have k0' : f 0 = w.heap.size + 1 := k0
  have d0' : Blk w2 (w.heap.size + 1) #[.int .i64 (nr ax), .int .i64 (nr ay)] 50 := k0' ▸ d0
  clear k0 k0' l0 d0
  simp only [pairs, putAll, Option.isSome_none, Bool.false_eq_true, if_false]
  have cR2 := d0'.cell
  go_wp2
  exact bodyPost_ret (v := .agg #[.int .i64 (nr ax), .int .i64 (nr ay)]) (by simp [results, Try.results52, go_sem, cR2]) rfl ⟨rfl, Ext.calm_trans e1 hw (by simp)⟩
set_option maxRecDepth 100000 in
set_option maxHeartbeats 4000000 in
theorem side_any (ax ay bx by' cx cy : Int) (hax : -9223372036854775808 ≤ ax ∧ ax ≤ 9223372036854775807) (hay : -9223372036854775808 ≤ ay ∧ ay ≤ 9223372036854775807) (hbx : -9223372036854775808 ≤ bx ∧ bx ≤ 9223372036854775807) (hby' : -9223372036854775808 ≤ by' ∧ by' ≤ 9223372036854775807) (hcx : -9223372036854775808 ≤ cx ∧ cx ≤ 9223372036854775807) (hcy : -9223372036854775808 ≤ cy ∧ cy ≤ 9223372036854775807) (w : World) :
    Calls Try.prog 30 #[.agg #[.int .i64 ax, .int .i64 ay], .agg #[.int .i64 bx, .int .i64 by'], .agg #[.int .i64 cx, .int .i64 cy]] w fun e w' => e = .returned (.int .i64 (sd ax ay bx by' cx cy)) ∧ Ext w w' := by
  have nax := nr_bd ax
  have nay := nr_bd ay
  have nbx := nr_bd bx
  have nby' := nr_bd by'
  have ncx := nr_bd cx
  have ncy := nr_bd cy
  have m1 := diff_mul nax nbx nay ncy
  have m2 := diff_mul nay nby' nax ncx
  go_enter Try.func30, Try.ntmps30
  go_wp2
  have A1 : Blk (((w.alloc (.cells #[.int .i64 ax, .int .i64 ay] 50)).alloc (.cells #[.int .i64 bx, .int .i64 by'] 50)).alloc (.cells #[.int .i64 cx, .int .i64 cy] 50)) (w.heap.size) #[.int .i64 ax, .int .i64 ay] 50 := ((Blk.new' (by simp) _ _).alloc _).alloc _
  have B1 : Blk (((w.alloc (.cells #[.int .i64 ax, .int .i64 ay] 50)).alloc (.cells #[.int .i64 bx, .int .i64 by'] 50)).alloc (.cells #[.int .i64 cx, .int .i64 cy] 50)) (w.heap.size + 1) #[.int .i64 bx, .int .i64 by'] 50 := (Blk.new' (by simp) _ _).alloc _
  have C1 : Blk (((w.alloc (.cells #[.int .i64 ax, .int .i64 ay] 50)).alloc (.cells #[.int .i64 bx, .int .i64 by'] 50)).alloc (.cells #[.int .i64 cx, .int .i64 cy] 50)) (w.heap.size + 1 + 1) #[.int .i64 cx, .int .i64 cy] 50 := Blk.new' (by simp) _ _
  have e1 : Ext w (((w.alloc (.cells #[.int .i64 ax, .int .i64 ay] 50)).alloc (.cells #[.int .i64 bx, .int .i64 by'] 50)).alloc (.cells #[.int .i64 cx, .int .i64 cy] 50)) := (((Ext.refl w).alloc _ _).alloc _ _).alloc _ _
  generalize (((w.alloc (.cells #[.int .i64 ax, .int .i64 ay] 50)).alloc (.cells #[.int .i64 bx, .int .i64 by'] 50)).alloc (.cells #[.int .i64 cx, .int .i64 cy] 50)) = w1 at *
  have cA1 := A1.cell
  have cB1 := B1.cell
  have cC1 := C1.cell
  apply wp_region_vars_early 6 [false, false, false, false, false, false, true, true, true] [w.heap.size, w.heap.size + 1, w.heap.size + 1 + 1] [⟨none, 0, w.heap.size, some 6, 50, #[.int .i64 ax, .int .i64 ay], #[.int .i64 (nr ax), .int .i64 (nr ay)]⟩, ⟨none, 0, w.heap.size + 1, some 7, 50, #[.int .i64 bx, .int .i64 by'], #[.int .i64 (nr bx), .int .i64 (nr by')]⟩, ⟨none, 0, w.heap.size + 1 + 1, some 8, 50, #[.int .i64 cx, .int .i64 cy], #[.int .i64 (nr cx), .int .i64 (nr cy)]⟩] _ (by kernel_rfl) (by kernel_rfl) (by kernel_rfl) (by kernel_rfl) (by kernel_rfl)
  case H =>
    intro x hx
    have hne : Nonempty (Wx x) := ⟨⟨x, Ext.refl x⟩⟩
    have qA1 := fun (y : Wx x) => (A1.ext (hx.trans y.ext)).cell
    have qB1 := fun (y : Wx x) => (B1.ext (hx.trans y.ext)).cell
    have qC1 := fun (y : Wx x) => (C1.ext (hx.trans y.ext)).cell
    simp only [eraseM]
    repeat (go_big_quiet_step ((go_at_call 52; exact calm_of (limited_any _ _ (by omega) (by omega) _))))
    exact wpQuiet_nil rfl
  case hok =>
    simp only [List.forall_mem_cons, List.not_mem_nil, false_implies, implies_true, and_true]
    exact ⟨tgt_mine (by simp) A1 rfl rfl rfl rfl rfl rfl (by kernel_rfl) (by kernel_rfl) (of_decide_eq_true (by kernel_rfl)) rfl, tgt_mine (by simp) B1 rfl rfl rfl rfl rfl rfl (by kernel_rfl) (by kernel_rfl) (of_decide_eq_true (by kernel_rfl)) rfl, tgt_mine (by simp) C1 rfl rfl rfl rfl rfl rfl (by kernel_rfl) (by kernel_rfl) (of_decide_eq_true (by kernel_rfl)) rfl⟩
  case hdis =>
    intro k k' t t' hk hk' hne _ _
    rcases k with _ | _ | _ | k <;> rcases k' with _ | _ | _ | k' <;> simp at hk hk' hne <;> (subst hk; subst hk'; dsimp only; omega)
  rintro w2 f hw ⟨k0, l0, d0, -, k1, l1, d1, -, k2, l2, d2, -, -⟩
  have k0' : f 0 = w.heap.size := k0
  have d0' : Blk w2 (w.heap.size) #[.int .i64 (nr ax), .int .i64 (nr ay)] 50 := k0' ▸ d0
  have k1' : f 1 = w.heap.size + 1 := k1
  have d1' : Blk w2 (w.heap.size + 1) #[.int .i64 (nr bx), .int .i64 (nr by')] 50 := k1' ▸ d1
  have k2' : f 2 = w.heap.size + 1 + 1 := k2
  have d2' : Blk w2 (w.heap.size + 1 + 1) #[.int .i64 (nr cx), .int .i64 (nr cy)] 50 := k2' ▸ d2
  clear k0 k0' l0 d0 k1 k1' l1 d1 k2 k2' l2 d2
  simp only [pairs, putAll, Option.isSome_none, Bool.false_eq_true, if_false]
  have e2 := Ext.calm_trans e1 hw (by simp <;> omega)
  clear e1 hw A1 cA1 B1 cB1 C1 cC1
  have c0 := d0'.cell
  have c1 := d1'.cell
  have c2 := d2'.cell
  go_wp2
  go_ret
  exact ⟨rfl, e2⟩
set_option maxRecDepth 100000 in
set_option maxHeartbeats 4000000 in
theorem owns_any (ax ay bx by' : Int) (hax : -9223372036854775808 ≤ ax ∧ ax ≤ 9223372036854775807) (hay : -9223372036854775808 ≤ ay ∧ ay ≤ 9223372036854775807) (hbx : -9223372036854775808 ≤ bx ∧ bx ≤ 9223372036854775807) (hby' : -9223372036854775808 ≤ by' ∧ by' ≤ 9223372036854775807) (w : World) :
    Calls Try.prog 46 #[.agg #[.int .i64 ax, .int .i64 ay], .agg #[.int .i64 bx, .int .i64 by']] w fun e w' => e = .returned (.bool (ownB ax ay bx by')) ∧ Ext w w' := by
  have nax := nr_bd ax
  have nay := nr_bd ay
  have nbx := nr_bd bx
  have nby' := nr_bd by'
  go_enter Try.func46, Try.ntmps46
  go_wp2
  have A1 : Blk ((w.alloc (.cells #[.int .i64 ax, .int .i64 ay] 50)).alloc (.cells #[.int .i64 bx, .int .i64 by'] 50)) (w.heap.size) #[.int .i64 ax, .int .i64 ay] 50 := (Blk.new' (by simp) _ _).alloc _
  have B1 : Blk ((w.alloc (.cells #[.int .i64 ax, .int .i64 ay] 50)).alloc (.cells #[.int .i64 bx, .int .i64 by'] 50)) (w.heap.size + 1) #[.int .i64 bx, .int .i64 by'] 50 := Blk.new' (by simp) _ _
  have e1 : Ext w ((w.alloc (.cells #[.int .i64 ax, .int .i64 ay] 50)).alloc (.cells #[.int .i64 bx, .int .i64 by'] 50)) := ((Ext.refl w).alloc _ _).alloc _ _
  generalize ((w.alloc (.cells #[.int .i64 ax, .int .i64 ay] 50)).alloc (.cells #[.int .i64 bx, .int .i64 by'] 50)) = w1 at *
  have cA1 := A1.cell
  have cB1 := B1.cell
  apply wp_region_vars_early 6 [false, false, false, false, true, true] [w.heap.size, w.heap.size + 1] [⟨none, 0, w.heap.size, some 4, 50, #[.int .i64 ax, .int .i64 ay], #[.int .i64 (nr ax), .int .i64 (nr ay)]⟩, ⟨none, 0, w.heap.size + 1, some 5, 50, #[.int .i64 bx, .int .i64 by'], #[.int .i64 (nr bx), .int .i64 (nr by')]⟩] _ (by kernel_rfl) (by kernel_rfl) (by kernel_rfl) (by kernel_rfl) (by kernel_rfl)
  case H =>
    intro x hx
    have hne : Nonempty (Wx x) := ⟨⟨x, Ext.refl x⟩⟩
    have qA1 := fun (y : Wx x) => (A1.ext (hx.trans y.ext)).cell
    have qB1 := fun (y : Wx x) => (B1.ext (hx.trans y.ext)).cell
    simp only [eraseM]
    repeat (go_big_quiet_step ((go_at_call 52; exact calm_of (limited_any _ _ (by omega) (by omega) _))))
    exact wpQuiet_nil rfl
  case hok =>
    simp only [List.forall_mem_cons, List.not_mem_nil, false_implies, implies_true, and_true]
    exact ⟨tgt_mine (by simp) A1 rfl rfl rfl rfl rfl rfl (by kernel_rfl) (by kernel_rfl) (of_decide_eq_true (by kernel_rfl)) rfl, tgt_mine (by simp) B1 rfl rfl rfl rfl rfl rfl (by kernel_rfl) (by kernel_rfl) (of_decide_eq_true (by kernel_rfl)) rfl⟩
  case hdis =>
    intro k k' t t' hk hk' hne _ _
    rcases k with _ | _ | k <;> rcases k' with _ | _ | k' <;> simp at hk hk' hne <;> (subst hk; subst hk'; dsimp only; omega)
  rintro w2 f hw ⟨k0, l0, d0, -, k1, l1, d1, -, -⟩
  have k0' : f 0 = w.heap.size := k0
  have d0' : Blk w2 (w.heap.size) #[.int .i64 (nr ax), .int .i64 (nr ay)] 50 := k0' ▸ d0
  have k1' : f 1 = w.heap.size + 1 := k1
  have d1' : Blk w2 (w.heap.size + 1) #[.int .i64 (nr bx), .int .i64 (nr by')] 50 := k1' ▸ d1
  clear k0 k0' l0 d0 k1 k1' l1 d1
  simp only [pairs, putAll, Option.isSome_none, Bool.false_eq_true, if_false]
  have e2 := Ext.calm_trans e1 hw (by simp <;> omega)
  clear e1 hw A1 cA1 B1 cB1
  have c0 := d0'.cell
  have c1 := d1'.cell
  go_wp2
  all_goals (go_ret; exact ⟨congrArg (fun b => Ending.returned (.bool b)) (by unfold ownB; rw [Bool.eq_iff_iff]; simp; omega), e2⟩)
set_option maxRecDepth 100000 in
set_option maxHeartbeats 1000000 in
theorem opposite0_any (ax ay bx by' cx cy : Int) (w : World) :
    Calls Try.prog 45 #[.agg #[.int .i64 ax, .int .i64 ay, .int .i64 bx, .int .i64 by', .int .i64 cx, .int .i64 cy], .int .i64 0] w fun e w' => e = .returned (.tuple #[.agg #[.int .i64 bx, .int .i64 by'], .agg #[.int .i64 cx, .int .i64 cy]]) ∧ Ext w w' := by
  go_enter Try.func45, Try.ntmps45
  go_wp2
  have T1 : Blk (((w.alloc (.cells #[.int .i64 ax, .int .i64 ay, .int .i64 bx, .int .i64 by', .int .i64 cx, .int .i64 cy] 52)).alloc (.cells #[.int .i64 0, .int .i64 0] 50)).alloc (.cells #[.int .i64 0, .int .i64 0] 50)) w.heap.size #[.int .i64 ax, .int .i64 ay, .int .i64 bx, .int .i64 by', .int .i64 cx, .int .i64 cy] 52 := ((Blk.new w _ _).alloc _).alloc _
  have R1 : Blk (((w.alloc (.cells #[.int .i64 ax, .int .i64 ay, .int .i64 bx, .int .i64 by', .int .i64 cx, .int .i64 cy] 52)).alloc (.cells #[.int .i64 0, .int .i64 0] 50)).alloc (.cells #[.int .i64 0, .int .i64 0] 50)) (w.heap.size + 1) #[.int .i64 0, .int .i64 0] 50 := (Blk.new' (by simp) _ _).alloc _
  have S1 : Blk (((w.alloc (.cells #[.int .i64 ax, .int .i64 ay, .int .i64 bx, .int .i64 by', .int .i64 cx, .int .i64 cy] 52)).alloc (.cells #[.int .i64 0, .int .i64 0] 50)).alloc (.cells #[.int .i64 0, .int .i64 0] 50)) (w.heap.size + 1 + 1) #[.int .i64 0, .int .i64 0] 50 := Blk.new' (by simp) _ _
  have e1 : Ext w (((w.alloc (.cells #[.int .i64 ax, .int .i64 ay, .int .i64 bx, .int .i64 by', .int .i64 cx, .int .i64 cy] 52)).alloc (.cells #[.int .i64 0, .int .i64 0] 50)).alloc (.cells #[.int .i64 0, .int .i64 0] 50)) := (((Ext.refl w).alloc _ _).alloc _ _).alloc _ _
  generalize (((w.alloc (.cells #[.int .i64 ax, .int .i64 ay, .int .i64 bx, .int .i64 by', .int .i64 cx, .int .i64 cy] 52)).alloc (.cells #[.int .i64 0, .int .i64 0] 50)).alloc (.cells #[.int .i64 0, .int .i64 0] 50)) = w1 at *
  apply wp_region_vars [false, false, false, false, false, false, false, false, false, false, true, true] [w.heap.size + 1, w.heap.size + 1 + 1] [⟨none, 0, w.heap.size + 1, some 10, 50, #[.int .i64 0, .int .i64 0], #[.int .i64 bx, .int .i64 by']⟩, ⟨none, 0, w.heap.size + 1 + 1, some 11, 50, #[.int .i64 0, .int .i64 0], #[.int .i64 cx, .int .i64 cy]⟩] _ (by kernel_rfl) (by kernel_rfl) (by kernel_rfl)
  case H =>
    intro x hx
    have hne : Nonempty (Wx x) := ⟨⟨x, Ext.refl x⟩⟩
    have qT1 := fun (y : Wx x) => ((T1.calm hx (by simp <;> omega)).ext y.ext).cell
    simp only [eraseM]
    repeat (go_big_quiet_step (fail))
    exact wpQuiet_nil rfl
  case hok =>
    simp only [List.forall_mem_cons, List.not_mem_nil, false_implies, implies_true, and_true]
    exact ⟨tgt_mine (by simp) R1 rfl rfl rfl rfl rfl rfl (by kernel_rfl) (by kernel_rfl) (of_decide_eq_true (by kernel_rfl)) rfl, tgt_mine (by simp) S1 rfl rfl rfl rfl rfl rfl (by kernel_rfl) (by kernel_rfl) (of_decide_eq_true (by kernel_rfl)) rfl⟩
  case hdis =>
    intro k k' t t' hk hk' hne _ _
    rcases k with _ | _ | k <;> rcases k' with _ | _ | k' <;> simp at hk hk' hne <;> (subst hk; subst hk'; dsimp only; omega)
  rintro w2 f hw ⟨k0, l0, d0, -, k1, l1, d1, -, -⟩
  have k0' : f 0 = w.heap.size + 1 := k0
  have d0' : Blk w2 (w.heap.size + 1) #[.int .i64 bx, .int .i64 by'] 50 := k0' ▸ d0
  have k1' : f 1 = w.heap.size + 1 + 1 := k1
  have d1' : Blk w2 (w.heap.size + 1 + 1) #[.int .i64 cx, .int .i64 cy] 50 := k1' ▸ d1
  clear k0 k0' l0 d0 k1 k1' l1 d1
  simp only [pairs, putAll, Option.isSome_none, Bool.false_eq_true, if_false]
  have c0 := d0'.cell
  have c1 := d1'.cell
  go_wp2
  exact bodyPost_ret (v := .tuple #[.agg #[.int .i64 bx, .int .i64 by'], .agg #[.int .i64 cx, .int .i64 cy]]) (by simp [results, Try.results45, go_sem, c0, c1]) rfl ⟨rfl, Ext.calm_trans e1 hw (by simp <;> omega)⟩
set_option maxRecDepth 100000 in
set_option maxHeartbeats 1000000 in
theorem opposite1_any (ax ay bx by' cx cy : Int) (w : World) :
    Calls Try.prog 45 #[.agg #[.int .i64 ax, .int .i64 ay, .int .i64 bx, .int .i64 by', .int .i64 cx, .int .i64 cy], .int .i64 1] w fun e w' => e = .returned (.tuple #[.agg #[.int .i64 cx, .int .i64 cy], .agg #[.int .i64 ax, .int .i64 ay]]) ∧ Ext w w' := by
  go_enter Try.func45, Try.ntmps45
  go_wp2
  have T1 : Blk (((w.alloc (.cells #[.int .i64 ax, .int .i64 ay, .int .i64 bx, .int .i64 by', .int .i64 cx, .int .i64 cy] 52)).alloc (.cells #[.int .i64 0, .int .i64 0] 50)).alloc (.cells #[.int .i64 0, .int .i64 0] 50)) w.heap.size #[.int .i64 ax, .int .i64 ay, .int .i64 bx, .int .i64 by', .int .i64 cx, .int .i64 cy] 52 := ((Blk.new w _ _).alloc _).alloc _
  have R1 : Blk (((w.alloc (.cells #[.int .i64 ax, .int .i64 ay, .int .i64 bx, .int .i64 by', .int .i64 cx, .int .i64 cy] 52)).alloc (.cells #[.int .i64 0, .int .i64 0] 50)).alloc (.cells #[.int .i64 0, .int .i64 0] 50)) (w.heap.size + 1) #[.int .i64 0, .int .i64 0] 50 := (Blk.new' (by simp) _ _).alloc _
  have S1 : Blk (((w.alloc (.cells #[.int .i64 ax, .int .i64 ay, .int .i64 bx, .int .i64 by', .int .i64 cx, .int .i64 cy] 52)).alloc (.cells #[.int .i64 0, .int .i64 0] 50)).alloc (.cells #[.int .i64 0, .int .i64 0] 50)) (w.heap.size + 1 + 1) #[.int .i64 0, .int .i64 0] 50 := Blk.new' (by simp) _ _
  have e1 : Ext w (((w.alloc (.cells #[.int .i64 ax, .int .i64 ay, .int .i64 bx, .int .i64 by', .int .i64 cx, .int .i64 cy] 52)).alloc (.cells #[.int .i64 0, .int .i64 0] 50)).alloc (.cells #[.int .i64 0, .int .i64 0] 50)) := (((Ext.refl w).alloc _ _).alloc _ _).alloc _ _
  generalize (((w.alloc (.cells #[.int .i64 ax, .int .i64 ay, .int .i64 bx, .int .i64 by', .int .i64 cx, .int .i64 cy] 52)).alloc (.cells #[.int .i64 0, .int .i64 0] 50)).alloc (.cells #[.int .i64 0, .int .i64 0] 50)) = w1 at *
  apply wp_region_vars [false, false, false, false, false, false, false, false, false, false, true, true] [w.heap.size + 1, w.heap.size + 1 + 1] [⟨none, 0, w.heap.size + 1, some 10, 50, #[.int .i64 0, .int .i64 0], #[.int .i64 cx, .int .i64 cy]⟩, ⟨none, 0, w.heap.size + 1 + 1, some 11, 50, #[.int .i64 0, .int .i64 0], #[.int .i64 ax, .int .i64 ay]⟩] _ (by kernel_rfl) (by kernel_rfl) (by kernel_rfl)
  case H =>
    intro x hx
    have hne : Nonempty (Wx x) := ⟨⟨x, Ext.refl x⟩⟩
    have qT1 := fun (y : Wx x) => ((T1.calm hx (by simp <;> omega)).ext y.ext).cell
    simp only [eraseM]
    repeat (go_big_quiet_step (fail))
    exact wpQuiet_nil rfl
  case hok =>
    simp only [List.forall_mem_cons, List.not_mem_nil, false_implies, implies_true, and_true]
    exact ⟨tgt_mine (by simp) R1 rfl rfl rfl rfl rfl rfl (by kernel_rfl) (by kernel_rfl) (of_decide_eq_true (by kernel_rfl)) rfl, tgt_mine (by simp) S1 rfl rfl rfl rfl rfl rfl (by kernel_rfl) (by kernel_rfl) (of_decide_eq_true (by kernel_rfl)) rfl⟩
  case hdis =>
    intro k k' t t' hk hk' hne _ _
    rcases k with _ | _ | k <;> rcases k' with _ | _ | k' <;> simp at hk hk' hne <;> (subst hk; subst hk'; dsimp only; omega)
  rintro w2 f hw ⟨k0, l0, d0, -, k1, l1, d1, -, -⟩
  have k0' : f 0 = w.heap.size + 1 := k0
  have d0' : Blk w2 (w.heap.size + 1) #[.int .i64 cx, .int .i64 cy] 50 := k0' ▸ d0
  have k1' : f 1 = w.heap.size + 1 + 1 := k1
  have d1' : Blk w2 (w.heap.size + 1 + 1) #[.int .i64 ax, .int .i64 ay] 50 := k1' ▸ d1
  clear k0 k0' l0 d0 k1 k1' l1 d1
  simp only [pairs, putAll, Option.isSome_none, Bool.false_eq_true, if_false]
  have c0 := d0'.cell
  have c1 := d1'.cell
  go_wp2
  exact bodyPost_ret (v := .tuple #[.agg #[.int .i64 cx, .int .i64 cy], .agg #[.int .i64 ax, .int .i64 ay]]) (by simp [results, Try.results45, go_sem, c0, c1]) rfl ⟨rfl, Ext.calm_trans e1 hw (by simp <;> omega)⟩
set_option maxRecDepth 100000 in
set_option maxHeartbeats 1000000 in
theorem opposite2_any (ax ay bx by' cx cy : Int) (w : World) :
    Calls Try.prog 45 #[.agg #[.int .i64 ax, .int .i64 ay, .int .i64 bx, .int .i64 by', .int .i64 cx, .int .i64 cy], .int .i64 2] w fun e w' => e = .returned (.tuple #[.agg #[.int .i64 ax, .int .i64 ay], .agg #[.int .i64 bx, .int .i64 by']]) ∧ Ext w w' := by
  go_enter Try.func45, Try.ntmps45
  go_wp2
  have T1 : Blk (((w.alloc (.cells #[.int .i64 ax, .int .i64 ay, .int .i64 bx, .int .i64 by', .int .i64 cx, .int .i64 cy] 52)).alloc (.cells #[.int .i64 0, .int .i64 0] 50)).alloc (.cells #[.int .i64 0, .int .i64 0] 50)) w.heap.size #[.int .i64 ax, .int .i64 ay, .int .i64 bx, .int .i64 by', .int .i64 cx, .int .i64 cy] 52 := ((Blk.new w _ _).alloc _).alloc _
  have R1 : Blk (((w.alloc (.cells #[.int .i64 ax, .int .i64 ay, .int .i64 bx, .int .i64 by', .int .i64 cx, .int .i64 cy] 52)).alloc (.cells #[.int .i64 0, .int .i64 0] 50)).alloc (.cells #[.int .i64 0, .int .i64 0] 50)) (w.heap.size + 1) #[.int .i64 0, .int .i64 0] 50 := (Blk.new' (by simp) _ _).alloc _
  have S1 : Blk (((w.alloc (.cells #[.int .i64 ax, .int .i64 ay, .int .i64 bx, .int .i64 by', .int .i64 cx, .int .i64 cy] 52)).alloc (.cells #[.int .i64 0, .int .i64 0] 50)).alloc (.cells #[.int .i64 0, .int .i64 0] 50)) (w.heap.size + 1 + 1) #[.int .i64 0, .int .i64 0] 50 := Blk.new' (by simp) _ _
  have e1 : Ext w (((w.alloc (.cells #[.int .i64 ax, .int .i64 ay, .int .i64 bx, .int .i64 by', .int .i64 cx, .int .i64 cy] 52)).alloc (.cells #[.int .i64 0, .int .i64 0] 50)).alloc (.cells #[.int .i64 0, .int .i64 0] 50)) := (((Ext.refl w).alloc _ _).alloc _ _).alloc _ _
  generalize (((w.alloc (.cells #[.int .i64 ax, .int .i64 ay, .int .i64 bx, .int .i64 by', .int .i64 cx, .int .i64 cy] 52)).alloc (.cells #[.int .i64 0, .int .i64 0] 50)).alloc (.cells #[.int .i64 0, .int .i64 0] 50)) = w1 at *
  apply wp_region_vars [false, false, false, false, false, false, false, false, false, false, true, true] [w.heap.size + 1, w.heap.size + 1 + 1] [⟨none, 0, w.heap.size + 1, some 10, 50, #[.int .i64 0, .int .i64 0], #[.int .i64 ax, .int .i64 ay]⟩, ⟨none, 0, w.heap.size + 1 + 1, some 11, 50, #[.int .i64 0, .int .i64 0], #[.int .i64 bx, .int .i64 by']⟩] _ (by kernel_rfl) (by kernel_rfl) (by kernel_rfl)
  case H =>
    intro x hx
    have hne : Nonempty (Wx x) := ⟨⟨x, Ext.refl x⟩⟩
    have qT1 := fun (y : Wx x) => ((T1.calm hx (by simp <;> omega)).ext y.ext).cell
    simp only [eraseM]
    repeat (go_big_quiet_step (fail))
    exact wpQuiet_nil rfl
  case hok =>
    simp only [List.forall_mem_cons, List.not_mem_nil, false_implies, implies_true, and_true]
    exact ⟨tgt_mine (by simp) R1 rfl rfl rfl rfl rfl rfl (by kernel_rfl) (by kernel_rfl) (of_decide_eq_true (by kernel_rfl)) rfl, tgt_mine (by simp) S1 rfl rfl rfl rfl rfl rfl (by kernel_rfl) (by kernel_rfl) (of_decide_eq_true (by kernel_rfl)) rfl⟩
  case hdis =>
    intro k k' t t' hk hk' hne _ _
    rcases k with _ | _ | k <;> rcases k' with _ | _ | k' <;> simp at hk hk' hne <;> (subst hk; subst hk'; dsimp only; omega)
  rintro w2 f hw ⟨k0, l0, d0, -, k1, l1, d1, -, -⟩
  have k0' : f 0 = w.heap.size + 1 := k0
  have d0' : Blk w2 (w.heap.size + 1) #[.int .i64 ax, .int .i64 ay] 50 := k0' ▸ d0
  have k1' : f 1 = w.heap.size + 1 + 1 := k1
  have d1' : Blk w2 (w.heap.size + 1 + 1) #[.int .i64 bx, .int .i64 by'] 50 := k1' ▸ d1
  clear k0 k0' l0 d0 k1 k1' l1 d1
  simp only [pairs, putAll, Option.isSome_none, Bool.false_eq_true, if_false]
  have c0 := d0'.cell
  have c1 := d1'.cell
  go_wp2
  exact bodyPost_ret (v := .tuple #[.agg #[.int .i64 ax, .int .i64 ay], .agg #[.int .i64 bx, .int .i64 by']]) (by simp [results, Try.results45, go_sem, c0, c1]) rfl ⟨rfl, Ext.calm_trans e1 hw (by simp <;> omega)⟩
set_option maxHeartbeats 400000 in
theorem area_any (ax ay bx by' cx cy : Int) (hax : -9223372036854775808 ≤ ax ∧ ax ≤ 9223372036854775807) (hay : -9223372036854775808 ≤ ay ∧ ay ≤ 9223372036854775807) (hbx : -9223372036854775808 ≤ bx ∧ bx ≤ 9223372036854775807) (hby' : -9223372036854775808 ≤ by' ∧ by' ≤ 9223372036854775807) (hcx : -9223372036854775808 ≤ cx ∧ cx ≤ 9223372036854775807) (hcy : -9223372036854775808 ≤ cy ∧ cy ≤ 9223372036854775807) (w : World) :
    Calls Try.prog 37 #[.agg #[.int .i64 ax, .int .i64 ay, .int .i64 bx, .int .i64 by', .int .i64 cx, .int .i64 cy]] w fun e w' => e = .returned (.int .i64 (sd ax ay bx by' cx cy)) ∧ Ext w w' := by
  go_enter Try.func37, Try.ntmps37
  go_wp2_with fail
  refine (side_any _ _ _ _ _ _ (by omega) (by omega) (by omega) (by omega) (by omega) (by omega) _).mono ?_
  rintro e w1 ⟨rfl, hx1⟩
  go_wp2
  go_ret
  exact ⟨rfl, ((Ext.refl w).alloc _ _).trans hx1⟩
set_option maxHeartbeats 400000 in
theorem turnedT_any (ax ay bx by' cx cy : Int) (hax : -9223372036854775808 ≤ ax ∧ ax ≤ 9223372036854775807) (hay : -9223372036854775808 ≤ ay ∧ ay ≤ 9223372036854775807) (hbx : -9223372036854775808 ≤ bx ∧ bx ≤ 9223372036854775807) (hby' : -9223372036854775808 ≤ by' ∧ by' ≤ 9223372036854775807) (hcx : -9223372036854775808 ≤ cx ∧ cx ≤ 9223372036854775807) (hcy : -9223372036854775808 ≤ cy ∧ cy ≤ 9223372036854775807) (w : World) :
    Calls Try.prog 39 #[.agg #[.int .i64 ax, .int .i64 ay, .int .i64 bx, .int .i64 by', .int .i64 cx, .int .i64 cy]] w fun e w' => e = .returned (.agg #[.int .i64 ax, .int .i64 ay, .int .i64 cx, .int .i64 cy, .int .i64 bx, .int .i64 by']) ∧ Ext w w' := by
  go_enter Try.func39, Try.ntmps39
  go_wp2
  exact bodyPost_ret (v := .agg #[.int .i64 ax, .int .i64 ay, .int .i64 cx, .int .i64 cy, .int .i64 bx, .int .i64 by']) (by simp [results, Try.results39, go_sem]) rfl ⟨rfl, ((Ext.refl w).alloc _ _).alloc _ _⟩
end Go.Proofs.Ytglehnmkdapnpaa

namespace Go.Proofs.Ytglehnmkdapnpaa
open Go.RowKit
set_option linter.unusedVariables false

theorem mkP (u : World) : (Instr.alloc 50 true (.tuple #[])).run Try.prog u = .ok (.pointer (some ⟨u.heap.size, 0, none⟩)) (u.alloc (.cells #[.int .i64 0, .int .i64 0] 50)) := by
  simp [go_sem]
end Go.Proofs.Ytglehnmkdapnpaa

namespace Go.Proofs.Ytglehnmkdapnpaa
open Go.RowKit
set_option linter.unusedVariables false

set_option maxRecDepth 100000 in
set_option maxHeartbeats 4000000 in
theorem weights_any (ax ay bx by' cx cy px py : Int) (hax : -9223372036854775808 ≤ ax ∧ ax ≤ 9223372036854775807) (hay : -9223372036854775808 ≤ ay ∧ ay ≤ 9223372036854775807) (hbx : -9223372036854775808 ≤ bx ∧ bx ≤ 9223372036854775807) (hby' : -9223372036854775808 ≤ by' ∧ by' ≤ 9223372036854775807) (hcx : -9223372036854775808 ≤ cx ∧ cx ≤ 9223372036854775807) (hcy : -9223372036854775808 ≤ cy ∧ cy ≤ 9223372036854775807) (hpx : -9223372036854775808 ≤ px ∧ px ≤ 9223372036854775807) (hpy : -9223372036854775808 ≤ py ∧ py ≤ 9223372036854775807) (w : World) :
    Calls Try.prog 40 #[.agg #[.int .i64 ax, .int .i64 ay, .int .i64 bx, .int .i64 by', .int .i64 cx, .int .i64 cy], .agg #[.int .i64 px, .int .i64 py]] w fun e w' => e = .returned (.agg #[.int .i64 (sd bx by' cx cy px py), .int .i64 (sd cx cy ax ay px py), .int .i64 (sd ax ay bx by' px py)]) ∧ Ext w w' := by
  go_enter Try.func40, Try.ntmps40
  go_wp2_with fail
  have T1 : Blk (((w.alloc (.cells #[.int .i64 ax, .int .i64 ay, .int .i64 bx, .int .i64 by', .int .i64 cx, .int .i64 cy] 52)).alloc (.cells #[.int .i64 px, .int .i64 py] 50)).alloc (.cells #[.int .i64 0, .int .i64 0, .int .i64 0] 39)) w.heap.size #[.int .i64 ax, .int .i64 ay, .int .i64 bx, .int .i64 by', .int .i64 cx, .int .i64 cy] 52 := ((Blk.new w _ _).alloc _).alloc _
  have P1 : Blk (((w.alloc (.cells #[.int .i64 ax, .int .i64 ay, .int .i64 bx, .int .i64 by', .int .i64 cx, .int .i64 cy] 52)).alloc (.cells #[.int .i64 px, .int .i64 py] 50)).alloc (.cells #[.int .i64 0, .int .i64 0, .int .i64 0] 39)) (w.heap.size + 1) #[.int .i64 px, .int .i64 py] 50 := (Blk.new' (by simp) _ _).alloc _
  have R1 : Blk (((w.alloc (.cells #[.int .i64 ax, .int .i64 ay, .int .i64 bx, .int .i64 by', .int .i64 cx, .int .i64 cy] 52)).alloc (.cells #[.int .i64 px, .int .i64 py] 50)).alloc (.cells #[.int .i64 0, .int .i64 0, .int .i64 0] 39)) (w.heap.size + 1 + 1) #[.int .i64 0, .int .i64 0, .int .i64 0] 39 := Blk.new' (by simp) _ _
  have e1 : Ext w (((w.alloc (.cells #[.int .i64 ax, .int .i64 ay, .int .i64 bx, .int .i64 by', .int .i64 cx, .int .i64 cy] 52)).alloc (.cells #[.int .i64 px, .int .i64 py] 50)).alloc (.cells #[.int .i64 0, .int .i64 0, .int .i64 0] 39)) := (((Ext.refl w).alloc _ _).alloc _ _).alloc _ _
  generalize (((w.alloc (.cells #[.int .i64 ax, .int .i64 ay, .int .i64 bx, .int .i64 by', .int .i64 cx, .int .i64 cy] 52)).alloc (.cells #[.int .i64 px, .int .i64 py] 50)).alloc (.cells #[.int .i64 0, .int .i64 0, .int .i64 0] 39)) = w1 at *
  have cT1 := T1.cell
  have cP1 := P1.cell
  have cR1 := R1.cell
  refine wp_loop_rounds 4 ?_
  rw [rounds_succ]
  go_wp2_with fail
  refine (opposite0_any _ _ _ _ _ _ _).mono ?_
  rintro e w2 ⟨rfl, hx2⟩
  have T2 := T1.ext hx2
  have cT2 := T2.cell
  have P2 := P1.ext hx2
  have cP2 := P2.cell
  have R2 := R1.ext hx2
  have cR2 := R2.cell
  clear T1 cT1 P1 cP1 R1 cR1
  have e2 := e1.trans hx2
  clear e1 hx2
  have z2 := R2.lt
  have zw2 := e2.size
  have zt := T2.lt
  have zp := P2.lt
  have y0 : ¬ (w.heap.size = w2.heap.size) := by omega
  have y1 : ¬ (w.heap.size + 1 = w2.heap.size) := by omega
  have y2 : ¬ (w.heap.size + 1 + 1 = w2.heap.size) := by omega
  go_wp2_with fail
  refine (side_any _ _ _ _ _ _ (by omega) (by omega) (by omega) (by omega) (by omega) (by omega) _).mono ?_
  rintro e w3 ⟨rfl, hx3⟩
  have T3 : Blk w3 w.heap.size #[.int .i64 ax, .int .i64 ay, .int .i64 bx, .int .i64 by', .int .i64 cx, .int .i64 cy] 52 := Blk.ext (by repeat (first | exact T2 | apply Blk.alloc | refine Blk.far ?_ (by simp <;> omega) _)) hx3
  have P3 : Blk w3 (w.heap.size + 1) #[.int .i64 px, .int .i64 py] 50 := Blk.ext (by repeat (first | exact P2 | apply Blk.alloc | refine Blk.far ?_ (by simp <;> omega) _)) hx3
  have R3 : Blk w3 (w.heap.size + 1 + 1) #[.int .i64 0, .int .i64 0, .int .i64 0] 39 := Blk.ext (by repeat (first | exact R2 | apply Blk.alloc | refine Blk.far ?_ (by simp <;> omega) _)) hx3
  have e3 : Ext w w3 := Ext.trans (by repeat (first | exact e2 | apply Ext.alloc | refine Ext.setCell ?_ (by simp <;> omega) _)) hx3
  clear zt zp y0 y1 y2 hx3 e2 z2 zw2 T2 cT2 P2 cP2 R2 cR2
  have cT3 := T3.cell
  have cP3 := P3.cell
  have cR3 := R3.cell
  have fR := R3.frozen
  go_wp2
  clear fR
  have z3 := R3.lt
  have zw3 := e3.size
  have T4 : Blk (w3.setCell ⟨w.heap.size + 1 + 1, 0, none⟩ (.int .i64 (sd bx by' cx cy px py))) w.heap.size #[.int .i64 ax, .int .i64 ay, .int .i64 bx, .int .i64 by', .int .i64 cx, .int .i64 cy] 52 := T3.far (by simp <;> omega) _
  have P4 : Blk (w3.setCell ⟨w.heap.size + 1 + 1, 0, none⟩ (.int .i64 (sd bx by' cx cy px py))) (w.heap.size + 1) #[.int .i64 px, .int .i64 py] 50 := P3.far (by simp <;> omega) _
  have R4 : Blk (w3.setCell ⟨w.heap.size + 1 + 1, 0, none⟩ (.int .i64 (sd bx by' cx cy px py))) (w.heap.size + 1 + 1) #[.int .i64 (sd bx by' cx cy px py), .int .i64 0, .int .i64 0] 39 := R3.set 0 _
  have e4 : Ext w (w3.setCell ⟨w.heap.size + 1 + 1, 0, none⟩ (.int .i64 (sd bx by' cx cy px py))) := e3.setCell (by simp <;> omega) _
  generalize (w3.setCell ⟨w.heap.size + 1 + 1, 0, none⟩ (.int .i64 (sd bx by' cx cy px py))) = w4 at *
  clear e3 z3 zw3 T3 cT3 P3 cP3 R3 cR3
  have cT4 := T4.cell
  have cP4 := P4.cell
  have cR4 := R4.cell
  rw [rounds_succ]
  go_wp2_with fail
  refine (opposite1_any _ _ _ _ _ _ _).mono ?_
  rintro e w5 ⟨rfl, hx5⟩
  have T5 := T4.ext hx5
  have cT5 := T5.cell
  have P5 := P4.ext hx5
  have cP5 := P5.cell
  have R5 := R4.ext hx5
  have cR5 := R5.cell
  clear T4 cT4 P4 cP4 R4 cR4
  have e5 := e4.trans hx5
  clear e4 hx5
  have z5 := R5.lt
  have zw5 := e5.size
  have zt := T5.lt
  have zp := P5.lt
  have y0 : ¬ (w.heap.size = w5.heap.size) := by omega
  have y1 : ¬ (w.heap.size + 1 = w5.heap.size) := by omega
  have y2 : ¬ (w.heap.size + 1 + 1 = w5.heap.size) := by omega
  go_wp2_with fail
  refine (side_any _ _ _ _ _ _ (by omega) (by omega) (by omega) (by omega) (by omega) (by omega) _).mono ?_
  rintro e w6 ⟨rfl, hx6⟩
  have T6 : Blk w6 w.heap.size #[.int .i64 ax, .int .i64 ay, .int .i64 bx, .int .i64 by', .int .i64 cx, .int .i64 cy] 52 := Blk.ext (by repeat (first | exact T5 | apply Blk.alloc | refine Blk.far ?_ (by simp <;> omega) _)) hx6
  have P6 : Blk w6 (w.heap.size + 1) #[.int .i64 px, .int .i64 py] 50 := Blk.ext (by repeat (first | exact P5 | apply Blk.alloc | refine Blk.far ?_ (by simp <;> omega) _)) hx6
  have R6 : Blk w6 (w.heap.size + 1 + 1) #[.int .i64 (sd bx by' cx cy px py), .int .i64 0, .int .i64 0] 39 := Blk.ext (by repeat (first | exact R5 | apply Blk.alloc | refine Blk.far ?_ (by simp <;> omega) _)) hx6
  have e6 : Ext w w6 := Ext.trans (by repeat (first | exact e5 | apply Ext.alloc | refine Ext.setCell ?_ (by simp <;> omega) _)) hx6
  clear zt zp y0 y1 y2 hx6 e5 z5 zw5 T5 cT5 P5 cP5 R5 cR5
  have cT6 := T6.cell
  have cP6 := P6.cell
  have cR6 := R6.cell
  have fR := R6.frozen
  go_wp2
  clear fR
  have z6 := R6.lt
  have zw6 := e6.size
  have T7 : Blk (w6.setCell ⟨w.heap.size + 1 + 1, 1, none⟩ (.int .i64 (sd cx cy ax ay px py))) w.heap.size #[.int .i64 ax, .int .i64 ay, .int .i64 bx, .int .i64 by', .int .i64 cx, .int .i64 cy] 52 := T6.far (by simp <;> omega) _
  have P7 : Blk (w6.setCell ⟨w.heap.size + 1 + 1, 1, none⟩ (.int .i64 (sd cx cy ax ay px py))) (w.heap.size + 1) #[.int .i64 px, .int .i64 py] 50 := P6.far (by simp <;> omega) _
  have R7 : Blk (w6.setCell ⟨w.heap.size + 1 + 1, 1, none⟩ (.int .i64 (sd cx cy ax ay px py))) (w.heap.size + 1 + 1) #[.int .i64 (sd bx by' cx cy px py), .int .i64 (sd cx cy ax ay px py), .int .i64 0] 39 := R6.set 1 _
  have e7 : Ext w (w6.setCell ⟨w.heap.size + 1 + 1, 1, none⟩ (.int .i64 (sd cx cy ax ay px py))) := e6.setCell (by simp <;> omega) _
  generalize (w6.setCell ⟨w.heap.size + 1 + 1, 1, none⟩ (.int .i64 (sd cx cy ax ay px py))) = w7 at *
  clear e6 z6 zw6 T6 cT6 P6 cP6 R6 cR6
  have cT7 := T7.cell
  have cP7 := P7.cell
  have cR7 := R7.cell
  rw [rounds_succ]
  go_wp2_with fail
  refine (opposite2_any _ _ _ _ _ _ _).mono ?_
  rintro e w8 ⟨rfl, hx8⟩
  have T8 := T7.ext hx8
  have cT8 := T8.cell
  have P8 := P7.ext hx8
  have cP8 := P8.cell
  have R8 := R7.ext hx8
  have cR8 := R8.cell
  clear T7 cT7 P7 cP7 R7 cR7
  have e8 := e7.trans hx8
  clear e7 hx8
  have z8 := R8.lt
  have zw8 := e8.size
  have zt := T8.lt
  have zp := P8.lt
  have y0 : ¬ (w.heap.size = w8.heap.size) := by omega
  have y1 : ¬ (w.heap.size + 1 = w8.heap.size) := by omega
  have y2 : ¬ (w.heap.size + 1 + 1 = w8.heap.size) := by omega
  go_wp2_with fail
  refine (side_any _ _ _ _ _ _ (by omega) (by omega) (by omega) (by omega) (by omega) (by omega) _).mono ?_
  rintro e w9 ⟨rfl, hx9⟩
  have T9 : Blk w9 w.heap.size #[.int .i64 ax, .int .i64 ay, .int .i64 bx, .int .i64 by', .int .i64 cx, .int .i64 cy] 52 := Blk.ext (by repeat (first | exact T8 | apply Blk.alloc | refine Blk.far ?_ (by simp <;> omega) _)) hx9
  have P9 : Blk w9 (w.heap.size + 1) #[.int .i64 px, .int .i64 py] 50 := Blk.ext (by repeat (first | exact P8 | apply Blk.alloc | refine Blk.far ?_ (by simp <;> omega) _)) hx9
  have R9 : Blk w9 (w.heap.size + 1 + 1) #[.int .i64 (sd bx by' cx cy px py), .int .i64 (sd cx cy ax ay px py), .int .i64 0] 39 := Blk.ext (by repeat (first | exact R8 | apply Blk.alloc | refine Blk.far ?_ (by simp <;> omega) _)) hx9
  have e9 : Ext w w9 := Ext.trans (by repeat (first | exact e8 | apply Ext.alloc | refine Ext.setCell ?_ (by simp <;> omega) _)) hx9
  clear zt zp y0 y1 y2 hx9 e8 z8 zw8 T8 cT8 P8 cP8 R8 cR8
  have cT9 := T9.cell
  have cP9 := P9.cell
  have cR9 := R9.cell
  have fR := R9.frozen
  go_wp2
  clear fR
  have z9 := R9.lt
  have zw9 := e9.size
  have T10 : Blk (w9.setCell ⟨w.heap.size + 1 + 1, 2, none⟩ (.int .i64 (sd ax ay bx by' px py))) w.heap.size #[.int .i64 ax, .int .i64 ay, .int .i64 bx, .int .i64 by', .int .i64 cx, .int .i64 cy] 52 := T9.far (by simp <;> omega) _
  have P10 : Blk (w9.setCell ⟨w.heap.size + 1 + 1, 2, none⟩ (.int .i64 (sd ax ay bx by' px py))) (w.heap.size + 1) #[.int .i64 px, .int .i64 py] 50 := P9.far (by simp <;> omega) _
  have R10 : Blk (w9.setCell ⟨w.heap.size + 1 + 1, 2, none⟩ (.int .i64 (sd ax ay bx by' px py))) (w.heap.size + 1 + 1) #[.int .i64 (sd bx by' cx cy px py), .int .i64 (sd cx cy ax ay px py), .int .i64 (sd ax ay bx by' px py)] 39 := R9.set 2 _
  have e10 : Ext w (w9.setCell ⟨w.heap.size + 1 + 1, 2, none⟩ (.int .i64 (sd ax ay bx by' px py))) := e9.setCell (by simp <;> omega) _
  generalize (w9.setCell ⟨w.heap.size + 1 + 1, 2, none⟩ (.int .i64 (sd ax ay bx by' px py))) = w10 at *
  clear e9 z9 zw9 T9 cT9 P9 cP9 R9 cR9
  have cT10 := T10.cell
  have cP10 := P10.cell
  have cR10 := R10.cell
  have fR := R10.frozen
  have zw := e10.size
  rw [rounds_succ]
  go_wp2
  exact bodyPost_ret (v := .agg #[.int .i64 (sd bx by' cx cy px py), .int .i64 (sd cx cy ax ay px py), .int .i64 (sd ax ay bx by' px py)]) (by simp [results, Try.results40, go_sem, cR10]) rfl ⟨rfl, by repeat (first | exact e10 | refine Ext.setCell ?_ (by simp <;> omega) _)⟩
end Go.Proofs.Ytglehnmkdapnpaa

