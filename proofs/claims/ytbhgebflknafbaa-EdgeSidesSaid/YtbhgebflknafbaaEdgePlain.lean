/-
  DERIVED. Plain facts on edge functions (layer 3): sides, who owns a way, what is covered; no Go in sight. A point on a way counts as one a little to its right and, less, below ('sh').
-/
namespace Go.Proofs.Ytbhgebflknafbaa.Edge
def side (ax ay bx by' cx cy : Int) : Int := (bx - ax) * (cy - ay) - (by' - ay) * (cx - ax)
/-- the way from a to b owns the points on it -/
def own (ax ay bx by' : Int) : Prop := by' < ay ∨ (by' = ay ∧ ax < bx)
def wOk (ax ay bx by' px py : Int) : Prop := 0 < side ax ay bx by' px py ∨ (side ax ay bx by' px py = 0 ∧ own ax ay bx by')
def cov (ax ay bx by' cx cy px py : Int) : Prop := 0 < side ax ay bx by' cx cy ∧ wOk bx by' cx cy px py ∧ wOk cx cy ax ay px py ∧ wOk ax ay bx by' px py
/-- of a point a little to the right and, less, below -/
def sh (ax ay bx by' px py : Int) : Int := 16777216 * side ax ay bx by' px py + 4096 * (ay - by') + (bx - ax)
def near (x y : Int) : Prop := -1023 ≤ x - y ∧ x - y ≤ 1023
theorem near.symm {x y : Int} (h : near x y) : near y x := by unfold near at *; omega

theorem wOk_iff {ax ay bx by' px py : Int} (h1 : near ax bx) (h2 : near ay by') : wOk ax ay bx by' px py ↔ 0 < sh ax ay bx by' px py := by
  unfold wOk own sh near at *
  generalize side ax ay bx by' px py = s at *
  omega
theorem sh_ne {ax ay bx by' px py : Int} (h1 : near ax bx) (h2 : near ay by') (h : ¬ (ax = bx ∧ ay = by')) : sh ax ay bx by' px py ≠ 0 := by
  unfold sh near at *
  generalize side ax ay bx by' px py = s at *
  omega
theorem sh_anti (ax ay bx by' px py : Int) : sh bx by' ax ay px py = - sh ax ay bx by' px py := by
  unfold sh side; grind
theorem sh_bal (ax ay bx by' cx cy qx qy px py : Int) : side bx by' cx cy qx qy * sh qx qy ax ay px py + side cx cy ax ay qx qy * sh qx qy bx by' px py + side ax ay bx by' qx qy * sh qx qy cx cy px py = 0 := by
  unfold sh side; grind
theorem sh_in (ax ay bx by' cx cy qx qy px py : Int) :
    side ax ay bx by' qx qy * sh bx by' cx cy px py = sh bx by' qx qy px py * side ax ay bx by' cx cy + sh ax ay bx by' px py * side bx by' cx cy qx qy := by
  unfold sh side; grind
theorem sh_in2 (ax ay bx by' cx cy qx qy px py : Int) :
    side ax ay bx by' qx qy * sh cx cy ax ay px py = sh qx qy ax ay px py * side ax ay bx by' cx cy + sh ax ay bx by' px py * side cx cy ax ay qx qy := by
  unfold sh side; grind
theorem side_anti (ax ay bx by' px py : Int) : side bx by' ax ay px py = - side ax ay bx by' px py := by
  unfold side; grind
theorem side_turn (ax ay bx by' cx cy : Int) : side bx by' cx cy ax ay = side ax ay bx by' cx cy := by
  unfold side; grind
theorem side_swap (ax ay bx by' cx cy : Int) : side ax ay cx cy bx by' = - side ax ay bx by' cx cy := by
  unfold side; grind
theorem side_sum (ax ay bx by' cx cy px py : Int) : side bx by' cx cy px py + side cx cy ax ay px py + side ax ay bx by' px py = side ax ay bx by' cx cy := by
  unfold side; grind
theorem side_self1 (ax ay bx by' : Int) : side ax ay bx by' ax ay = 0 := by unfold side; grind
theorem side_self2 (ax ay bx by' : Int) : side ax ay bx by' bx by' = 0 := by unfold side; grind
theorem bary_x (ax ay bx by' cx cy px py : Int) : side bx by' cx cy px py * (ax - px) + side cx cy ax ay px py * (bx - px) + side ax ay bx by' px py * (cx - px) = 0 := by
  unfold side; grind
theorem bary_y (ax ay bx by' cx cy px py : Int) : side bx by' cx cy px py * (ay - py) + side cx cy ax ay px py * (by' - py) + side ax ay bx by' px py * (cy - py) = 0 := by
  unfold side; grind
theorem side_move (ax ay bx by' cx cy dx dy : Int) : side (ax + dx) (ay + dy) (bx + dx) (by' + dy) (cx + dx) (cy + dy) = side ax ay bx by' cx cy := by
  unfold side; grind
theorem side_twice (ax ay bx by' cx cy : Int) : side (2 * ax) (2 * ay) (2 * bx) (2 * by') (2 * cx) (2 * cy) = 4 * side ax ay bx by' cx cy := by
  unfold side; grind

/-- three numbers that come to 0 with weights above 0 are neither all above 0 nor all below -/
theorem bal_signs {la lb lc ea eb ec : Int} (h1 : 0 < la) (h2 : 0 < lb) (h3 : 0 < lc) (h : la * ea + lb * eb + lc * ec = 0) : ¬ (0 < ea ∧ 0 < eb ∧ 0 < ec) ∧ ¬ (ea < 0 ∧ eb < 0 ∧ ec < 0) := by
  constructor
  · rintro ⟨a, b, c⟩
    have := Int.mul_pos h1 a
    have := Int.mul_pos h2 b
    have := Int.mul_pos h3 c
    omega
  · rintro ⟨a, b, c⟩
    have := Int.mul_neg_of_pos_of_neg h1 a
    have := Int.mul_neg_of_pos_of_neg h2 b
    have := Int.mul_neg_of_pos_of_neg h3 c
    omega
theorem pos_of_mul {l s x y u v : Int} (hl : 0 < l) (h : l * s = x * y + u * v) (hx : 0 < x) (hy : 0 < y) (hu : 0 < u) (hv : 0 < v) : 0 < s := by
  have h1 := Int.mul_pos hx hy
  have h2 := Int.mul_pos hu hv
  have h3 : 0 < l * s := by omega
  exact Int.pos_of_mul_pos_right h3 (by omega)

def Near3 (ax ay bx by' : Int) : Prop := near ax bx ∧ near ay by'

theorem fans {ax ay bx by' cx cy qx qy px py : Int} (nab : Near3 ax ay bx by') (nbc : Near3 bx by' cx cy) (nca : Near3 cx cy ax ay) (nqa : Near3 qx qy ax ay) (nqb : Near3 qx qy bx by') (nqc : Near3 qx qy cx cy)
    (ha : 0 < side bx by' cx cy qx qy) (hb : 0 < side cx cy ax ay qx qy) (hc : 0 < side ax ay bx by' qx qy) :
    ((cov ax ay bx by' qx qy px py ∨ cov bx by' cx cy qx qy px py ∨ cov cx cy ax ay qx qy px py) ↔ cov ax ay bx by' cx cy px py) ∧
    ¬ (cov ax ay bx by' qx qy px py ∧ cov bx by' cx cy qx qy px py) ∧ ¬ (cov bx by' cx cy qx qy px py ∧ cov cx cy ax ay qx qy px py) ∧ ¬ (cov cx cy ax ay qx qy px py ∧ cov ax ay bx by' qx qy px py) := by
  have hA : 0 < side ax ay bx by' cx cy := by have := side_sum ax ay bx by' cx cy qx qy; omega
  have hA2 : 0 < side bx by' cx cy ax ay := by rw [side_turn]; exact hA
  have hA3 : 0 < side cx cy ax ay bx by' := by rw [side_turn]; exact hA2
  have ea0 : sh qx qy ax ay px py ≠ 0 := sh_ne nqa.1 nqa.2 (by rintro ⟨rfl, rfl⟩; rw [side_self1] at hc; omega)
  have eb0 : sh qx qy bx by' px py ≠ 0 := sh_ne nqb.1 nqb.2 (by rintro ⟨rfl, rfl⟩; rw [side_self1] at ha; omega)
  have ec0 : sh qx qy cx cy px py ≠ 0 := sh_ne nqc.1 nqc.2 (by rintro ⟨rfl, rfl⟩; rw [side_self1] at hb; omega)
  have hbal := bal_signs ha hb hc (sh_bal ax ay bx by' cx cy qx qy px py)
  have c1 : cov ax ay bx by' qx qy px py ↔ 0 < - sh qx qy bx by' px py ∧ 0 < sh qx qy ax ay px py ∧ 0 < sh ax ay bx by' px py := by
    unfold cov
    rw [wOk_iff nqb.1.symm nqb.2.symm, wOk_iff nqa.1 nqa.2, wOk_iff nab.1 nab.2, sh_anti qx qy bx by']
    exact ⟨fun h => h.2, fun h => ⟨hc, h⟩⟩
  have c2 : cov bx by' cx cy qx qy px py ↔ 0 < - sh qx qy cx cy px py ∧ 0 < sh qx qy bx by' px py ∧ 0 < sh bx by' cx cy px py := by
    unfold cov
    rw [wOk_iff nqc.1.symm nqc.2.symm, wOk_iff nqb.1 nqb.2, wOk_iff nbc.1 nbc.2, sh_anti qx qy cx cy]
    exact ⟨fun h => h.2, fun h => ⟨ha, h⟩⟩
  have c3 : cov cx cy ax ay qx qy px py ↔ 0 < - sh qx qy ax ay px py ∧ 0 < sh qx qy cx cy px py ∧ 0 < sh cx cy ax ay px py := by
    unfold cov
    rw [wOk_iff nqa.1.symm nqa.2.symm, wOk_iff nqc.1 nqc.2, wOk_iff nca.1 nca.2, sh_anti qx qy ax ay]
    exact ⟨fun h => h.2, fun h => ⟨hb, h⟩⟩
  have c0 : cov ax ay bx by' cx cy px py ↔ 0 < sh bx by' cx cy px py ∧ 0 < sh cx cy ax ay px py ∧ 0 < sh ax ay bx by' px py := by
    unfold cov
    rw [wOk_iff nbc.1 nbc.2, wOk_iff nca.1 nca.2, wOk_iff nab.1 nab.2]
    exact ⟨fun h => h.2, fun h => ⟨hA, h⟩⟩
  have d1 : cov ax ay bx by' qx qy px py → cov ax ay bx by' cx cy px py := fun h => by
    obtain ⟨h1, h2, h3⟩ := c1.1 h
    have i1 := sh_in ax ay bx by' cx cy qx qy px py
    have i2 := sh_in2 ax ay bx by' cx cy qx qy px py
    rw [sh_anti qx qy bx by'] at i1
    exact c0.2 ⟨pos_of_mul hc i1 h1 hA h3 ha, pos_of_mul hc i2 h2 hA h3 hb, h3⟩
  have d2 : cov bx by' cx cy qx qy px py → cov ax ay bx by' cx cy px py := fun h => by
    obtain ⟨h1, h2, h3⟩ := c2.1 h
    have i1 := sh_in bx by' cx cy ax ay qx qy px py
    have i2 := sh_in2 bx by' cx cy ax ay qx qy px py
    rw [sh_anti qx qy cx cy] at i1
    exact c0.2 ⟨h3, pos_of_mul ha i1 h1 hA2 h3 hb, pos_of_mul ha i2 h2 hA2 h3 hc⟩
  have d3 : cov cx cy ax ay qx qy px py → cov ax ay bx by' cx cy px py := fun h => by
    obtain ⟨h1, h2, h3⟩ := c3.1 h
    have i1 := sh_in cx cy ax ay bx by' qx qy px py
    have i2 := sh_in2 cx cy ax ay bx by' qx qy px py
    rw [sh_anti qx qy ax ay] at i1
    exact c0.2 ⟨pos_of_mul hb i2 h2 hA3 h3 ha, h3, pos_of_mul hb i1 h1 hA3 h3 hc⟩
  refine ⟨⟨fun h => h.elim d1 fun h => h.elim d2 d3, fun h => ?_⟩, ?_, ?_, ?_⟩
  · rw [c1, c2, c3]
    have := c0.1 h
    omega
  all_goals
    rintro ⟨h, h'⟩
    first | rw [c1] at h | rw [c2] at h | rw [c3] at h
    first | rw [c1] at h' | rw [c2] at h' | rw [c3] at h'
    omega

/-- two triangles on both sides of one way -/
theorem shared_not_both {ax ay bx by' cx cy dx dy px py : Int} (n : Near3 ax ay bx by') : ¬ (cov ax ay bx by' cx cy px py ∧ cov bx by' ax ay dx dy px py) := by
  rintro ⟨h, h'⟩
  have h1 := (wOk_iff n.1 n.2).1 h.2.2.2
  have h2 := (wOk_iff n.1.symm n.2.symm).1 h'.2.2.2
  rw [sh_anti ax ay bx by'] at h2
  omega
theorem own_either {ax ay bx by' : Int} (h : ¬ (ax = bx ∧ ay = by')) : (own ax ay bx by' ∨ own bx by' ax ay) ∧ ¬ (own ax ay bx by' ∧ own bx by' ax ay) := by
  unfold own; omega
theorem shared_one {ax ay bx by' cx cy dx dy px py : Int} (h1 : 0 < side ax ay bx by' cx cy) (h2 : 0 < side bx by' ax ay dx dy) (h0 : side ax ay bx by' px py = 0)
    (w0 : 0 < side bx by' cx cy px py) (w1 : 0 < side cx cy ax ay px py) (v0 : 0 < side ax ay dx dy px py) (v1 : 0 < side dx dy bx by' px py) : cov ax ay bx by' cx cy px py ∨ cov bx by' ax ay dx dy px py := by
  have hne : ¬ (ax = bx ∧ ay = by') := by
    rintro ⟨rfl, rfl⟩
    have : side ax ay ax ay cx cy = 0 := by unfold side; grind
    omega
  have h0' : side bx by' ax ay px py = 0 := by rw [side_anti]; omega
  rcases (own_either hne).1 with h | h
  · exact .inl ⟨h1, .inl w0, .inl w1, .inr ⟨h0, h⟩⟩
  · exact .inr ⟨h2, .inl v0, .inl v1, .inr ⟨h0', h⟩⟩

/-- whichever point is the first -/
theorem cov_turn {ax ay bx by' cx cy px py : Int} : cov bx by' cx cy ax ay px py ↔ cov ax ay bx by' cx cy px py := by
  unfold cov; rw [side_turn]
  exact ⟨fun h => ⟨h.1, h.2.2.2, h.2.1, h.2.2.1⟩, fun h => ⟨h.1, h.2.2.1, h.2.2.2, h.2.1⟩⟩
theorem cov_area {ax ay bx by' cx cy px py : Int} (h : cov ax ay bx by' cx cy px py) : 0 < side ax ay bx by' cx cy := h.1

/-- all moved by the same; all made twice as great -/
theorem own_move (ax ay bx by' dx dy : Int) : own (ax + dx) (ay + dy) (bx + dx) (by' + dy) ↔ own ax ay bx by' := by unfold own; omega
theorem own_twice (ax ay bx by' : Int) : own (2 * ax) (2 * ay) (2 * bx) (2 * by') ↔ own ax ay bx by' := by unfold own; omega
theorem wOk_move (ax ay bx by' px py dx dy : Int) : wOk (ax + dx) (ay + dy) (bx + dx) (by' + dy) (px + dx) (py + dy) ↔ wOk ax ay bx by' px py := by
  unfold wOk; rw [side_move, own_move]
theorem wOk_twice (ax ay bx by' px py : Int) : wOk (2 * ax) (2 * ay) (2 * bx) (2 * by') (2 * px) (2 * py) ↔ wOk ax ay bx by' px py := by
  unfold wOk; rw [side_twice, own_twice]
  constructor
  · rintro (h | ⟨h, h'⟩)
    · exact .inl (by omega)
    · exact .inr ⟨by omega, h'⟩
  · rintro (h | ⟨h, h'⟩)
    · exact .inl (by omega)
    · exact .inr ⟨by omega, h'⟩
theorem cov_move (ax ay bx by' cx cy px py dx dy : Int) : cov (ax + dx) (ay + dy) (bx + dx) (by' + dy) (cx + dx) (cy + dy) (px + dx) (py + dy) ↔ cov ax ay bx by' cx cy px py := by
  unfold cov; rw [side_move, wOk_move, wOk_move, wOk_move]
theorem cov_twice (ax ay bx by' cx cy px py : Int) : cov (2 * ax) (2 * ay) (2 * bx) (2 * by') (2 * cx) (2 * cy) (2 * px) (2 * py) ↔ cov ax ay bx by' cx cy px py := by
  unfold cov; rw [side_twice, wOk_twice, wOk_twice, wOk_twice]
  constructor <;> (rintro ⟨h, h'⟩; exact ⟨by omega, h'⟩)

/-- a weighted mean lies between -/
theorem mean_le {u v w x y z p : Int} (hu : 0 ≤ u) (hv : 0 ≤ v) (hw : 0 ≤ w) (hs : 0 < u + v + w) (h : u * (x - p) + v * (y - p) + w * (z - p) = 0) : (x ≤ p ∨ y ≤ p ∨ z ≤ p) ∧ (p ≤ x ∨ p ≤ y ∨ p ≤ z) := by
  constructor
  · by_cases hx : x ≤ p
    · exact .inl hx
    · by_cases hy : y ≤ p
      · exact .inr (.inl hy)
      · by_cases hz : z ≤ p
        · exact .inr (.inr hz)
        · exfalso
          have a1 := Int.mul_nonneg hu (show 0 ≤ x - p - 1 by omega)
          have a2 := Int.mul_nonneg hv (show 0 ≤ y - p - 1 by omega)
          have a3 := Int.mul_nonneg hw (show 0 ≤ z - p - 1 by omega)
          rw [Int.mul_sub, Int.mul_one] at a1 a2 a3
          omega
  · by_cases hx : p ≤ x
    · exact .inl hx
    · by_cases hy : p ≤ y
      · exact .inr (.inl hy)
      · by_cases hz : p ≤ z
        · exact .inr (.inr hz)
        · exfalso
          have a1 := Int.mul_nonneg hu (show 0 ≤ -(x - p) - 1 by omega)
          have a2 := Int.mul_nonneg hv (show 0 ≤ -(y - p) - 1 by omega)
          have a3 := Int.mul_nonneg hw (show 0 ≤ -(z - p) - 1 by omega)
          rw [Int.mul_sub, Int.mul_neg, Int.mul_one] at a1 a2 a3
          omega
theorem wOk_nonneg {ax ay bx by' px py : Int} (h : wOk ax ay bx by' px py) : 0 ≤ side ax ay bx by' px py := by unfold wOk at h; omega
theorem cov_box {ax ay bx by' cx cy px py : Int} (h : cov ax ay bx by' cx cy px py) :
    ((ax ≤ px ∨ bx ≤ px ∨ cx ≤ px) ∧ (px ≤ ax ∨ px ≤ bx ∨ px ≤ cx)) ∧ ((ay ≤ py ∨ by' ≤ py ∨ cy ≤ py) ∧ (py ≤ ay ∨ py ≤ by' ∨ py ≤ cy)) := by
  obtain ⟨h0, h1, h2, h3⟩ := h
  have s := side_sum ax ay bx by' cx cy px py
  exact ⟨mean_le (wOk_nonneg h1) (wOk_nonneg h2) (wOk_nonneg h3) (by omega) (bary_x ax ay bx by' cx cy px py), mean_le (wOk_nonneg h1) (wOk_nonneg h2) (wOk_nonneg h3) (by omega) (bary_y ax ay bx by' cx cy px py)⟩
theorem cov_corner (ax ay bx by' cx cy : Int) : cov ax ay bx by' cx cy ax ay ↔ 0 < side ax ay bx by' cx cy ∧ own ax ay bx by' ∧ own cx cy ax ay := by
  have e := side_turn ax ay bx by' cx cy
  unfold cov wOk
  rw [side_self1, side_self2, e]
  constructor
  · rintro ⟨h, _, h2, h3⟩
    exact ⟨h, (h3.resolve_left (by omega)).2, (h2.resolve_left (by omega)).2⟩
  · rintro ⟨h, h2, h3⟩
    exact ⟨h, .inl h, .inr ⟨rfl, h3⟩, .inr ⟨rfl, h2⟩⟩
end Go.Proofs.Ytbhgebflknafbaa.Edge
