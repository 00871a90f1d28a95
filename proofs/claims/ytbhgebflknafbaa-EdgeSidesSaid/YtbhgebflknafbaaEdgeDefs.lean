/-
  DERIVED. Layer 3 (edge) as functions on whole numbers, coordinates limited: what the calls return.
-/
import Derived.Test.YtbhgebflknafbaaEdgePlain
namespace Go.Proofs.Ytbhgebflknafbaa

/-- within a point's bounds -/
def nr (x : Int) : Int := max (-16384) (min x 16384)
theorem nr_bd (x : Int) : -16384 ≤ nr x ∧ nr x ≤ 16384 := by unfold nr; omega
theorem nr_id {x : Int} (h1 : -16384 ≤ x) (h2 : x ≤ 16384) : nr x = x := by unfold nr; omega
def sd (ax ay bx by' cx cy : Int) : Int := Edge.side (nr ax) (nr ay) (nr bx) (nr by') (nr cx) (nr cy)
def ownB (ax ay bx by' : Int) : Bool := decide (nr by' < nr ay) || (decide (nr by' = nr ay) && decide (nr ax < nr bx))
def wB (ax ay bx by' px py : Int) : Bool := decide (0 < sd ax ay bx by' px py) || (decide (sd ax ay bx by' px py = 0) && ownB ax ay bx by')
def covB (ax ay bx by' cx cy px py : Int) : Bool := decide (0 < sd ax ay bx by' cx cy) && (wB bx by' cx cy px py && (wB cx cy ax ay px py && wB ax ay bx by' px py))

theorem ownB_iff (ax ay bx by' : Int) : ownB ax ay bx by' = true ↔ Edge.own (nr ax) (nr ay) (nr bx) (nr by') := by
  unfold ownB Edge.own; simp
theorem wB_iff (ax ay bx by' px py : Int) : wB ax ay bx by' px py = true ↔ Edge.wOk (nr ax) (nr ay) (nr bx) (nr by') (nr px) (nr py) := by
  unfold wB Edge.wOk
  rw [Bool.or_eq_true, Bool.and_eq_true, ownB_iff, decide_eq_true_iff, decide_eq_true_iff]
  rfl
theorem covB_iff (ax ay bx by' cx cy px py : Int) : covB ax ay bx by' cx cy px py = true ↔ Edge.cov (nr ax) (nr ay) (nr bx) (nr by') (nr cx) (nr cy) (nr px) (nr py) := by
  unfold covB Edge.cov
  rw [Bool.and_eq_true, Bool.and_eq_true, Bool.and_eq_true, wB_iff, wB_iff, wB_iff, decide_eq_true_iff]
  rfl

/-- the product of two differences -/
theorem diff_mul {a b c d : Int} (ha : -16384 ≤ a ∧ a ≤ 16384) (hb : -16384 ≤ b ∧ b ≤ 16384) (hc : -16384 ≤ c ∧ c ≤ 16384) (hd : -16384 ≤ d ∧ d ≤ 16384) : -1073741824 ≤ (b - a) * (d - c) ∧ (b - a) * (d - c) ≤ 1073741824 := by
  have h : ((b - a) * (d - c)).natAbs ≤ 32768 * 32768 := by
    rw [Int.natAbs_mul]; exact Nat.mul_le_mul (by omega) (by omega)
  omega
theorem sd_bd (ax ay bx by' cx cy : Int) : -2147483648 ≤ sd ax ay bx by' cx cy ∧ sd ax ay bx by' cx cy ≤ 2147483648 := by
  have h1 := diff_mul (nr_bd ax) (nr_bd bx) (nr_bd ay) (nr_bd cy)
  have h2 := diff_mul (nr_bd ay) (nr_bd by') (nr_bd ax) (nr_bd cx)
  unfold sd Edge.side
  omega

end Go.Proofs.Ytbhgebflknafbaa
