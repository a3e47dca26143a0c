/-
  Plain mathematics of the line between two tiles: which tiles of the box it touches, alike both ways, row by row, and how many they are.
-/
import Derived.Test.YtiggpmennomplaaBxi
namespace Go.Proofs.Ytiggpmennomplaa.Lin
open Con

def ab (x : Int) : Int := if x < 0 then -x else x
/-- Twice how far a tile's middle lies off the line, times the line's length. -/
def off (ax ay bx by' x y : Int) : Int := 2 * ((by' - ay) * (x - ax) - (bx - ax) * (y - ay))
def most (ax ay bx by' : Int) : Int := ab (bx - ax) + ab (by' - ay)
/-- On which side of the line a tile lies: 0 where they touch. -/
def sd (ax ay bx by' x y : Int) : Int := if off ax ay bx by' x y < -most ax ay bx by' then -1 else if most ax ay bx by' < off ax ay bx by' x y then 1 else 0
def touch (ax ay bx by' : Int) (q : Tile) : Bool := decide (sd ax ay bx by' q.1.1 q.1.2 = 0)
def lo (a b : Int) : Int := if a ≤ b then a else b
def hi (a b : Int) : Int := if a ≤ b then b else a
def span (a b : Int) : Nat := (hi a b + 1 - lo a b).toNat
/-- The tiles of the line, row by row. -/
def lineL (ax ay bx by' : Int) : List Tile := (rowsAt (lo ax bx) (lo ay by') (span ax bx) (span ay by')).filter (touch ax ay bx by')

theorem lo_comm (a b : Int) : lo b a = lo a b := by unfold lo; split <;> split <;> omega
theorem hi_comm (a b : Int) : hi b a = hi a b := by unfold hi; split <;> split <;> omega
theorem span_comm (a b : Int) : span b a = span a b := by unfold span; rw [lo_comm, hi_comm]
theorem off_comm (ax ay bx by' x y : Int) : off bx by' ax ay x y = - off ax ay bx by' x y := by unfold off; grind
theorem most_comm (ax ay bx by' : Int) : most bx by' ax ay = most ax ay bx by' := by unfold most ab; split <;> split <;> split <;> split <;> omega
theorem most_nonneg (ax ay bx by' : Int) : 0 ≤ most ax ay bx by' := by unfold most ab; split <;> split <;> omega
theorem sd_comm (ax ay bx by' x y : Int) : sd bx by' ax ay x y = - sd ax ay bx by' x y := by
  have := most_nonneg ax ay bx by'
  unfold sd; rw [off_comm, most_comm]; split <;> split <;> (try split) <;> (try split) <;> omega
theorem touch_comm (ax ay bx by' : Int) : touch bx by' ax ay = touch ax ay bx by' := by
  funext q; unfold touch; rw [sd_comm]
  have : (-sd ax ay bx by' q.1.1 q.1.2 = 0) ↔ (sd ax ay bx by' q.1.1 q.1.2 = 0) := by omega
  simp only [this]
theorem lineL_comm (ax ay bx by' : Int) : lineL bx by' ax ay = lineL ax ay bx by' := by
  unfold lineL; rw [lo_comm ax bx, lo_comm ay by', span_comm ax bx, span_comm ay by', touch_comm]

theorem sd_vals (ax ay bx by' x y : Int) : sd ax ay bx by' x y = -1 ∨ sd ax ay bx by' x y = 0 ∨ sd ax ay bx by' x y = 1 := by unfold sd; split <;> (try split) <;> simp
theorem off_mono {ax ay bx by' x x' : Int} (y : Int) (h : ay ≤ by') (hx : x ≤ x') : off ax ay bx by' x y ≤ off ax ay bx by' x' y := by
  unfold off
  have := Int.mul_le_mul_of_nonneg_left (show x - ax ≤ x' - ax by omega) (show 0 ≤ by' - ay by omega)
  omega
theorem sd_mono {ax ay bx by' x x' : Int} (y : Int) (h : ay ≤ by') (hx : x ≤ x') : sd ax ay bx by' x y ≤ sd ax ay bx by' x' y := by
  have h1 := off_mono (ax := ax) (bx := bx) y h hx
  have h2 := most_nonneg ax ay bx by'
  unfold sd; split <;> split <;> (try split) <;> (try split) <;> omega
theorem sd_right {ax ay bx by' y : Int} (h1 : ay ≤ y) (h2 : y ≤ by') : 0 ≤ sd ax ay bx by' (hi ax bx) y := by
  have h3 := most_nonneg ax ay bx by'
  have h4 : 0 ≤ off ax ay bx by' (hi ax bx) y := by
    unfold off hi
    split
    · rename_i hx
      have := Int.mul_le_mul_of_nonneg_left (show y - ay ≤ by' - ay by omega) (show 0 ≤ bx - ax by omega)
      have e : (by' - ay) * (bx - ax) = (bx - ax) * (by' - ay) := Int.mul_comm _ _
      omega
    · rename_i hx
      have := Int.mul_nonneg (show 0 ≤ ax - bx by omega) (show 0 ≤ y - ay by omega)
      have e : (ax - bx) * (y - ay) = - ((bx - ax) * (y - ay)) := by grind
      have e2 : (by' - ay) * (ax - ax) = 0 := by rw [Int.sub_self, Int.mul_zero]
      omega
  unfold sd; split
  · omega
  · split <;> omega

/-- What of a row has come when j of its tiles were asked. -/
def rowF (ax ay bx by' y : Int) (j : Nat) : List Tile := ((Con.rowAt (lo ax bx) y (span ax bx)).take j).filter (touch ax ay bx by')
theorem row_all (ax ay bx by' y : Int) : rowF ax ay bx by' y (span ax bx) = (Con.rowAt (lo ax bx) y (span ax bx)).filter (touch ax ay bx by') := by
  unfold rowF; rw [List.take_of_length_le (by rw [rowAt_len]; exact Nat.le_refl _)]
theorem rows_next (ax ay bx by' : Int) (k : Nat) : (rowsAt (lo ax bx) (lo ay by') (span ax bx) (k + 1)).filter (touch ax ay bx by') =
    (rowsAt (lo ax bx) (lo ay by') (span ax bx) k).filter (touch ax ay bx by') ++ rowF ax ay bx by' (lo ay by' + (k : Int)) (span ax bx) := by
  rw [rowsAt_succ, List.filter_append, row_all]
theorem touch_at {ax ay bx by' x y : Int} (h : (0 ≤ x ∧ x ≤ 256) ∧ 0 ≤ y ∧ y ≤ 256) : touch ax ay bx by' (tileAt x y) = decide (sd ax ay bx by' x y = 0) := by
  unfold touch; rw [tileAt_eq h]
theorem lo_span {a b : Int} {j : Nat} (h : j < span a b) : lo a b ≤ lo a b + (j : Int) ∧ lo a b + (j : Int) ≤ hi a b := by unfold span at h; omega
theorem lo_in {a b : Int} (ha : 0 ≤ a ∧ a ≤ 256) (hb : 0 ≤ b ∧ b ≤ 256) : 0 ≤ lo a b ∧ lo a b ≤ hi a b ∧ hi a b ≤ 256 := by unfold lo hi; split <;> omega
theorem rowF_yes {ax ay bx by' y : Int} {j : Nat} (hj : j < span ax bx) (hx : 0 ≤ lo ax bx ∧ hi ax bx ≤ 256) (hy : 0 ≤ y ∧ y ≤ 256) (h : sd ax ay bx by' (lo ax bx + (j : Int)) y = 0) :
    rowF ax ay bx by' y (j + 1) = rowF ax ay bx by' y j ++ [tileAt (lo ax bx + (j : Int)) y] := by
  have := lo_span hj
  unfold rowF; rw [rowAt_take hj, List.filter_append]
  simp [touch_at (show (0 ≤ lo ax bx + (j : Int) ∧ lo ax bx + (j : Int) ≤ 256) ∧ 0 ≤ y ∧ y ≤ 256 by omega), h]
theorem rowF_no {ax ay bx by' y : Int} {j : Nat} (hj : j < span ax bx) (hx : 0 ≤ lo ax bx ∧ hi ax bx ≤ 256) (hy : 0 ≤ y ∧ y ≤ 256) (h : sd ax ay bx by' (lo ax bx + (j : Int)) y ≠ 0) :
    rowF ax ay bx by' y (j + 1) = rowF ax ay bx by' y j := by
  have := lo_span hj
  unfold rowF; rw [rowAt_take hj, List.filter_append]
  simp [touch_at (show (0 ≤ lo ax bx + (j : Int) ∧ lo ax bx + (j : Int) ≤ 256) ∧ 0 ≤ y ∧ y ≤ 256 by omega), h]
theorem rowF_zero (ax ay bx by' y : Int) : rowF ax ay bx by' y 0 = [] := rfl
theorem rowF_ahead {ax ay bx by' y : Int} {j : Nat} (hj : j ≤ span ax bx) (hx : 0 ≤ lo ax bx ∧ hi ax bx ≤ 256) (hy : 0 ≤ y ∧ y ≤ 256) (h : ∀ i : Nat, i < j → sd ax ay bx by' (lo ax bx + (i : Int)) y ≠ 0) :
    rowF ax ay bx by' y j = [] := by
  induction j with
  | zero => rfl
  | succ j ih => rw [rowF_no (by omega) hx hy (h j (by omega))]; exact ih (by omega) (fun i hi => h i (by omega))
theorem rowF_rest {ax ay bx by' y : Int} {j : Nat} (hj : j ≤ span ax bx) (hx : 0 ≤ lo ax bx ∧ hi ax bx ≤ 256) (hy : 0 ≤ y ∧ y ≤ 256) (h : ∀ i : Nat, j ≤ i → i < span ax bx → sd ax ay bx by' (lo ax bx + (i : Int)) y ≠ 0) :
    rowF ax ay bx by' y (span ax bx) = rowF ax ay bx by' y j := by
  have key : ∀ d : Nat, j + d ≤ span ax bx → rowF ax ay bx by' y (j + d) = rowF ax ay bx by' y j := by
    intro d
    induction d with
    | zero => intro _; rfl
    | succ d ih => intro hd; rw [← Nat.add_assoc, rowF_no (by omega) hx hy (h _ (by omega) (by omega))]; exact ih (by omega)
  have := key (span ax bx - j) (by omega)
  rwa [show j + (span ax bx - j) = span ax bx by omega] at this
end Go.Proofs.Ytiggpmennomplaa.Lin
