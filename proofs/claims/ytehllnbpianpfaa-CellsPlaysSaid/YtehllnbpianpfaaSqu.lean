/-
  Contracts of Square, Steps and Near, the program's and the document's: for every two tiles and every number; only new memory is made.
-/
import Derived.Test.YtehllnbpianpfaaSml
import Derived.Test.YtehllnbpianpfaaMul
import Derived.Shelf.Abstract
namespace Go.Proofs.Ytehllnbpianpfaa.Con
open Go.RowKit

/-- A tile as a value. -/
abbrev pv (x y : Int) : Value := .agg #[.int .i64 x, .int .i64 y]

def sqr (ax ay bx by' : Int) : Int := held (held (far ax bx * far ax bx) + held (far ay by' * far ay by'))
def stp (ax ay bx by' : Int) : Int := if far ax bx ≤ far ay by' then far ay by' else far ax bx
def nearB (ax ay bx by' r : Int) : Bool := decide (0 ≤ r) && decide (sqr ax ay bx by' ≤ held (r * r))

theorem sqr_fits (ax ay bx by' : Int) : Fits (sqr ax ay bx by') := held_fits _
theorem stp_fits (ax ay bx by' : Int) : Fits (stp ax ay bx by') := by unfold stp; split <;> exact far_fits _ _

theorem box2 (w : World) (ax ay bx by' : Int) : Below w.heap.size w ((w.alloc (.cells #[.int .i64 ax, .int .i64 ay] 32)).alloc (.cells #[.int .i64 bx, .int .i64 by'] 32)) :=
  ((Below.refl _ w).alloc (Nat.le_refl _) _).alloc (by simp) _

theorem square_any (ax ay bx by' : Int) (w : World) (h1 : Fits ax) (h2 : Fits ay) (h3 : Fits bx) (h4 : Fits by') :
    Calls Try.prog 23 #[pv ax ay, pv bx by'] w fun e w' => e = .returned (.int .i64 (sqr ax ay bx by')) ∧ Below w.heap.size w w' := by
  have f1 := far_fits ax bx
  have f2 := far_fits ay by'
  have g1 := held_fits (far ax bx * far ax bx)
  have g2 := held_fits (far ay by' * far ay by')
  go_enter Try.func23, Try.ntmps23
  go_wp2
  go_quiet ((go_at_call 31; exact Calls.quiet_of_same ((apart_any _ _ _ (by assumption) (by assumption)).mono fun _ _ h => ⟨h.1, h.2.symm⟩)))
  go_wp2_with (first
    | ((with_reducible refine (mul_any _ _ _ (by assumption) (by assumption)).mono ?_); rintro e w' ⟨rfl, rfl⟩)
    | ((with_reducible refine (add_any _ _ _ (by assumption) (by assumption)).mono ?_); rintro e w' ⟨rfl, rfl⟩))
  go_ret
  exact ⟨rfl, below_drewN (box2 w ax ay bx by') _⟩
theorem near_any (ax ay bx by' r : Int) (w : World) (h1 : Fits ax) (h2 : Fits ay) (h3 : Fits bx) (h4 : Fits by') (h5 : Fits r) :
    Calls Try.prog 21 #[pv ax ay, pv bx by', .int .i64 r] w fun e w' => e = .returned (.bool (nearB ax ay bx by' r)) ∧ Below w.heap.size w w' := by
  have g1 := sqr_fits ax ay bx by'
  have hb := box2 w ax ay bx by'
  by_cases h0 : 0 ≤ r
  · go_enter Try.func21, Try.ntmps21
    go_wp2_with (first
      | ((with_reducible refine (square_any _ _ _ _ _ (by assumption) (by assumption) (by assumption) (by assumption)).mono ?_); rintro e w1 ⟨rfl, hB1⟩)
      | ((with_reducible refine (mul_any _ _ _ (by assumption) (by assumption)).mono ?_); rintro e w2 ⟨rfl, rfl⟩))
    go_ret
    exact ⟨by simp [nearB, h0], hb.trans (hB1.mono (by simp; omega))⟩
  · have h0' : decide (0 ≤ r) = false := by simpa using h0
    go_enter Try.func21, Try.ntmps21
    go_wp2
    go_ret
    exact ⟨by simp [nearB]; omega, hb⟩

theorem rsquare_any (ax ay bx by' : Int) (w : World) (h1 : Fits ax) (h2 : Fits ay) (h3 : Fits bx) (h4 : Fits by') :
    Calls Try.prog 25 #[pv ax ay, pv bx by'] w fun e w' => e = .returned (.int .i64 (sqr ax ay bx by')) ∧ Below w.heap.size w w' := by
  have f1 := far_fits ax bx
  have f2 := far_fits ay by'
  have g1 := held_fits (far ax bx * far ax bx)
  have g2 := held_fits (far ay by' * far ay by')
  go_enter Try.func25, Try.ntmps25
  go_wp2_with (first
    | ((with_reducible refine (rfar_any ax bx _ h1 h3).mono ?_); rintro e w' ⟨rfl, rfl⟩)
    | ((with_reducible refine (rfar_any ay by' _ h2 h4).mono ?_); rintro e w' ⟨rfl, rfl⟩)
    | ((with_reducible refine (rmul_any (far ax bx) (far ax bx) _ (by assumption) (by assumption)).mono ?_); rintro e w1 ⟨rfl, hG1⟩)
    | ((with_reducible refine (rmul_any (far ay by') (far ay by') _ (by assumption) (by assumption)).mono ?_); rintro e w2 ⟨rfl, hG2⟩)
    | ((with_reducible refine (radd_any _ _ _ (by assumption) (by assumption)).mono ?_); rintro e w' ⟨rfl, rfl⟩))
  go_ret
  exact ⟨rfl, (box2 w ax ay bx by').trans (Below.mono (grown_trans hG1 hG2) (by simp; omega))⟩

theorem rnear_any (ax ay bx by' r : Int) (w : World) (h1 : Fits ax) (h2 : Fits ay) (h3 : Fits bx) (h4 : Fits by') (h5 : Fits r) :
    Calls Try.prog 27 #[pv ax ay, pv bx by', .int .i64 r] w fun e w' => e = .returned (.bool (nearB ax ay bx by' r)) ∧ Below w.heap.size w w' := by
  have g1 := sqr_fits ax ay bx by'
  have hb := box2 w ax ay bx by'
  by_cases h0 : 0 ≤ r
  · go_enter Try.func27, Try.ntmps27
    go_wp2_with (first
      | ((with_reducible refine (rsquare_any _ _ _ _ _ (by assumption) (by assumption) (by assumption) (by assumption)).mono ?_); rintro e w1 ⟨rfl, hB1⟩)
      | ((with_reducible refine (rmul_any _ _ _ (by assumption) (by assumption)).mono ?_); rintro e w2 ⟨rfl, hG2⟩))
    go_ret
    exact ⟨by simp [nearB, h0], hb.trans ((hB1.mono (by simp; omega)).trans (Below.mono hG2 (by have := hB1.size; simp at this; omega)))⟩
  · have h0' : decide (0 ≤ r) = false := by simpa using h0
    go_enter Try.func27, Try.ntmps27
    go_wp2
    go_ret
    exact ⟨by simp [nearB]; omega, hb⟩

end Go.Proofs.Ytehllnbpianpfaa.Con
