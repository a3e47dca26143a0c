/-
  Contracts of the functions of package grid and of the document's own that reckon with numbers alone: for every 64-bit numbers; no function changes the world.
-/
import Derived.Test.YtehllnbpianpfaaCon
import Derived.Deep.QuietTactic
import Derived.BigQuiet
namespace Go.Proofs.Ytehllnbpianpfaa.Con
open Go.RowKit

/-- How far two numbers are apart, held at the end. -/
def far (a b : Int) : Int := if a ≤ b then held (b - a) else held (a - b)

theorem far_nonneg (a b : Int) : 0 ≤ far a b := by unfold far held; split <;> (split <;> (try split) <;> omega)
theorem far_le (a b : Int) : far a b ≤ 9223372036854775807 := by unfold far held; split <;> (split <;> (try split) <;> omega)
theorem far_fits (a b : Int) : Fits (far a b) := ⟨by have := far_nonneg a b; omega, far_le a b⟩

theorem apart_any (a b : Int) (w : World) (ha : Fits a) (hb : Fits b) :
    Calls Try.prog 31 #[.int .i64 a, .int .i64 b] w fun e w' => e = .returned (.int .i64 (far a b)) ∧ w = w' := by
  go_enter Try.func31, Try.ntmps31
  go_wp2_with (first | ((with_reducible refine (sub_any _ _ _ (by assumption) (by assumption)).mono ?_); rintro e w' ⟨rfl, rfl⟩))
  all_goals
    go_ret
    exact ⟨ret_int (by unfold far held; split <;> (try split) <;> (try split) <;> (try split) <;> (try split) <;> omega), rfl⟩

theorem rfar_any (a b : Int) (w : World) (ha : Fits a) (hb : Fits b) :
    Calls Try.prog 34 #[.int .i64 a, .int .i64 b] w fun e w' => e = .returned (.int .i64 (far a b)) ∧ w = w' := by
  by_cases h : a < b
  · go_enter Try.func34, Try.ntmps34
    go_wp2_with (first | ((with_reducible refine (rsub_any _ _ _ hb ha).mono ?_); rintro e w' ⟨rfl, rfl⟩))
    go_ret
    exact ⟨ret_int (by unfold far; rw [if_pos (by omega)]), rfl⟩
  · have h' : decide (a < b) = false := by simpa using h
    go_enter Try.func34, Try.ntmps34
    go_wp2_with (first | ((with_reducible refine (rsub_any _ _ _ ha hb).mono ?_); rintro e w' ⟨rfl, rfl⟩))
    go_ret
    exact ⟨ret_int (by unfold far held; split <;> (try split) <;> (try split) <;> omega), rfl⟩

def sideB (n : Int) : Bool := decide (1 ≤ n) && decide (n ≤ 256)
/-- The number by one nearer to another one. -/
def nxt (a b : Int) : Int := if a < b then a + 1 else if b < a then a - 1 else a

end Go.Proofs.Ytehllnbpianpfaa.Con
