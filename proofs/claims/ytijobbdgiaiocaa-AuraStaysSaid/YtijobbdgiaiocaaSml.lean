/-
  Contracts of the functions of package grid and of the document's own that reckon with numbers alone: for every 64-bit numbers; no function changes the world.
-/
import Derived.Test.YtijobbdgiaiocaaCon
import Derived.Deep.QuietTactic
import Derived.BigQuiet
namespace Go.Proofs.Ytijobbdgiaiocaa.Con
open Go.RowKit

/-- How far two numbers are apart, held at the end. -/
def far (a b : Int) : Int := if a ≤ b then held (b - a) else held (a - b)

theorem far_nonneg (a b : Int) : 0 ≤ far a b := by unfold far held; split <;> (split <;> (try split) <;> omega)
theorem far_le (a b : Int) : far a b ≤ 9223372036854775807 := by unfold far held; split <;> (split <;> (try split) <;> omega)
theorem far_fits (a b : Int) : Fits (far a b) := ⟨by have := far_nonneg a b; omega, far_le a b⟩

def sideB (n : Int) : Bool := decide (1 ≤ n) && decide (n ≤ 256)
theorem isSide_any (n : Int) (w : World) :
    Calls Try.prog 100 #[.int .i64 n] w fun e w' => e = .returned (.bool (sideB n)) ∧ w = w' := by
  by_cases h : 1 ≤ n
  · by_cases h2 : n ≤ 256
    · go_enter Try.func100, Try.ntmps100
      go_wp2
      go_ret
      exact ⟨by simp [sideB, h, h2], rfl⟩
    · have h2' : decide (n ≤ 256) = false := by simpa using h2
      go_enter Try.func100, Try.ntmps100
      go_wp2
      go_ret
      exact ⟨by simp [sideB, h2], rfl⟩
  · have h' : decide (1 ≤ n) = false := by simpa using h
    go_enter Try.func100, Try.ntmps100
    go_wp2
    go_ret
    exact ⟨by simp [sideB]; omega, rfl⟩

/-- The number by one nearer to another one. -/
def nxt (a b : Int) : Int := if a < b then a + 1 else if b < a then a - 1 else a

end Go.Proofs.Ytijobbdgiaiocaa.Con
