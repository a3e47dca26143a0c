/-
  Contracts of sat.Part and of the document's Clamp and Part: for every 64-bit numbers; no function changes the world.
-/
import Derived.Test.YtafglhgpkmnnlaaCon
namespace Go.Proofs.Ytafglhgpkmnnlaa.Con
open Go.RowKit

/-- What a part's two factors are held to. -/
def cpI (a : Int) : Int := clampI a (-2147483647) 2147483647
theorem cpI_fits (a : Int) : -2147483647 ≤ cpI a ∧ cpI a ≤ 2147483647 := by unfold cpI clampI; split <;> (try split) <;> (try split) <;> omega

theorem clampPart_any (a : Int) (w : World) :
    Calls Try.prog 21 #[.int .i64 a] w fun e w' => e = .returned (.int .i64 (cpI a)) ∧ w = w' := by
  go_enter Try.func21, Try.ntmps21
  go_wp2_with (go_at_call 23; refine (clamp_any _ _ _ _).mono ?_; rintro e w' ⟨rfl, rfl⟩)
  go_ret
  exact ⟨rfl, rfl⟩

/-- A part: the product of the two held factors by den, rounded towards 0; 0, if den is below 1. -/
def partI (a num den : Int) : Int := if den < 1 then 0 else (cpI a * cpI num).tdiv den

theorem prod_fits {x y : Int} (hx : -2147483647 ≤ x ∧ x ≤ 2147483647) (hy : -2147483647 ≤ y ∧ y ≤ 2147483647) : -4611686014132420609 ≤ x * y ∧ x * y ≤ 4611686014132420609 := by
  have h1 : x.natAbs ≤ 2147483647 := by omega
  have h2 : y.natAbs ≤ 2147483647 := by omega
  have h3 : (x * y).natAbs ≤ 2147483647 * 2147483647 := by rw [Int.natAbs_mul]; exact Nat.mul_le_mul h1 h2
  omega

theorem part_any (a num den : Int) (w : World) (hd : Fits den) :
    Calls Try.prog 19 #[.int .i64 a, .int .i64 num, .int .i64 den] w fun e w' => e = .returned (.int .i64 (partI a num den)) ∧ w = w' := by
  unfold Fits at hd
  by_cases h : den < 1
  · go_enter Try.func19, Try.ntmps19
    go_wp2
    go_ret
    exact ⟨ret_int (by unfold partI; split <;> omega), rfl⟩
  · have h' : decide (den < 1) = false := by simpa using h
    have hp := prod_fits (cpI_fits a) (cpI_fits num)
    go_enter Try.func19, Try.ntmps19
    go_wp2_with (go_at_call 21; refine (clampPart_any _ _).mono ?_; rintro e w' ⟨rfl, rfl⟩)
    go_ret
    exact ⟨ret_int (by unfold partI; split <;> first | omega | rfl), rfl⟩

theorem rclamp_any (a lo hi : Int) (w : World) :
    Calls Try.prog 22 #[.int .i64 a, .int .i64 lo, .int .i64 hi] w fun e w' => e = .returned (.int .i64 (clampI a lo hi)) ∧ w = w' := by
  by_cases h1 : hi < lo
  · go_enter Try.func22, Try.ntmps22
    go_wp2
    go_ret
    exact ⟨ret_int (by unfold clampI; split <;> (try split) <;> (try split) <;> omega), rfl⟩
  · have h1' : decide (hi < lo) = false := by simpa using h1
    by_cases h2 : a < lo
    · go_enter Try.func22, Try.ntmps22
      go_wp2
      go_ret
      exact ⟨ret_int (by unfold clampI; split <;> (try split) <;> (try split) <;> omega), rfl⟩
    · have h2' : decide (a < lo) = false := by simpa using h2
      by_cases h3 : hi < a
      · go_enter Try.func22, Try.ntmps22
        go_wp2
        go_ret
        exact ⟨ret_int (by unfold clampI; split <;> (try split) <;> (try split) <;> omega), rfl⟩
      · have h3' : decide (hi < a) = false := by simpa using h3
        go_enter Try.func22, Try.ntmps22
        go_wp2
        go_ret
        exact ⟨ret_int (by unfold clampI; split <;> (try split) <;> (try split) <;> omega), rfl⟩

theorem rclampPart (a : Int) (w : World) :
    Calls Try.prog 22 #[.int .i64 a, .int .i64 (-2147483647), .int .i64 2147483647] w fun e w' => e = .returned (.int .i64 (cpI a)) ∧ w = w' := rclamp_any _ _ _ w

theorem rpart_any (a num den : Int) (w : World) (hd : Fits den) :
    Calls Try.prog 20 #[.int .i64 a, .int .i64 num, .int .i64 den] w fun e w' => e = .returned (.int .i64 (partI a num den)) ∧ w = w' := by
  unfold Fits at hd
  by_cases h : den < 1
  · go_enter Try.func20, Try.ntmps20
    go_wp2
    go_ret
    exact ⟨ret_int (by unfold partI; split <;> omega), rfl⟩
  · have h' : decide (den < 1) = false := by simpa using h
    have hp := prod_fits (cpI_fits a) (cpI_fits num)
    go_enter Try.func20, Try.ntmps20
    go_wp2_with (go_at_call 22; refine (rclampPart _ _).mono ?_; rintro e w' ⟨rfl, rfl⟩)
    go_ret
    exact ⟨ret_int (by unfold partI; split <;> first | omega | rfl), rfl⟩
end Go.Proofs.Ytafglhgpkmnnlaa.Con
