/-
  Contracts of the functions of package sat and of the law's own small case: what each answers, for every pair (or triple) of 64-bit numbers; no function changes the world.
-/
import Derived.Test.YtmhnkjjcipcjlaaRows
import Derived.WalkKit
import Derived.Lib.Hide
import Derived.Below
import Derived.Deep.QuietTactic
import Derived.BigQuiet

import Derived.BigGuardPart
namespace Go.Proofs.Ytmhnkjjcipcjlaa.Con
open Go.RowKit

theorem ret_int {k : IntKind} {a b : Int} (h : a = b) : Ending.returned (.int k a) = .returned (.int k b) := by rw [h]

/-- A number as 64 bits hold it. -/
def Fits (a : Int) : Prop := -9223372036854775808 ≤ a ∧ a ≤ 9223372036854775807

/-- A number, held at the ends of 64 bits. -/
def held (x : Int) : Int := if 9223372036854775807 < x then 9223372036854775807 else if x < -9223372036854775808 then -9223372036854775808 else x

theorem held_hi {x : Int} (h : 9223372036854775807 ≤ x) : held x = 9223372036854775807 := by unfold held; split <;> (try split) <;> omega
theorem held_lo {x : Int} (h : x ≤ -9223372036854775808) : held x = -9223372036854775808 := by unfold held; split <;> (try split) <;> omega
theorem held_in {x : Int} (h : Fits x) : held x = x := by unfold held; unfold Fits at h; split <;> (try split) <;> omega
theorem held_fits (x : Int) : Fits (held x) := by unfold held Fits; split <;> (try split) <;> omega

theorem add_any (a b : Int) (w : World) (ha : Fits a) (hb : Fits b) :
    Calls Try.prog 18 #[.int .i64 a, .int .i64 b] w fun e w' => e = .returned (.int .i64 (held (a + b))) ∧ w = w' := by
  unfold Fits at ha hb
  by_cases h1 : 0 < b
  · by_cases h2 : 9223372036854775807 - b < a
    · go_enter Try.func18, Try.ntmps18
      go_wp2
      go_ret
      exact ⟨ret_int (held_hi (by omega)).symm, rfl⟩
    · have h2' : decide (9223372036854775807 - b < a) = false := by simpa using h2
      have h3 : decide (b < 0) = false := by simp; omega
      go_enter Try.func18, Try.ntmps18
      go_wp2
      go_ret
      exact ⟨ret_int (held_in ⟨by omega, by omega⟩).symm, rfl⟩
  · have h1' : decide (0 < b) = false := by simpa using h1
    by_cases h3 : b < 0
    · by_cases h2 : a < -9223372036854775808 - b
      · go_enter Try.func18, Try.ntmps18
        go_wp2
        go_ret
        exact ⟨ret_int (held_lo (by omega)).symm, rfl⟩
      · have h2' : decide (a < -9223372036854775808 - b) = false := by simpa using h2
        go_enter Try.func18, Try.ntmps18
        go_wp2
        go_ret
        exact ⟨ret_int (held_in ⟨by omega, by omega⟩).symm, rfl⟩
    · have h3' : decide (b < 0) = false := by simpa using h3
      go_enter Try.func18, Try.ntmps18
      go_wp2
      go_ret
      exact ⟨ret_int (held_in ⟨by omega, by omega⟩).symm, rfl⟩


/-- Where the product of two numbers of one sign is, told by a division. -/
theorem mul_pp {a b M : Int} (hb : 0 < b) : M / b < a ↔ M < a * b := Int.ediv_lt_iff_lt_mul hb
theorem tdiv_by_neg {x y : Int} (hx : 0 ≤ x) : x.tdiv y = -(x / -y) := by
  rw [Int.tdiv_eq_ediv_of_nonneg hx, Int.ediv_neg, Int.neg_neg]
theorem mul_nn {a b : Int} (hb : b < 0) : a < Int.tdiv 9223372036854775807 b ↔ 9223372036854775807 < a * b := by
  rw [tdiv_by_neg (by omega)]
  have h := mul_pp (a := -a) (b := -b) (M := 9223372036854775807) (by omega)
  rw [Int.neg_mul_neg] at h
  omega
theorem mul_pn {a b : Int} (ha : 0 < a) : b < wrap64 (-Int.tdiv 9223372036854775808 a) ↔ a * b < -9223372036854775808 := by
  have h1 : (0 : Int) ≤ 9223372036854775808 / a := Int.ediv_nonneg (by omega) (by omega)
  have h2 : (9223372036854775808 : Int) / a ≤ 9223372036854775808 := Int.ediv_le_self _ (by omega)
  rw [Int.tdiv_eq_ediv_of_nonneg (by omega), IntWalk.wrap64_in _ (by omega)]
  have h := mul_pp (a := -b) (b := a) (M := 9223372036854775808) ha
  rw [Int.neg_mul, Int.mul_comm] at h
  omega
theorem tdiv_fits {b : Int} (hb : b < 0) : Fits (Int.tdiv 9223372036854775807 b) := by
  rw [tdiv_by_neg (by omega)]
  have h1 : (0 : Int) ≤ 9223372036854775807 / -b := Int.ediv_nonneg (by omega) (by omega)
  have h2 : (9223372036854775807 : Int) / -b ≤ 9223372036854775807 := Int.ediv_le_self _ (by omega)
  unfold Fits; omega

/-- The number from lo to hi that is nearest to a; lo, if there is none. -/
def clampI (a lo hi : Int) : Int := if hi < lo then lo else if a < lo then lo else if hi < a then hi else a

/-- Only new memory has been made. -/
def Gr (a b : World) : Prop := Below a.heap.size a b
theorem Gr.refl (W : World) : Gr W W := Below.refl _ _
theorem Gr.alloc {W w' : World} (h : Gr W w') (c : Array Value) (t : TypeId) : Gr W (w'.alloc (.cells c t)) := Below.alloc h (Below.size h) _
theorem Gr.setCell {W w' : World} (h : Gr W w') {p : Addr} (hp : W.heap.size ≤ p.block) (v : Value) : Gr W (w'.setCell p v) := Below.setCell h hp v
theorem Gr.drew {W w' : World} (h : Gr W w') : Gr W w'.drew := Below.drew h
theorem below_drewN {B : Nat} {a w : World} (h : Below B a w) (n : Nat) : Below B a (w.drewN n) := by
  induction n with
  | zero => exact h
  | succ n ih => exact ih.drew
theorem Gr.drewN {W w' : World} (h : Gr W w') (n : Nat) : Gr W (w'.drewN n) := below_drewN h n
theorem grown_trans {a b c : World} (h : Gr a b) (k : Gr b c) : Gr a c := Below.trans h (Below.mono k (Below.size h))
theorem grown_block {a b : World} (h : Gr a b) {i : Nat} (hi : i < a.heap.size) : b.heap[i]? = a.heap[i]? := Below.block h i hi

end Go.Proofs.Ytmhnkjjcipcjlaa.Con
