/-
  Plain mathematics of how far tiles are apart: alike both ways, 0 just of one tile, and what is near is within as many steps.
-/
import Derived.Test.YtiggpmennomplaaSqu
namespace Go.Proofs.Ytiggpmennomplaa.Con

theorem held_nonneg {x : Int} (h : 0 ≤ x) : 0 ≤ held x := by unfold held; split <;> (try split) <;> omega
theorem held_pos {x : Int} (h : 1 ≤ x) : 1 ≤ held x := by unfold held; split <;> (try split) <;> omega
theorem held_gt {x m : Int} (h : m < x) (hm : m < 9223372036854775807) : m < held x := by unfold held; split <;> (try split) <;> omega
theorem held_zero : held 0 = 0 := by unfold held; split <;> (try split) <;> omega
theorem far_comm (a b : Int) : far a b = far b a := by
  unfold far
  by_cases h : a ≤ b
  · by_cases h2 : b ≤ a
    · have : a = b := by omega
      subst this; rfl
    · rw [if_pos h, if_neg h2]
  · rw [if_neg h, if_pos (by omega)]
theorem far_self (a : Int) : far a a = 0 := by unfold far; rw [if_pos (Int.le_refl _), Int.sub_self, held_zero]
theorem far_ne {a b : Int} (h : a ≠ b) : 1 ≤ far a b := by
  unfold far
  split
  · exact held_pos (by omega)
  · exact held_pos (by omega)
theorem sqr_comm (ax ay bx by' : Int) : sqr bx by' ax ay = sqr ax ay bx by' := by unfold sqr; rw [far_comm bx ax, far_comm by' ay]
theorem stp_comm (ax ay bx by' : Int) : stp bx by' ax ay = stp ax ay bx by' := by unfold stp; rw [far_comm bx ax, far_comm by' ay]
theorem nearB_comm (ax ay bx by' r : Int) : nearB bx by' ax ay r = nearB ax ay bx by' r := by unfold nearB; rw [sqr_comm]
theorem sq_nonneg (x : Int) : 0 ≤ x * x := by
  rcases Int.le_total 0 x with h | h
  · exact Int.mul_nonneg h h
  · exact Int.mul_nonneg_of_nonpos_of_nonpos h h
theorem sqr_nonneg (ax ay bx by' : Int) : 0 ≤ sqr ax ay bx by' := by
  have h1 := held_nonneg (sq_nonneg (far ax bx))
  have h2 := held_nonneg (sq_nonneg (far ay by'))
  exact held_nonneg (by omega)
theorem stp_nonneg (ax ay bx by' : Int) : 0 ≤ stp ax ay bx by' := by unfold stp; split <;> exact far_nonneg _ _
theorem sqr_same (ax ay : Int) : sqr ax ay ax ay = 0 := by unfold sqr; rw [far_self, far_self]; decide
theorem stp_same (ax ay : Int) : stp ax ay ax ay = 0 := by unfold stp; rw [far_self, far_self]; rfl
theorem one_sq {x : Int} (h : 1 ≤ x) : 1 ≤ x * x := by have := Int.mul_pos (show 0 < x by omega) (show 0 < x by omega); omega
theorem sqr_ne {ax ay bx by' : Int} (h : ¬ (ax = bx ∧ ay = by')) : 1 ≤ sqr ax ay bx by' := by
  have h1 := held_nonneg (sq_nonneg (far ax bx))
  have h2 := held_nonneg (sq_nonneg (far ay by'))
  by_cases hx : ax = bx
  · have := held_pos (one_sq (far_ne (a := ay) (b := by') (fun e => h ⟨hx, e⟩)))
    exact held_pos (by omega)
  · have := held_pos (one_sq (far_ne hx))
    exact held_pos (by omega)
theorem stp_ne {ax ay bx by' : Int} (h : ¬ (ax = bx ∧ ay = by')) : 1 ≤ stp ax ay bx by' := by
  unfold stp
  by_cases hx : ax = bx
  · have := far_ne (a := ay) (b := by') (fun e => h ⟨hx, e⟩)
    split <;> omega
  · have := far_ne hx
    split <;> omega
theorem sq_big {x r : Int} (h0 : 0 ≤ r) (h1 : r ≤ 2147483648) (h : r < x) : r * r < held (x * x) ∧ r * r ≤ 4611686018427387904 := by
  have e1 : (r + 1) * (r + 1) ≤ x * x := Int.mul_le_mul (by omega) (by omega) (by omega) (by omega)
  have e2 : r * r ≤ 2147483648 * 2147483648 := Int.mul_le_mul h1 h1 h0 (by omega)
  have e3 : (r + 1) * (r + 1) = r * r + 2 * r + 1 := by grind
  exact ⟨held_gt (by omega) (by omega), by omega⟩
theorem near_steps {ax ay bx by' r : Int} (h0 : 0 ≤ r) (h1 : r ≤ 2147483648) (hn : nearB ax ay bx by' r = true) : stp ax ay bx by' ≤ r := by
  unfold nearB at hn
  simp only [Bool.and_eq_true, decide_eq_true_eq] at hn
  have hs := hn.2
  have e2 : r * r ≤ 2147483648 * 2147483648 := Int.mul_le_mul h1 h1 h0 (by omega)
  have e0 := sq_nonneg r
  rw [held_in ⟨by omega, by omega⟩] at hs
  have n1 := held_nonneg (sq_nonneg (far ax bx))
  have n2 := held_nonneg (sq_nonneg (far ay by'))
  have key : ∀ x, r < x → (held (x * x) ≤ held (far ax bx * far ax bx) + held (far ay by' * far ay by')) → False := by
    intro x hx hle
    obtain ⟨b1, b2⟩ := sq_big h0 h1 hx
    have b3 := held_gt (x := held (far ax bx * far ax bx) + held (far ay by' * far ay by')) (m := r * r) (by omega) (by omega)
    unfold sqr at hs
    omega
  unfold stp
  split
  · exact Int.not_lt.1 fun hlt => key _ hlt (by omega)
  · exact Int.not_lt.1 fun hlt => key _ hlt (by omega)
theorem near_same {ax ay r : Int} (h0 : 0 ≤ r) : nearB ax ay ax ay r = true := by
  unfold nearB
  rw [sqr_same]
  have := held_nonneg (sq_nonneg r)
  simp [h0, this]
theorem near_neg {ax ay bx by' r : Int} (h0 : r < 0) : nearB ax ay bx by' r = false := by
  unfold nearB
  simp; omega
end Go.Proofs.Ytiggpmennomplaa.Con
