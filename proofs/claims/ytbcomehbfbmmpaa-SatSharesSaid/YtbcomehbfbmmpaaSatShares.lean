/-
  SatShares: for every three 64-bit numbers the law SatShares answers true (a part lies between nought and the whole, if num is from 0 to den, and Clamp stays within its ends); no condition.
-/
import Derived.Test.YtbcomehbfbmmpaaSmall
import Derived.WalkKit
import Derived.ProofKit
import Derived.OpenShut
namespace Go.Proofs.Ytbcomehbfbmmpaa.satShares
open Go.ChangeShapes Go.WideShapes Go.ChangeAt Go.RowKit
set_option linter.unusedVariables false      -- a walk need not use every 'w<i>' (that an integer argument fits its kind)

theorem own : ownKnob Try.prog.godebug = none := by kernel_rfl

open Con

theorem cp_in {a : Int} (h0 : -2147483647 ≤ a) (h1 : a ≤ 2147483647) : cpI a = a := by
  unfold cpI clampI; split <;> (try split) <;> (try split) <;> omega

/-- The part of a that num of den is, and its fellow: where nothing is clamped. -/
theorem share (a num den : Int) (h0 : 0 ≤ a) (h1 : a ≤ 2147483647) (h2 : 0 ≤ num) (h3 : num ≤ den) (h4 : den ≤ 2147483647) (h5 : 1 ≤ den) :
    ∃ p q : Int, partI a num den = p ∧ partI a (den - num) den = q ∧ partI (-a) num den = -p ∧ 0 ≤ p ∧ p ≤ a ∧ 0 ≤ q ∧ q ≤ a ∧ p + q ≤ a ∧ a - 1 ≤ p + q := by
  have e1 : partI a num den = a * num / den := by
    unfold partI; rw [if_neg (by omega), cp_in (by omega) h1, cp_in (by omega) (by omega), Int.tdiv_eq_ediv_of_nonneg (Int.mul_nonneg h0 h2)]
  have e2 : partI a (den - num) den = a * (den - num) / den := by
    unfold partI; rw [if_neg (by omega), cp_in (by omega) h1, cp_in (by omega) (by omega), Int.tdiv_eq_ediv_of_nonneg (Int.mul_nonneg h0 (by omega))]
  have e3 : partI (-a) num den = -(a * num / den) := by
    unfold partI
    rw [if_neg (by omega), cp_in (by omega) (by omega), cp_in (by omega) (by omega), Int.neg_mul, Int.neg_tdiv, Int.tdiv_eq_ediv_of_nonneg (Int.mul_nonneg h0 h2)]
  have x0 : 0 ≤ a * num := Int.mul_nonneg h0 h2
  have y0 : 0 ≤ a * (den - num) := Int.mul_nonneg h0 (by omega)
  have xy : a * num + a * (den - num) = a * den := by rw [← Int.mul_add]; congr 1; omega
  have mx := Int.mul_ediv_add_emod (a * num) den
  have my := Int.mul_ediv_add_emod (a * (den - num)) den
  have lx := Int.emod_nonneg (a * num) (show den ≠ 0 by omega)
  have ly := Int.emod_nonneg (a * (den - num)) (show den ≠ 0 by omega)
  have ux := Int.emod_lt_of_pos (a * num) (show 0 < den by omega)
  have uy := Int.emod_lt_of_pos (a * (den - num)) (show 0 < den by omega)
  have px : 0 ≤ a * num / den := Int.ediv_nonneg x0 (by omega)
  have py : 0 ≤ a * (den - num) / den := Int.ediv_nonneg y0 (by omega)
  refine ⟨a * num / den, a * (den - num) / den, e1, e2, e3, px, ?_, py, ?_, ?_, ?_⟩
  · refine Int.ediv_le_of_le_mul (by omega) ?_
    omega
  · refine Int.ediv_le_of_le_mul (by omega) ?_
    omega
  · by_cases c : a * num / den + a * (den - num) / den ≤ a
    · exact c
    · have : den * (a + 1) ≤ den * (a * num / den + a * (den - num) / den) := Int.mul_le_mul_of_nonneg_left (by omega) (by omega)
      rw [Int.mul_add, Int.mul_add, Int.mul_one, Int.mul_comm den a] at this
      omega
  · by_cases c : a - 1 ≤ a * num / den + a * (den - num) / den
    · exact c
    · have : den * (a * num / den + a * (den - num) / den) ≤ den * (a - 2) := Int.mul_le_mul_of_nonneg_left (by omega) (by omega)
      rw [Int.mul_add, Int.mul_sub den a 2, Int.mul_comm den a] at this
      omega

theorem root_sq {a r : Int} (h : IsRoot a r) (h0 : 0 ≤ a) (h1 : a ≤ 2147483647) : 0 ≤ r ∧ r ≤ 65535 ∧ 0 ≤ r * r ∧ r * r ≤ a ∧ a < (r + 1) * (r + 1) ∧ (r + 1) * (r + 1) ≤ 4294967296 := by
  have : 0 ≤ r ∧ r * r ≤ a ∧ a < (r + 1) * (r + 1) := by
    rcases h with ⟨g1, g2⟩ | ⟨g1, g2, g3, g4⟩
    · subst g2; omega
    · exact ⟨g2, g3, g4⟩
  obtain ⟨k1, k2, k3⟩ := this
  have k4 : r ≤ 65535 := by
    by_cases c : 65536 ≤ r
    · have : (65536 : Int) * 65536 ≤ r * r := Int.mul_le_mul c c (by omega) k1
      omega
    · omega
  have k5 : (r + 1) * (r + 1) ≤ 65536 * 65536 := Int.mul_le_mul (by omega) (by omega) (by omega) (by omega)
  exact ⟨k1, k4, Int.mul_nonneg k1 k1, k2, k3, by omega⟩

theorem clamp_none (a num den : Int) (k : den < num) (w : World) :
    Calls Try.prog 15 #[.int .i64 a, .int .i64 num, .int .i64 den] w fun e w' => e = .returned (.int .i64 num) ∧ w = w' :=
  (clamp_any _ _ _ w).mono fun _ _ ⟨h, g⟩ => ⟨h.trans (ret_int (by unfold clampI; split <;> (try split) <;> (try split) <;> omega)), g⟩
theorem clamp_below (a num den : Int) (k : num ≤ den) (l : a < num) (w : World) :
    Calls Try.prog 15 #[.int .i64 a, .int .i64 num, .int .i64 den] w fun e w' => e = .returned (.int .i64 num) ∧ w = w' :=
  (clamp_any _ _ _ w).mono fun _ _ ⟨h, g⟩ => ⟨h.trans (ret_int (by unfold clampI; split <;> (try split) <;> (try split) <;> omega)), g⟩
theorem clamp_above (a num den : Int) (k : num ≤ den) (l : den < a) (w : World) :
    Calls Try.prog 15 #[.int .i64 a, .int .i64 num, .int .i64 den] w fun e w' => e = .returned (.int .i64 den) ∧ w = w' :=
  (clamp_any _ _ _ w).mono fun _ _ ⟨h, g⟩ => ⟨h.trans (ret_int (by unfold clampI; split <;> (try split) <;> (try split) <;> omega)), g⟩
theorem clamp_within (a num den : Int) (k : num ≤ den) (l : num ≤ a) (m : a ≤ den) (w : World) :
    Calls Try.prog 15 #[.int .i64 a, .int .i64 num, .int .i64 den] w fun e w' => e = .returned (.int .i64 a) ∧ w = w' :=
  (clamp_any _ _ _ w).mono fun _ _ ⟨h, g⟩ => ⟨h.trans (ret_int (by unfold clampI; split <;> (try split) <;> (try split) <;> omega)), g⟩

theorem walk_none_0 (a num den : Int) (ha : Fits a) (hb : Fits num) (hc : Fits den) (k : den < num) (g : a < 0) (w : World) :
    Calls Try.prog 7 #[.int .i64 a, .int .i64 num, .int .i64 den] w fun e w' => e = .returned (.bool true) ∧ Grown w w' := by
  have k1 : decide (num ≤ den) = false := by simp; omega
  go_enter Try.func7, Try.ntmps7
  go_wp2_with (first
    | ((with_reducible refine (small_any _).mono ?_); rintro e w' ⟨rfl, rfl⟩)
    | ((with_reducible refine (clamp_none a num den k _).mono ?_); rintro e w' ⟨rfl, rfl⟩))
  go_ret
  exact ⟨rfl, Grown.refl _⟩

theorem walk_none_1 (a num den : Int) (ha : Fits a) (hb : Fits num) (hc : Fits den) (k : den < num) (g0 : 0 ≤ a) (g : 2147483647 < a) (w : World) :
    Calls Try.prog 7 #[.int .i64 a, .int .i64 num, .int .i64 den] w fun e w' => e = .returned (.bool true) ∧ Grown w w' := by
  have k1 : decide (num ≤ den) = false := by simp; omega
  have d0 : decide (a < 0) = false := by simp; omega
  go_enter Try.func7, Try.ntmps7
  go_wp2_with (first
    | ((with_reducible refine (small_any _).mono ?_); rintro e w' ⟨rfl, rfl⟩)
    | ((with_reducible refine (clamp_none a num den k _).mono ?_); rintro e w' ⟨rfl, rfl⟩))
  go_ret
  exact ⟨rfl, Grown.refl _⟩

theorem walk_none_2 (a num den : Int) (ha : Fits a) (hb : Fits num) (hc : Fits den) (k : den < num) (g0 : 0 ≤ a) (g1 : a ≤ 2147483647) (g : num < 0) (w : World) :
    Calls Try.prog 7 #[.int .i64 a, .int .i64 num, .int .i64 den] w fun e w' => e = .returned (.bool true) ∧ Grown w w' := by
  have k1 : decide (num ≤ den) = false := by simp; omega
  have d0 : decide (a < 0) = false := by simp; omega
  have d1 : decide (2147483647 < a) = false := by simp; omega
  go_enter Try.func7, Try.ntmps7
  go_wp2_with (first
    | ((with_reducible refine (small_any _).mono ?_); rintro e w' ⟨rfl, rfl⟩)
    | ((with_reducible refine (clamp_none a num den k _).mono ?_); rintro e w' ⟨rfl, rfl⟩))
  go_ret
  exact ⟨rfl, Grown.refl _⟩

theorem walk_none_3 (a num den : Int) (ha : Fits a) (hb : Fits num) (hc : Fits den) (k : den < num) (g0 : 0 ≤ a) (g1 : a ≤ 2147483647) (g2 : 0 ≤ num) (g : den < num) (w : World) :
    Calls Try.prog 7 #[.int .i64 a, .int .i64 num, .int .i64 den] w fun e w' => e = .returned (.bool true) ∧ Grown w w' := by
  have k1 : decide (num ≤ den) = false := by simp; omega
  have d0 : decide (a < 0) = false := by simp; omega
  have d1 : decide (2147483647 < a) = false := by simp; omega
  have d2 : decide (num < 0) = false := by simp; omega
  go_enter Try.func7, Try.ntmps7
  go_wp2_with (first
    | ((with_reducible refine (small_any _).mono ?_); rintro e w' ⟨rfl, rfl⟩)
    | ((with_reducible refine (clamp_none a num den k _).mono ?_); rintro e w' ⟨rfl, rfl⟩))
  go_ret
  exact ⟨rfl, Grown.refl _⟩

theorem walk_below_0 (a num den : Int) (ha : Fits a) (hb : Fits num) (hc : Fits den) (k : num ≤ den) (l : a < num) (g : a < 0) (w : World) :
    Calls Try.prog 7 #[.int .i64 a, .int .i64 num, .int .i64 den] w fun e w' => e = .returned (.bool true) ∧ Grown w w' := by
  have k1 : decide (num ≤ a) = false := by simp; omega
  go_enter Try.func7, Try.ntmps7
  go_wp2_with (first
    | ((with_reducible refine (small_any _).mono ?_); rintro e w' ⟨rfl, rfl⟩)
    | ((with_reducible refine (clamp_below a num den k l _).mono ?_); rintro e w' ⟨rfl, rfl⟩))
  go_ret
  exact ⟨rfl, Grown.refl _⟩

theorem walk_below_1 (a num den : Int) (ha : Fits a) (hb : Fits num) (hc : Fits den) (k : num ≤ den) (l : a < num) (g0 : 0 ≤ a) (g : 2147483647 < a) (w : World) :
    Calls Try.prog 7 #[.int .i64 a, .int .i64 num, .int .i64 den] w fun e w' => e = .returned (.bool true) ∧ Grown w w' := by
  have k1 : decide (num ≤ a) = false := by simp; omega
  have d0 : decide (a < 0) = false := by simp; omega
  go_enter Try.func7, Try.ntmps7
  go_wp2_with (first
    | ((with_reducible refine (small_any _).mono ?_); rintro e w' ⟨rfl, rfl⟩)
    | ((with_reducible refine (clamp_below a num den k l _).mono ?_); rintro e w' ⟨rfl, rfl⟩))
  go_ret
  exact ⟨rfl, Grown.refl _⟩

theorem walk_below_4 (a num den : Int) (ha : Fits a) (hb : Fits num) (hc : Fits den) (k : num ≤ den) (l : a < num) (g0 : 0 ≤ a) (g1 : a ≤ 2147483647) (g2 : 0 ≤ num) (g3 : num ≤ den) (g : 2147483647 < den) (w : World) :
    Calls Try.prog 7 #[.int .i64 a, .int .i64 num, .int .i64 den] w fun e w' => e = .returned (.bool true) ∧ Grown w w' := by
  have k1 : decide (num ≤ a) = false := by simp; omega
  have d0 : decide (a < 0) = false := by simp; omega
  have d1 : decide (2147483647 < a) = false := by simp; omega
  have d2 : decide (num < 0) = false := by simp; omega
  have d3 : decide (den < num) = false := by simp; omega
  go_enter Try.func7, Try.ntmps7
  go_wp2_with (first
    | ((with_reducible refine (small_any _).mono ?_); rintro e w' ⟨rfl, rfl⟩)
    | ((with_reducible refine (clamp_below a num den k l _).mono ?_); rintro e w' ⟨rfl, rfl⟩))
  go_ret
  exact ⟨rfl, Grown.refl _⟩

theorem walk_below_6 (a num den : Int) (ha : Fits a) (hb : Fits num) (hc : Fits den) (k : num ≤ den) (l : a < num) (g0 : 0 ≤ a) (g1 : a ≤ 2147483647) (g2 : 0 ≤ num) (g3 : num ≤ den) (g4 : den ≤ 2147483647) (g : 1 ≤ den) (w : World) :
    Calls Try.prog 7 #[.int .i64 a, .int .i64 num, .int .i64 den] w fun e w' => e = .returned (.bool true) ∧ Grown w w' := by
  have k1 : decide (num ≤ a) = false := by simp; omega
  have d0 : decide (a < 0) = false := by simp; omega
  have d1 : decide (2147483647 < a) = false := by simp; omega
  have d2 : decide (num < 0) = false := by simp; omega
  have d3 : decide (den < num) = false := by simp; omega
  have d4 : decide (2147483647 < den) = false := by simp; omega
  have d5 : decide (den < 1) = false := by simp; omega
  obtain ⟨p, q, e1, e2, e3, p0, p1, q0, q1, s0, s1⟩ := share a num den g0 g1 g2 g3 g4 g
  have c1 : ∀ w : World, Calls Try.prog 17 #[.int .i64 a, .int .i64 num, .int .i64 den] w fun e w' => e = .returned (.int .i64 p) ∧ w = w' := fun w => e1 ▸ part_any a num den w hc
  have c2 : ∀ w : World, Calls Try.prog 17 #[.int .i64 a, .int .i64 (den - num), .int .i64 den] w fun e w' => e = .returned (.int .i64 q) ∧ w = w' := fun w => e2 ▸ part_any a (den - num) den w hc
  have c3 : ∀ w : World, Calls Try.prog 17 #[.int .i64 (-a), .int .i64 num, .int .i64 den] w fun e w' => e = .returned (.int .i64 (-p)) ∧ w = w' := fun w => e3 ▸ part_any (-a) num den w hc
  clear e1 e2 e3
  unfold Fits at hb hc
  go_enter Try.func7, Try.ntmps7
  go_wp2_with (first
    | ((with_reducible refine (small_any _).mono ?_); rintro e w' ⟨rfl, rfl⟩)
    | ((with_reducible refine (clamp_below a num den k l _).mono ?_); rintro e w' ⟨rfl, rfl⟩)
    | ((with_reducible refine (c1 _).mono ?_); rintro e w' ⟨rfl, rfl⟩)
    | ((with_reducible refine (c2 _).mono ?_); rintro e w' ⟨rfl, rfl⟩)
    | ((with_reducible refine (c3 _).mono ?_); rintro e w' ⟨rfl, rfl⟩)
    | ((with_reducible refine (root_any a _ ha).mono ?_); rintro e w' ⟨r, hr, rfl, rfl⟩; obtain ⟨r0, r1, r2, r3, r4, r5⟩ := root_sq hr g0 g1; clear hr))
  go_ret
  exact ⟨rfl, Grown.refl _⟩

theorem walk_above_0 (a num den : Int) (ha : Fits a) (hb : Fits num) (hc : Fits den) (k : num ≤ den) (l : den < a) (g : a < 0) (w : World) :
    Calls Try.prog 7 #[.int .i64 a, .int .i64 num, .int .i64 den] w fun e w' => e = .returned (.bool true) ∧ Grown w w' := by
  have k1 : num ≤ a := by omega
  have k2 : decide (a ≤ den) = false := by simp; omega
  go_enter Try.func7, Try.ntmps7
  go_wp2_with (first
    | ((with_reducible refine (small_any _).mono ?_); rintro e w' ⟨rfl, rfl⟩)
    | ((with_reducible refine (clamp_above a num den k l _).mono ?_); rintro e w' ⟨rfl, rfl⟩))
  go_ret
  exact ⟨rfl, Grown.refl _⟩

theorem walk_above_1 (a num den : Int) (ha : Fits a) (hb : Fits num) (hc : Fits den) (k : num ≤ den) (l : den < a) (g0 : 0 ≤ a) (g : 2147483647 < a) (w : World) :
    Calls Try.prog 7 #[.int .i64 a, .int .i64 num, .int .i64 den] w fun e w' => e = .returned (.bool true) ∧ Grown w w' := by
  have k1 : num ≤ a := by omega
  have k2 : decide (a ≤ den) = false := by simp; omega
  have d0 : decide (a < 0) = false := by simp; omega
  go_enter Try.func7, Try.ntmps7
  go_wp2_with (first
    | ((with_reducible refine (small_any _).mono ?_); rintro e w' ⟨rfl, rfl⟩)
    | ((with_reducible refine (clamp_above a num den k l _).mono ?_); rintro e w' ⟨rfl, rfl⟩))
  go_ret
  exact ⟨rfl, Grown.refl _⟩

theorem walk_above_2 (a num den : Int) (ha : Fits a) (hb : Fits num) (hc : Fits den) (k : num ≤ den) (l : den < a) (g0 : 0 ≤ a) (g1 : a ≤ 2147483647) (g : num < 0) (w : World) :
    Calls Try.prog 7 #[.int .i64 a, .int .i64 num, .int .i64 den] w fun e w' => e = .returned (.bool true) ∧ Grown w w' := by
  have k1 : num ≤ a := by omega
  have k2 : decide (a ≤ den) = false := by simp; omega
  have d0 : decide (a < 0) = false := by simp; omega
  have d1 : decide (2147483647 < a) = false := by simp; omega
  go_enter Try.func7, Try.ntmps7
  go_wp2_with (first
    | ((with_reducible refine (small_any _).mono ?_); rintro e w' ⟨rfl, rfl⟩)
    | ((with_reducible refine (clamp_above a num den k l _).mono ?_); rintro e w' ⟨rfl, rfl⟩))
  go_ret
  exact ⟨rfl, Grown.refl _⟩

theorem walk_above_4 (a num den : Int) (ha : Fits a) (hb : Fits num) (hc : Fits den) (k : num ≤ den) (l : den < a) (g0 : 0 ≤ a) (g1 : a ≤ 2147483647) (g2 : 0 ≤ num) (g3 : num ≤ den) (g : 2147483647 < den) (w : World) :
    Calls Try.prog 7 #[.int .i64 a, .int .i64 num, .int .i64 den] w fun e w' => e = .returned (.bool true) ∧ Grown w w' := by
  have k1 : num ≤ a := by omega
  have k2 : decide (a ≤ den) = false := by simp; omega
  have d0 : decide (a < 0) = false := by simp; omega
  have d1 : decide (2147483647 < a) = false := by simp; omega
  have d2 : decide (num < 0) = false := by simp; omega
  have d3 : decide (den < num) = false := by simp; omega
  go_enter Try.func7, Try.ntmps7
  go_wp2_with (first
    | ((with_reducible refine (small_any _).mono ?_); rintro e w' ⟨rfl, rfl⟩)
    | ((with_reducible refine (clamp_above a num den k l _).mono ?_); rintro e w' ⟨rfl, rfl⟩))
  go_ret
  exact ⟨rfl, Grown.refl _⟩

theorem walk_above_5 (a num den : Int) (ha : Fits a) (hb : Fits num) (hc : Fits den) (k : num ≤ den) (l : den < a) (g0 : 0 ≤ a) (g1 : a ≤ 2147483647) (g2 : 0 ≤ num) (g3 : num ≤ den) (g4 : den ≤ 2147483647) (g : den < 1) (w : World) :
    Calls Try.prog 7 #[.int .i64 a, .int .i64 num, .int .i64 den] w fun e w' => e = .returned (.bool true) ∧ Grown w w' := by
  have k1 : num ≤ a := by omega
  have k2 : decide (a ≤ den) = false := by simp; omega
  have d0 : decide (a < 0) = false := by simp; omega
  have d1 : decide (2147483647 < a) = false := by simp; omega
  have d2 : decide (num < 0) = false := by simp; omega
  have d3 : decide (den < num) = false := by simp; omega
  have d4 : decide (2147483647 < den) = false := by simp; omega
  go_enter Try.func7, Try.ntmps7
  go_wp2_with (first
    | ((with_reducible refine (small_any _).mono ?_); rintro e w' ⟨rfl, rfl⟩)
    | ((with_reducible refine (clamp_above a num den k l _).mono ?_); rintro e w' ⟨rfl, rfl⟩))
  go_ret
  exact ⟨rfl, Grown.refl _⟩

theorem walk_above_6 (a num den : Int) (ha : Fits a) (hb : Fits num) (hc : Fits den) (k : num ≤ den) (l : den < a) (g0 : 0 ≤ a) (g1 : a ≤ 2147483647) (g2 : 0 ≤ num) (g3 : num ≤ den) (g4 : den ≤ 2147483647) (g : 1 ≤ den) (w : World) :
    Calls Try.prog 7 #[.int .i64 a, .int .i64 num, .int .i64 den] w fun e w' => e = .returned (.bool true) ∧ Grown w w' := by
  have k1 : num ≤ a := by omega
  have k2 : decide (a ≤ den) = false := by simp; omega
  have d0 : decide (a < 0) = false := by simp; omega
  have d1 : decide (2147483647 < a) = false := by simp; omega
  have d2 : decide (num < 0) = false := by simp; omega
  have d3 : decide (den < num) = false := by simp; omega
  have d4 : decide (2147483647 < den) = false := by simp; omega
  have d5 : decide (den < 1) = false := by simp; omega
  obtain ⟨p, q, e1, e2, e3, p0, p1, q0, q1, s0, s1⟩ := share a num den g0 g1 g2 g3 g4 g
  have c1 : ∀ w : World, Calls Try.prog 17 #[.int .i64 a, .int .i64 num, .int .i64 den] w fun e w' => e = .returned (.int .i64 p) ∧ w = w' := fun w => e1 ▸ part_any a num den w hc
  have c2 : ∀ w : World, Calls Try.prog 17 #[.int .i64 a, .int .i64 (den - num), .int .i64 den] w fun e w' => e = .returned (.int .i64 q) ∧ w = w' := fun w => e2 ▸ part_any a (den - num) den w hc
  have c3 : ∀ w : World, Calls Try.prog 17 #[.int .i64 (-a), .int .i64 num, .int .i64 den] w fun e w' => e = .returned (.int .i64 (-p)) ∧ w = w' := fun w => e3 ▸ part_any (-a) num den w hc
  clear e1 e2 e3
  unfold Fits at hb hc
  go_enter Try.func7, Try.ntmps7
  go_wp2_with (first
    | ((with_reducible refine (small_any _).mono ?_); rintro e w' ⟨rfl, rfl⟩)
    | ((with_reducible refine (clamp_above a num den k l _).mono ?_); rintro e w' ⟨rfl, rfl⟩)
    | ((with_reducible refine (c1 _).mono ?_); rintro e w' ⟨rfl, rfl⟩)
    | ((with_reducible refine (c2 _).mono ?_); rintro e w' ⟨rfl, rfl⟩)
    | ((with_reducible refine (c3 _).mono ?_); rintro e w' ⟨rfl, rfl⟩)
    | ((with_reducible refine (root_any a _ ha).mono ?_); rintro e w' ⟨r, hr, rfl, rfl⟩; obtain ⟨r0, r1, r2, r3, r4, r5⟩ := root_sq hr g0 g1; clear hr))
  go_ret
  exact ⟨rfl, Grown.refl _⟩

theorem walk_within_0 (a num den : Int) (ha : Fits a) (hb : Fits num) (hc : Fits den) (k : num ≤ den) (l : num ≤ a) (m : a ≤ den) (g : a < 0) (w : World) :
    Calls Try.prog 7 #[.int .i64 a, .int .i64 num, .int .i64 den] w fun e w' => e = .returned (.bool true) ∧ Grown w w' := by
  have n1 : decide (a < num) = false := by simp; omega
  have n2 : decide (den < a) = false := by simp; omega
  go_enter Try.func7, Try.ntmps7
  go_wp2_with (first
    | ((with_reducible refine (small_any _).mono ?_); rintro e w' ⟨rfl, rfl⟩)
    | ((with_reducible refine (clamp_within a num den k l m _).mono ?_); rintro e w' ⟨rfl, rfl⟩))
  go_ret
  exact ⟨rfl, Grown.refl _⟩

theorem walk_within_1 (a num den : Int) (ha : Fits a) (hb : Fits num) (hc : Fits den) (k : num ≤ den) (l : num ≤ a) (m : a ≤ den) (g0 : 0 ≤ a) (g : 2147483647 < a) (w : World) :
    Calls Try.prog 7 #[.int .i64 a, .int .i64 num, .int .i64 den] w fun e w' => e = .returned (.bool true) ∧ Grown w w' := by
  have n1 : decide (a < num) = false := by simp; omega
  have n2 : decide (den < a) = false := by simp; omega
  have d0 : decide (a < 0) = false := by simp; omega
  go_enter Try.func7, Try.ntmps7
  go_wp2_with (first
    | ((with_reducible refine (small_any _).mono ?_); rintro e w' ⟨rfl, rfl⟩)
    | ((with_reducible refine (clamp_within a num den k l m _).mono ?_); rintro e w' ⟨rfl, rfl⟩))
  go_ret
  exact ⟨rfl, Grown.refl _⟩

theorem walk_within_2 (a num den : Int) (ha : Fits a) (hb : Fits num) (hc : Fits den) (k : num ≤ den) (l : num ≤ a) (m : a ≤ den) (g0 : 0 ≤ a) (g1 : a ≤ 2147483647) (g : num < 0) (w : World) :
    Calls Try.prog 7 #[.int .i64 a, .int .i64 num, .int .i64 den] w fun e w' => e = .returned (.bool true) ∧ Grown w w' := by
  have n1 : decide (a < num) = false := by simp; omega
  have n2 : decide (den < a) = false := by simp; omega
  have d0 : decide (a < 0) = false := by simp; omega
  have d1 : decide (2147483647 < a) = false := by simp; omega
  go_enter Try.func7, Try.ntmps7
  go_wp2_with (first
    | ((with_reducible refine (small_any _).mono ?_); rintro e w' ⟨rfl, rfl⟩)
    | ((with_reducible refine (clamp_within a num den k l m _).mono ?_); rintro e w' ⟨rfl, rfl⟩))
  go_ret
  exact ⟨rfl, Grown.refl _⟩

theorem walk_within_4 (a num den : Int) (ha : Fits a) (hb : Fits num) (hc : Fits den) (k : num ≤ den) (l : num ≤ a) (m : a ≤ den) (g0 : 0 ≤ a) (g1 : a ≤ 2147483647) (g2 : 0 ≤ num) (g3 : num ≤ den) (g : 2147483647 < den) (w : World) :
    Calls Try.prog 7 #[.int .i64 a, .int .i64 num, .int .i64 den] w fun e w' => e = .returned (.bool true) ∧ Grown w w' := by
  have n1 : decide (a < num) = false := by simp; omega
  have n2 : decide (den < a) = false := by simp; omega
  have d0 : decide (a < 0) = false := by simp; omega
  have d1 : decide (2147483647 < a) = false := by simp; omega
  have d2 : decide (num < 0) = false := by simp; omega
  have d3 : decide (den < num) = false := by simp; omega
  go_enter Try.func7, Try.ntmps7
  go_wp2_with (first
    | ((with_reducible refine (small_any _).mono ?_); rintro e w' ⟨rfl, rfl⟩)
    | ((with_reducible refine (clamp_within a num den k l m _).mono ?_); rintro e w' ⟨rfl, rfl⟩))
  go_ret
  exact ⟨rfl, Grown.refl _⟩

theorem walk_within_5 (a num den : Int) (ha : Fits a) (hb : Fits num) (hc : Fits den) (k : num ≤ den) (l : num ≤ a) (m : a ≤ den) (g0 : 0 ≤ a) (g1 : a ≤ 2147483647) (g2 : 0 ≤ num) (g3 : num ≤ den) (g4 : den ≤ 2147483647) (g : den < 1) (w : World) :
    Calls Try.prog 7 #[.int .i64 a, .int .i64 num, .int .i64 den] w fun e w' => e = .returned (.bool true) ∧ Grown w w' := by
  have n1 : decide (a < num) = false := by simp; omega
  have n2 : decide (den < a) = false := by simp; omega
  have d0 : decide (a < 0) = false := by simp; omega
  have d1 : decide (2147483647 < a) = false := by simp; omega
  have d2 : decide (num < 0) = false := by simp; omega
  have d3 : decide (den < num) = false := by simp; omega
  have d4 : decide (2147483647 < den) = false := by simp; omega
  go_enter Try.func7, Try.ntmps7
  go_wp2_with (first
    | ((with_reducible refine (small_any _).mono ?_); rintro e w' ⟨rfl, rfl⟩)
    | ((with_reducible refine (clamp_within a num den k l m _).mono ?_); rintro e w' ⟨rfl, rfl⟩))
  go_ret
  exact ⟨rfl, Grown.refl _⟩

theorem walk_within_6 (a num den : Int) (ha : Fits a) (hb : Fits num) (hc : Fits den) (k : num ≤ den) (l : num ≤ a) (m : a ≤ den) (g0 : 0 ≤ a) (g1 : a ≤ 2147483647) (g2 : 0 ≤ num) (g3 : num ≤ den) (g4 : den ≤ 2147483647) (g : 1 ≤ den) (w : World) :
    Calls Try.prog 7 #[.int .i64 a, .int .i64 num, .int .i64 den] w fun e w' => e = .returned (.bool true) ∧ Grown w w' := by
  have n1 : decide (a < num) = false := by simp; omega
  have n2 : decide (den < a) = false := by simp; omega
  have d0 : decide (a < 0) = false := by simp; omega
  have d1 : decide (2147483647 < a) = false := by simp; omega
  have d2 : decide (num < 0) = false := by simp; omega
  have d3 : decide (den < num) = false := by simp; omega
  have d4 : decide (2147483647 < den) = false := by simp; omega
  have d5 : decide (den < 1) = false := by simp; omega
  obtain ⟨p, q, e1, e2, e3, p0, p1, q0, q1, s0, s1⟩ := share a num den g0 g1 g2 g3 g4 g
  have c1 : ∀ w : World, Calls Try.prog 17 #[.int .i64 a, .int .i64 num, .int .i64 den] w fun e w' => e = .returned (.int .i64 p) ∧ w = w' := fun w => e1 ▸ part_any a num den w hc
  have c2 : ∀ w : World, Calls Try.prog 17 #[.int .i64 a, .int .i64 (den - num), .int .i64 den] w fun e w' => e = .returned (.int .i64 q) ∧ w = w' := fun w => e2 ▸ part_any a (den - num) den w hc
  have c3 : ∀ w : World, Calls Try.prog 17 #[.int .i64 (-a), .int .i64 num, .int .i64 den] w fun e w' => e = .returned (.int .i64 (-p)) ∧ w = w' := fun w => e3 ▸ part_any (-a) num den w hc
  clear e1 e2 e3
  unfold Fits at hb hc
  go_enter Try.func7, Try.ntmps7
  go_wp2_with (first
    | ((with_reducible refine (small_any _).mono ?_); rintro e w' ⟨rfl, rfl⟩)
    | ((with_reducible refine (clamp_within a num den k l m _).mono ?_); rintro e w' ⟨rfl, rfl⟩)
    | ((with_reducible refine (c1 _).mono ?_); rintro e w' ⟨rfl, rfl⟩)
    | ((with_reducible refine (c2 _).mono ?_); rintro e w' ⟨rfl, rfl⟩)
    | ((with_reducible refine (c3 _).mono ?_); rintro e w' ⟨rfl, rfl⟩)
    | ((with_reducible refine (root_any a _ ha).mono ?_); rintro e w' ⟨r, hr, rfl, rfl⟩; obtain ⟨r0, r1, r2, r3, r4, r5⟩ := root_sq hr g0 g1; clear hr))
  go_ret
  exact ⟨rfl, Grown.refl _⟩

/-- The walk: the law answers true, whatever three 64-bit numbers it is called with. -/
theorem walk (a0 : Int) (a1 : Int) (a2 : Int) (w0 : (Lit.int .i64 a0).wf = true) (w1 : (Lit.int .i64 a1).wf = true) (w2 : (Lit.int .i64 a2).wf = true) (w : World) :
    Calls Try.prog 7 #[.int .i64 a0, .int .i64 a1, .int .i64 a2] w fun e w' => e = .returned (.bool true) ∧ Grown w w' := by
  have ha : Fits a0 := bounds_i64 w0
  have hb : Fits a1 := bounds_i64 w1
  have hc : Fits a2 := bounds_i64 w2
  by_cases k : a2 < a1
  · by_cases t0 : a0 < 0
    · exact walk_none_0 _ _ _ ha hb hc (by omega) (by omega) w
    by_cases t1 : 2147483647 < a0
    · exact walk_none_1 _ _ _ ha hb hc (by omega) (by omega) (by omega) w
    by_cases t2 : a1 < 0
    · exact walk_none_2 _ _ _ ha hb hc (by omega) (by omega) (by omega) (by omega) w
    by_cases t3 : a2 < a1
    · exact walk_none_3 _ _ _ ha hb hc (by omega) (by omega) (by omega) (by omega) (by omega) w
    by_cases t4 : 2147483647 < a2
    · exfalso; omega
    by_cases t5 : a2 < 1
    · exfalso; omega
    exfalso; omega
  · by_cases l : a0 < a1
    · by_cases t0 : a0 < 0
      · exact walk_below_0 _ _ _ ha hb hc (by omega) (by omega) (by omega) w
      by_cases t1 : 2147483647 < a0
      · exact walk_below_1 _ _ _ ha hb hc (by omega) (by omega) (by omega) (by omega) w
      by_cases t2 : a1 < 0
      · exfalso; omega
      by_cases t3 : a2 < a1
      · exfalso; omega
      by_cases t4 : 2147483647 < a2
      · exact walk_below_4 _ _ _ ha hb hc (by omega) (by omega) (by omega) (by omega) (by omega) (by omega) (by omega) w
      by_cases t5 : a2 < 1
      · exfalso; omega
      exact walk_below_6 _ _ _ ha hb hc (by omega) (by omega) (by omega) (by omega) (by omega) (by omega) (by omega) (by omega) w
    · by_cases m : a2 < a0
      · by_cases t0 : a0 < 0
        · exact walk_above_0 _ _ _ ha hb hc (by omega) (by omega) (by omega) w
        by_cases t1 : 2147483647 < a0
        · exact walk_above_1 _ _ _ ha hb hc (by omega) (by omega) (by omega) (by omega) w
        by_cases t2 : a1 < 0
        · exact walk_above_2 _ _ _ ha hb hc (by omega) (by omega) (by omega) (by omega) (by omega) w
        by_cases t3 : a2 < a1
        · exfalso; omega
        by_cases t4 : 2147483647 < a2
        · exact walk_above_4 _ _ _ ha hb hc (by omega) (by omega) (by omega) (by omega) (by omega) (by omega) (by omega) w
        by_cases t5 : a2 < 1
        · exact walk_above_5 _ _ _ ha hb hc (by omega) (by omega) (by omega) (by omega) (by omega) (by omega) (by omega) (by omega) w
        exact walk_above_6 _ _ _ ha hb hc (by omega) (by omega) (by omega) (by omega) (by omega) (by omega) (by omega) (by omega) w
      · by_cases t0 : a0 < 0
        · exact walk_within_0 _ _ _ ha hb hc (by omega) (by omega) (by omega) (by omega) w
        by_cases t1 : 2147483647 < a0
        · exact walk_within_1 _ _ _ ha hb hc (by omega) (by omega) (by omega) (by omega) (by omega) w
        by_cases t2 : a1 < 0
        · exact walk_within_2 _ _ _ ha hb hc (by omega) (by omega) (by omega) (by omega) (by omega) (by omega) w
        by_cases t3 : a2 < a1
        · exfalso; omega
        by_cases t4 : 2147483647 < a2
        · exact walk_within_4 _ _ _ ha hb hc (by omega) (by omega) (by omega) (by omega) (by omega) (by omega) (by omega) (by omega) w
        by_cases t5 : a2 < 1
        · exact walk_within_5 _ _ _ ha hb hc (by omega) (by omega) (by omega) (by omega) (by omega) (by omega) (by omega) (by omega) (by omega) w
        exact walk_within_6 _ _ _ ha hb hc (by omega) (by omega) (by omega) (by omega) (by omega) (by omega) (by omega) (by omega) (by omega) w

/-! ### THE ROW's STEP: WRITTEN OUT: LEAVE IT -/
set_option maxRecDepth 100000 in
theorem lifted (os : Os) (started : os.Started) (H : Type) (enc : TypeId × Value → H) :
    ReturnsInHanded {} Try.checked os 7 .any (Rows.satSharesSpec.pre6 enc Try.prog Try.f7 Rows.satSharesRow.domain false) (Rows.satSharesSpec.post enc Try.prog Try.f7 false true false false) := by
  refine returnsInHanded_of_change (C := Try.checked) own started (by kernel_rfl) Try.func7
    (ChangeSpec.witness6 (enc := enc) (C := Try.checked) false ⟨#[], #[.int .i64 0, .int .i64 0, .int .i64 0], []⟩ 8 (by kernel_rfl) (by kernel_rfl) (by kernel_rfl) (by kernel_rfl)) ?_
  intro W base args ds gs before hval0 hW hcnd _
  have hval : ∀ (j : Nat) t v, Try.f7.params[j]? = some t → args[j]? = some v → Value.okWide Try.prog W .any base t v := hval0
  have hW' := hW
  obtain ⟨p, q, hA0, hV, rfl, hfz, hnd⟩ := hW
  have hA : DataW.TrodAll enc Try.prog W 0 (fun _ => true) true Try.f7.params.toList args.toList ds p := hA0
  rw [Try.params7] at hA hval
  obtain ⟨v0, vs0, d0, ds0, p0, q0, hargs, rfl, rfl, h0, r0⟩ := trodAll_cons hA
  obtain ⟨v1, vs1, d1, ds1, p1, q1, rfl, rfl, rfl, h1, r1⟩ := trodAll_cons r0
  obtain ⟨v2, vs2, d2, ds2, p2, q2, rfl, rfl, rfl, h2, r2⟩ := trodAll_cons r1
  obtain ⟨rfl, rfl, rfl⟩ := trodAll_nil r2
  obtain rfl : args = #[v0, v1, v2] := by cases args; simp_all
  obtain ⟨rfl, rfl⟩ := trodVars_none hV
  obtain ⟨a0, rfl, rfl, rfl, w0⟩ := open_int Try.underlying3 (hval 0 3 v0 rfl rfl) h0
  obtain ⟨a1, rfl, rfl, rfl, w1⟩ := open_int Try.underlying3 (hval 1 3 v1 rfl rfl) h1
  obtain ⟨a2, rfl, rfl, rfl, w2⟩ := open_int Try.underlying3 (hval 2 3 v2 rfl rfl) h2
  clear hA0 hval0
  simp only [List.append_nil] at hW'
  refine (walk a0 a1 a2 w0 w1 w2 W).mono fun e W' ⟨he, hg⟩ => ?_
  subst he
  exact ⟨_, rfl, post_of_same (pa := []) (pv := []) hW' (fun _ _ _ => (trodAll_cons_mk (shut_bool Try.underlying4 _) trodAll_mk0)) (fun sp _ => (trodAll_cons_mk (shut_int Try.underlying3 w0) (trodAll_cons_mk (shut_int Try.underlying3 w1) (trodAll_cons_mk (shut_int Try.underlying3 w2) trodAll_mk0)))) (fun _ _ => rfl) rfl
    (hg.frame _) hg.2.1 (ok_one (by kernel_rfl) rfl (okWide_bool_mk Try.underlying4 _))⟩

theorem over : Rows.satSharesRow.holds Try.pinned (OpenSpec.ofChange Rows.satSharesSpec) :=
  OpenClaim.holds_of_wide 7 Try.f7 rfl rfl rfl rfl rfl rfl rfl ⟨rfl, rfl, rfl, rfl, rfl⟩ rfl rfl rfl rfl rfl (by kernel_rfl) Try.func7 (by kernel_rfl)
    (of_decide_eq_true (by kernel_rfl)) (by unfold Func.isWrapper; first | (rw [if_pos (by decide +kernel)]; kernel_rfl) | (rw [if_neg (by decide +kernel)]; exact ⟨rfl, rfl⟩))
    (fun os started H enc _ => lifted os started H enc)

/-- ████ THE STATEMENT ████ -/
theorem proved : Rows.SatSharesSaid :=
  over
#print axioms proved
end Go.Proofs.Ytbcomehbfbmmpaa.satShares
