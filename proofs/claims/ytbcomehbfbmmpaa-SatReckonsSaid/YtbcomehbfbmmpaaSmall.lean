/-
  The contract of the law's own small case: it answers true, and leaves the world alone.
-/
import Derived.Test.YtbcomehbfbmmpaaRoot
namespace Go.Proofs.Ytbcomehbfbmmpaa.Con
open Go.RowKit

theorem s1 (w : World) : Calls Try.prog 9 #[.int .i64 9223372036854775807, .int .i64 1] w fun e w' => e = .returned (.int .i64 9223372036854775807) ∧ w = w' :=
  (add_any _ _ w ⟨by omega, by omega⟩ ⟨by omega, by omega⟩).mono fun _ _ ⟨h, g⟩ => ⟨h.trans (ret_int (by decide)), g⟩
theorem s2 (w : World) : Calls Try.prog 11 #[.int .i64 (-9223372036854775808), .int .i64 1] w fun e w' => e = .returned (.int .i64 (-9223372036854775808)) ∧ w = w' :=
  (sub_any _ _ w ⟨by omega, by omega⟩ ⟨by omega, by omega⟩).mono fun _ _ ⟨h, g⟩ => ⟨h.trans (ret_int (by decide)), g⟩
theorem s3 (w : World) : Calls Try.prog 13 #[.int .i64 (-9223372036854775808), .int .i64 (-1)] w fun e w' => e = .returned (.int .i64 9223372036854775807) ∧ w = w' :=
  (mul_any _ _ w ⟨by omega, by omega⟩ ⟨by omega, by omega⟩).mono fun _ _ ⟨h, g⟩ => ⟨h.trans (ret_int (by decide)), g⟩
theorem s4 (w : World) : Calls Try.prog 13 #[.int .i64 6, .int .i64 (-7)] w fun e w' => e = .returned (.int .i64 (-42)) ∧ w = w' :=
  (mul_any _ _ w ⟨by omega, by omega⟩ ⟨by omega, by omega⟩).mono fun _ _ ⟨h, g⟩ => ⟨h.trans (ret_int (by decide)), g⟩
theorem s5 (w : World) : Calls Try.prog 17 #[.int .i64 (-7), .int .i64 1, .int .i64 2] w fun e w' => e = .returned (.int .i64 (-3)) ∧ w = w' :=
  (part_any _ _ _ w ⟨by omega, by omega⟩).mono fun _ _ ⟨h, g⟩ => ⟨h.trans (ret_int (by decide)), g⟩
theorem s6 (w : World) : Calls Try.prog 17 #[.int .i64 10, .int .i64 130, .int .i64 100] w fun e w' => e = .returned (.int .i64 13) ∧ w = w' :=
  (part_any _ _ _ w ⟨by omega, by omega⟩).mono fun _ _ ⟨h, g⟩ => ⟨h.trans (ret_int (by decide)), g⟩
theorem s7 (w : World) : Calls Try.prog 19 #[.int .i64 10] w fun e w' => e = .returned (.int .i64 3) ∧ w = w' :=
  (root_any 10 w ⟨by omega, by omega⟩).mono fun _ _ ⟨_, hr, h, g⟩ => ⟨h.trans (ret_int (root_one hr (Or.inr ⟨by omega, by omega, by omega, by omega⟩))), g⟩
theorem s8 (w : World) : Calls Try.prog 15 #[.int .i64 9, .int .i64 1, .int .i64 5] w fun e w' => e = .returned (.int .i64 5) ∧ w = w' :=
  (clamp_any _ _ _ w).mono fun _ _ ⟨h, g⟩ => ⟨h.trans (ret_int (by decide)), g⟩

theorem small_any (w : World) : Calls Try.prog 8 #[] w fun e w' => e = .returned (.bool true) ∧ w = w' := by
  go_enter Try.func8, Try.ntmps8
  go_wp2_with (first | ((with_reducible refine (s1 _).mono ?_); rintro e w' ⟨rfl, rfl⟩) | ((with_reducible refine (s2 _).mono ?_); rintro e w' ⟨rfl, rfl⟩) | ((with_reducible refine (s3 _).mono ?_); rintro e w' ⟨rfl, rfl⟩) | ((with_reducible refine (s4 _).mono ?_); rintro e w' ⟨rfl, rfl⟩) | ((with_reducible refine (s5 _).mono ?_); rintro e w' ⟨rfl, rfl⟩) | ((with_reducible refine (s6 _).mono ?_); rintro e w' ⟨rfl, rfl⟩) | ((with_reducible refine (s7 _).mono ?_); rintro e w' ⟨rfl, rfl⟩) | ((with_reducible refine (s8 _).mono ?_); rintro e w' ⟨rfl, rfl⟩))
  go_ret
  exact ⟨rfl, rfl⟩
end Go.Proofs.Ytbcomehbfbmmpaa.Con
