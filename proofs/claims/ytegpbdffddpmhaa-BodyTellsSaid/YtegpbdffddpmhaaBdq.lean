/-
  The document's own Right: for every unit; only new memory is made.
-/
import Derived.Test.YtegpbdffddpmhaaBdr
namespace Go.Proofs.Ytegpbdffddpmhaa.Con
open Go.RowKit
set_option linter.unusedVariables false
set_option maxRecDepth 20000 in
set_option maxHeartbeats 4000000 in
theorem rright_one (u : Un) (w : World) (hi : decide (1 ≤ u.i) = true) (hk1 : (u.k == 1) = true) : Calls Try.prog 7 #[uv u] w fun e w' => e = .returned (.bool (rtU u)) ∧ Below w.heap.size w w' := by
  obtain ⟨i, k, g, h, m, p, q, x, y, c⟩ := u
  have HB0 := Lib.hid (below_box (w := w) ⟨i, k, g, h, m, p, q, x, y, c⟩)
  obtain ⟨z0, z1, z2, z3, z4, z5, z6, z7, z8, z9⟩ := (Bx.new w ⟨i, k, g, h, m, p, q, x, y, c⟩).at
  simp only at z0 z1 z2 z3 z4 z5 z6 z7 z8 z9
  simp only at hi hk1
  have HR : Hid (rtU ⟨i, k, g, h, m, p, q, x, y, c⟩ = (decide (1 ≤ i) && (((k == 1) || (k == 2)) && (decide (0 ≤ g) && (decide (g ≤ 8) && (decide (1 ≤ m) && (decide (m ≤ 1000000) && (decide (0 ≤ q) && (decide (q ≤ 1000000) && (decide (0 ≤ h) && (decide (h ≤ m) && (decide (0 ≤ p) && (decide (p ≤ q) && (decide (0 ≤ c))))))))))))))) := Lib.hid (by rw [Bool.eq_iff_iff, rt_iff]; simp; omega)
  rw [hi, hk1, Bool.true_or] at HR
  generalize hl3 : decide (0 ≤ g) = l3 at HR
  generalize hl4 : decide (g ≤ 8) = l4 at HR
  generalize hl5 : decide (1 ≤ m) = l5 at HR
  generalize hl6 : decide (m ≤ 1000000) = l6 at HR
  generalize hl7 : decide (0 ≤ q) = l7 at HR
  generalize hl8 : decide (q ≤ 1000000) = l8 at HR
  generalize hl9 : decide (0 ≤ h) = l9 at HR
  generalize hl10 : decide (h ≤ m) = l10 at HR
  generalize hl11 : decide (0 ≤ p) = l11 at HR
  generalize hl12 : decide (p ≤ q) = l12 at HR
  generalize hl13 : decide (0 ≤ c) = l13 at HR
  cases l3 with
  | false =>
    go_enter Try.func7, Try.ntmps7
    go_wp2
    all_goals first
      | (go_ret; exact ⟨ret_bool HR.out.symm, HB0.out⟩)
      | (rename_i hx _; simp at hx)
  | true =>
    cases l4 with
    | false =>
      go_enter Try.func7, Try.ntmps7
      go_wp2
      all_goals first
        | (go_ret; exact ⟨ret_bool HR.out.symm, HB0.out⟩)
        | (rename_i hx _; simp at hx)
    | true =>
      cases l5 with
      | false =>
        go_enter Try.func7, Try.ntmps7
        go_wp2
        all_goals first
          | (go_ret; exact ⟨ret_bool HR.out.symm, HB0.out⟩)
          | (rename_i hx _; simp at hx)
      | true =>
        cases l6 with
        | false =>
          go_enter Try.func7, Try.ntmps7
          go_wp2
          all_goals first
            | (go_ret; exact ⟨ret_bool HR.out.symm, HB0.out⟩)
            | (rename_i hx _; simp at hx)
        | true =>
          cases l7 with
          | false =>
            go_enter Try.func7, Try.ntmps7
            go_wp2
            all_goals first
              | (go_ret; exact ⟨ret_bool HR.out.symm, HB0.out⟩)
              | (rename_i hx _; simp at hx)
          | true =>
            cases l8 with
            | false =>
              go_enter Try.func7, Try.ntmps7
              go_wp2
              all_goals first
                | (go_ret; exact ⟨ret_bool HR.out.symm, HB0.out⟩)
                | (rename_i hx _; simp at hx)
            | true =>
              cases l9 with
              | false =>
                go_enter Try.func7, Try.ntmps7
                go_wp2
                all_goals first
                  | (go_ret; exact ⟨ret_bool HR.out.symm, HB0.out⟩)
                  | (rename_i hx _; simp at hx)
              | true =>
                cases l10 with
                | false =>
                  go_enter Try.func7, Try.ntmps7
                  go_wp2
                  all_goals first
                    | (go_ret; exact ⟨ret_bool HR.out.symm, HB0.out⟩)
                    | (rename_i hx _; simp at hx)
                | true =>
                  cases l11 with
                  | false =>
                    go_enter Try.func7, Try.ntmps7
                    go_wp2
                    all_goals first
                      | (go_ret; exact ⟨ret_bool HR.out.symm, HB0.out⟩)
                      | (rename_i hx _; simp at hx)
                  | true =>
                    cases l12 with
                    | false =>
                      go_enter Try.func7, Try.ntmps7
                      go_wp2
                      all_goals first
                        | (go_ret; exact ⟨ret_bool HR.out.symm, HB0.out⟩)
                        | (rename_i hx _; simp at hx)
                    | true =>
                      cases l13 with
                      | false =>
                        go_enter Try.func7, Try.ntmps7
                        go_wp2
                        all_goals first
                          | (go_ret; exact ⟨ret_bool HR.out.symm, HB0.out⟩)
                          | (rename_i hx _; simp at hx)
                      | true =>
                        go_enter Try.func7, Try.ntmps7
                        go_wp2
                        all_goals first
                          | (go_ret; exact ⟨ret_bool HR.out.symm, HB0.out⟩)
                          | (rename_i hx _; simp at hx)
end Go.Proofs.Ytegpbdffddpmhaa.Con
