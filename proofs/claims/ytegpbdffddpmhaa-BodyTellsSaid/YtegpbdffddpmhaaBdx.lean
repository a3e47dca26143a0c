/-
  The document's own Right: for every unit; only new memory is made.
-/
import Derived.Test.YtegpbdffddpmhaaBdp
import Derived.Test.YtegpbdffddpmhaaBdq
namespace Go.Proofs.Ytegpbdffddpmhaa.Con
open Go.RowKit
set_option linter.unusedVariables false
set_option maxRecDepth 20000 in
set_option maxHeartbeats 4000000 in
theorem rright_any (u : Un) (w : World) : Calls Try.prog 7 #[uv u] w fun e w' => e = .returned (.bool (rtU u)) ∧ Below w.heap.size w w' := by
  cases hi : decide (1 ≤ u.i) with
  | false =>
    have HF : Hid (rtU u = false) := Lib.hid (by rw [← Bool.not_eq_true, rt_iff]; simp at hi; omega)
    have HB0 := Lib.hid (below_box (w := w) u)
    obtain ⟨z0, z1, z2, z3, z4, z5, z6, z7, z8, z9⟩ := (Bx.new w u).at
    go_enter Try.func7, Try.ntmps7
    go_wp2
    all_goals first
      | (go_ret; exact ⟨ret_bool HF.out.symm, HB0.out⟩)
      | (rename_i hx _; simp at hx)
  | true =>
    cases hk1 : (u.k == 1) with
    | true => exact rright_one u w hi hk1
    | false =>
      cases hk2 : (u.k == 2) with
      | true => exact rright_two u w hi hk1 hk2
      | false =>
        have HF : Hid (rtU u = false) := Lib.hid (by rw [← Bool.not_eq_true, rt_iff]; simp at hk1 hk2; omega)
        have HB0 := Lib.hid (below_box (w := w) u)
        obtain ⟨z0, z1, z2, z3, z4, z5, z6, z7, z8, z9⟩ := (Bx.new w u).at
        go_enter Try.func7, Try.ntmps7
        go_wp2
        all_goals first
          | (go_ret; exact ⟨ret_bool HF.out.symm, HB0.out⟩)
          | (rename_i hx _; simp at hx)
end Go.Proofs.Ytegpbdffddpmhaa.Con
