/-
  SatReckons: for every two 64-bit numbers the law SatReckons answers true (Add, Sub and Mul answer as the document's own answers do, the product by digits among them); no condition.
-/
import Derived.Test.YtbcomehbfbmmpaaMul
import Derived.WalkKit
import Derived.ProofKit
import Derived.OpenShut
namespace Go.Proofs.Ytbcomehbfbmmpaa.satReckons
open Go.ChangeShapes Go.WideShapes Go.ChangeAt Go.RowKit
set_option linter.unusedVariables false      -- a walk need not use every 'w<i>' (that an integer argument fits its kind)

theorem own : ownKnob Try.prog.godebug = none := by kernel_rfl

open Con

theorem radd_any (a b : Int) (w : World) (ha : Fits a) (hb : Fits b) :
    Calls Try.prog 10 #[.int .i64 a, .int .i64 b] w fun e w' => e = .returned (.int .i64 (held (a + b))) ∧ w = w' := by
  unfold Fits at ha hb
  by_cases h1 : 0 < a
  · by_cases h2 : 9223372036854775807 - a < b
    · go_enter Try.func10, Try.ntmps10
      go_wp2
      go_ret
      exact ⟨ret_int (held_hi (by omega)).symm, rfl⟩
    · have h2' : decide (9223372036854775807 - a < b) = false := by simpa using h2
      have h3 : decide (a < 0) = false := by simp; omega
      go_enter Try.func10, Try.ntmps10
      go_wp2
      go_ret
      exact ⟨ret_int (held_in ⟨by omega, by omega⟩).symm, rfl⟩
  · have h1' : decide (0 < a) = false := by simpa using h1
    by_cases h3 : a < 0
    · by_cases h2 : b < -9223372036854775808 - a
      · go_enter Try.func10, Try.ntmps10
        go_wp2
        go_ret
        exact ⟨ret_int (held_lo (by omega)).symm, rfl⟩
      · have h2' : decide (b < -9223372036854775808 - a) = false := by simpa using h2
        go_enter Try.func10, Try.ntmps10
        go_wp2
        go_ret
        exact ⟨ret_int (held_in ⟨by omega, by omega⟩).symm, rfl⟩
    · have h3' : decide (a < 0) = false := by simpa using h3
      go_enter Try.func10, Try.ntmps10
      go_wp2
      go_ret
      exact ⟨ret_int (held_in ⟨by omega, by omega⟩).symm, rfl⟩

theorem rsub_any (a b : Int) (w : World) (ha : Fits a) (hb : Fits b) :
    Calls Try.prog 12 #[.int .i64 a, .int .i64 b] w fun e w' => e = .returned (.int .i64 (held (a - b))) ∧ w = w' := by
  unfold Fits at ha hb
  by_cases h1 : b < 0
  · by_cases h2 : 9223372036854775807 + b < a
    · go_enter Try.func12, Try.ntmps12
      go_wp2
      go_ret
      exact ⟨ret_int (held_hi (by omega)).symm, rfl⟩
    · have h2' : decide (9223372036854775807 + b < a) = false := by simpa using h2
      have h3 : decide (0 < b) = false := by simp; omega
      go_enter Try.func12, Try.ntmps12
      go_wp2
      go_ret
      exact ⟨ret_int (held_in ⟨by omega, by omega⟩).symm, rfl⟩
  · have h1' : decide (b < 0) = false := by simpa using h1
    by_cases h3 : 0 < b
    · by_cases h2 : a < -9223372036854775808 + b
      · go_enter Try.func12, Try.ntmps12
        go_wp2
        go_ret
        exact ⟨ret_int (held_lo (by omega)).symm, rfl⟩
      · have h2' : decide (a < -9223372036854775808 + b) = false := by simpa using h2
        go_enter Try.func12, Try.ntmps12
        go_wp2
        go_ret
        exact ⟨ret_int (held_in ⟨by omega, by omega⟩).symm, rfl⟩
    · have h3' : decide (0 < b) = false := by simpa using h3
      go_enter Try.func12, Try.ntmps12
      go_wp2
      go_ret
      exact ⟨ret_int (held_in ⟨by omega, by omega⟩).symm, rfl⟩

/-- The walk: the law answers true, whatever two 64-bit numbers it is called with. -/
theorem walk (a0 : Int) (a1 : Int) (w0 : (Lit.int .i64 a0).wf = true) (w1 : (Lit.int .i64 a1).wf = true) (w : World) :
    Calls Try.prog 3 #[.int .i64 a0, .int .i64 a1] w fun e w' => e = .returned (.bool true) ∧ Grown w w' := by
  have ha : Fits a0 := bounds_i64 w0
  have hb : Fits a1 := bounds_i64 w1
  go_enter Try.func3, Try.ntmps3
  go_wp2_with (first
    | ((with_reducible refine (small_any _).mono ?_); rintro e w' ⟨rfl, rfl⟩)
    | ((with_reducible refine (add_any a0 a1 _ ha hb).mono ?_); rintro e w' ⟨rfl, rfl⟩)
    | ((with_reducible refine (radd_any a0 a1 _ ha hb).mono ?_); rintro e w' ⟨rfl, rfl⟩)
    | ((with_reducible refine (sub_any a0 a1 _ ha hb).mono ?_); rintro e w' ⟨rfl, rfl⟩)
    | ((with_reducible refine (rsub_any a0 a1 _ ha hb).mono ?_); rintro e w' ⟨rfl, rfl⟩)
    | ((with_reducible refine (mul_any a0 a1 _ ha hb).mono ?_); rintro e w' ⟨rfl, rfl⟩)
    | ((with_reducible refine (rmul_any a0 a1 _ ha hb).mono ?_); rintro e w' ⟨rfl, hg⟩))
  go_ret
  exact ⟨rfl, hg⟩

/-! ### THE ROW's STEP: WRITTEN OUT: LEAVE IT -/
set_option maxRecDepth 100000 in
theorem lifted (os : Os) (started : os.Started) (H : Type) (enc : TypeId × Value → H) :
    ReturnsInHanded {} Try.checked os 3 .any (Rows.satReckonsSpec.pre6 enc Try.prog Try.f3 Rows.satReckonsRow.domain false) (Rows.satReckonsSpec.post enc Try.prog Try.f3 false true false false) := by
  refine returnsInHanded_of_change (C := Try.checked) own started (by kernel_rfl) Try.func3
    (ChangeSpec.witness6 (enc := enc) (C := Try.checked) false ⟨#[], #[.int .i64 0, .int .i64 0], []⟩ 8 (by kernel_rfl) (by kernel_rfl) (by kernel_rfl) (by kernel_rfl)) ?_
  intro W base args ds gs before hval0 hW hcnd _
  have hval : ∀ (j : Nat) t v, Try.f3.params[j]? = some t → args[j]? = some v → Value.okWide Try.prog W .any base t v := hval0
  have hW' := hW
  obtain ⟨p, q, hA0, hV, rfl, hfz, hnd⟩ := hW
  have hA : DataW.TrodAll enc Try.prog W 0 (fun _ => true) true Try.f3.params.toList args.toList ds p := hA0
  rw [Try.params3] at hA hval
  obtain ⟨v0, vs0, d0, ds0, p0, q0, hargs, rfl, rfl, h0, r0⟩ := trodAll_cons hA
  obtain ⟨v1, vs1, d1, ds1, p1, q1, rfl, rfl, rfl, h1, r1⟩ := trodAll_cons r0
  obtain ⟨rfl, rfl, rfl⟩ := trodAll_nil r1
  obtain rfl : args = #[v0, v1] := by cases args; simp_all
  obtain ⟨rfl, rfl⟩ := trodVars_none hV
  obtain ⟨a0, rfl, rfl, rfl, w0⟩ := open_int Try.underlying3 (hval 0 3 v0 rfl rfl) h0
  obtain ⟨a1, rfl, rfl, rfl, w1⟩ := open_int Try.underlying3 (hval 1 3 v1 rfl rfl) h1
  clear hA0 hval0
  simp only [List.append_nil] at hW'
  refine (walk a0 a1 w0 w1 W).mono fun e W' ⟨he, hg⟩ => ?_
  subst he
  exact ⟨_, rfl, post_of_same (pa := []) (pv := []) hW' (fun _ _ _ => (trodAll_cons_mk (shut_bool Try.underlying4 _) trodAll_mk0)) (fun sp _ => (trodAll_cons_mk (shut_int Try.underlying3 w0) (trodAll_cons_mk (shut_int Try.underlying3 w1) trodAll_mk0))) (fun _ _ => rfl) rfl
    (hg.frame _) hg.2.1 (ok_one (by kernel_rfl) rfl (okWide_bool_mk Try.underlying4 _))⟩

theorem over : Rows.satReckonsRow.holds Try.pinned (OpenSpec.ofChange Rows.satReckonsSpec) :=
  OpenClaim.holds_of_wide 3 Try.f3 rfl rfl rfl rfl rfl rfl rfl ⟨rfl, rfl, rfl, rfl, rfl⟩ rfl rfl rfl rfl rfl (by kernel_rfl) Try.func3 (by kernel_rfl)
    (of_decide_eq_true (by kernel_rfl)) (by unfold Func.isWrapper; first | (rw [if_pos (by decide +kernel)]; kernel_rfl) | (rw [if_neg (by decide +kernel)]; exact ⟨rfl, rfl⟩))
    (fun os started H enc _ => lifted os started H enc)

/-- ████ THE STATEMENT ████ -/
theorem proved : Rows.SatReckonsSaid :=
  over
#print axioms proved
end Go.Proofs.Ytbcomehbfbmmpaa.satReckons
