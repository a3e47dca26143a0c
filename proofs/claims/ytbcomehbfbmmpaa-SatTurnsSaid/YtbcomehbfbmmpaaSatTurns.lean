/-
  SatTurns: for every two 64-bit numbers a and b the law SatTurns answers true (Add and Mul do not hang on the order of their two, Sub is Add of what is turned round, and where no end is met they are plain); no condition.
-/
import Derived.Test.YtbcomehbfbmmpaaSmall
import Derived.WalkKit
import Derived.ProofKit
import Derived.OpenShut
namespace Go.Proofs.Ytbcomehbfbmmpaa.satTurns
open Go.ChangeShapes Go.WideShapes Go.ChangeAt Go.RowKit
set_option linter.unusedVariables false      -- a walk need not use every 'w<i>' (that an integer argument fits its kind)

theorem own : ownKnob Try.prog.godebug = none := by kernel_rfl

open Con

theorem t1 (a b : Int) (w : World) (ha : Fits a) (hb : Fits b) (hm : b ≠ -9223372036854775808) :
    Calls Try.prog 9 #[.int .i64 a, .int .i64 (-b)] w fun e w' => e = .returned (.int .i64 (held (a - b))) ∧ w = w' :=
  (add_any _ _ w ha (by unfold Fits at hb ⊢; omega)).mono fun _ _ ⟨h, g⟩ => ⟨h.trans (ret_int (by rw [Int.sub_eq_add_neg])), g⟩
theorem t2 (a b : Int) (w : World) (ha : Fits a) (hb : Fits b) :
    Calls Try.prog 9 #[.int .i64 b, .int .i64 a] w fun e w' => e = .returned (.int .i64 (held (a + b))) ∧ w = w' :=
  (add_any _ _ w hb ha).mono fun _ _ ⟨h, g⟩ => ⟨h.trans (ret_int (by rw [Int.add_comm])), g⟩
theorem t3 (a b : Int) (w : World) (ha : Fits a) (hb : Fits b) :
    Calls Try.prog 13 #[.int .i64 b, .int .i64 a] w fun e w' => e = .returned (.int .i64 (held (a * b))) ∧ w = w' :=
  (mul_any _ _ w hb ha).mono fun _ _ ⟨h, g⟩ => ⟨h.trans (ret_int (by rw [Int.mul_comm])), g⟩
theorem half_fits {a : Int} (h : Fits a) : -4611686018427387904 ≤ a.tdiv 2 ∧ a.tdiv 2 ≤ 4611686018427387903 := by
  unfold Fits at h
  by_cases g : 0 ≤ a
  · rw [Int.tdiv_eq_ediv_of_nonneg g]; omega
  · have : a.tdiv 2 = -((-a) / 2) := by rw [← Int.tdiv_eq_ediv_of_nonneg (by omega), Int.neg_tdiv, Int.neg_neg]
    omega
theorem t4 (a b : Int) (w : World) (ha : Fits a) (hb : Fits b) :
    Calls Try.prog 9 #[.int .i64 (a.tdiv 2), .int .i64 (b.tdiv 2)] w fun e w' => e = .returned (.int .i64 (a.tdiv 2 + b.tdiv 2)) ∧ w = w' := by
  have h1 := half_fits ha
  have h2 := half_fits hb
  exact (add_any _ _ w ⟨by omega, by omega⟩ ⟨by omega, by omega⟩).mono fun _ _ ⟨h, g⟩ => ⟨h.trans (ret_int (held_in ⟨by omega, by omega⟩)), g⟩
theorem t5 (a : Int) (w : World) (ha : Fits a) :
    Calls Try.prog 13 #[.int .i64 a, .int .i64 1] w fun e w' => e = .returned (.int .i64 a) ∧ w = w' :=
  (mul_any _ _ w ha ⟨by omega, by omega⟩).mono fun _ _ ⟨h, g⟩ => ⟨h.trans (ret_int (by rw [Int.mul_one]; exact held_in ha)), g⟩
theorem t6 (a : Int) (w : World) (ha : Fits a) :
    Calls Try.prog 13 #[.int .i64 a, .int .i64 0] w fun e w' => e = .returned (.int .i64 0) ∧ w = w' :=
  (mul_any _ _ w ha ⟨by omega, by omega⟩).mono fun _ _ ⟨h, g⟩ => ⟨h.trans (ret_int (by rw [Int.mul_zero]; exact held_in ⟨by omega, by omega⟩)), g⟩
theorem t7 (a : Int) (w : World) (ha : Fits a) :
    Calls Try.prog 9 #[.int .i64 a, .int .i64 0] w fun e w' => e = .returned (.int .i64 a) ∧ w = w' :=
  (add_any _ _ w ha ⟨by omega, by omega⟩).mono fun _ _ ⟨h, g⟩ => ⟨h.trans (ret_int (by rw [Int.add_zero]; exact held_in ha)), g⟩

/-- The walk: the law answers true, whatever two 64-bit numbers it is called with. -/
theorem walk (a0 : Int) (a1 : Int) (w0 : (Lit.int .i64 a0).wf = true) (w1 : (Lit.int .i64 a1).wf = true) (w : World) :
    Calls Try.prog 5 #[.int .i64 a0, .int .i64 a1] w fun e w' => e = .returned (.bool true) ∧ Grown w w' := by
  have ha : Fits a0 := bounds_i64 w0
  have hb : Fits a1 := bounds_i64 w1
  have h1 := half_fits ha
  have h2 := half_fits hb
  by_cases hm : a1 = -9223372036854775808
  · have hm' : (a1 == -9223372036854775808) = true := by simpa using hm
    have HM := Lib.hid hm; clear hm
    go_enter Try.func5, Try.ntmps5
    go_wp2_with (first
      | ((with_reducible refine (small_any _).mono ?_); rintro e w' ⟨rfl, rfl⟩)
      | ((with_reducible refine (add_any a0 a1 _ ha hb).mono ?_); rintro e w' ⟨rfl, rfl⟩)
      | ((with_reducible refine (t2 a0 a1 _ ha hb).mono ?_); rintro e w' ⟨rfl, rfl⟩)
      | ((with_reducible refine (mul_any a0 a1 _ ha hb).mono ?_); rintro e w' ⟨rfl, rfl⟩)
      | ((with_reducible refine (t3 a0 a1 _ ha hb).mono ?_); rintro e w' ⟨rfl, rfl⟩)
      | ((with_reducible refine (t4 a0 a1 _ ha hb).mono ?_); rintro e w' ⟨rfl, rfl⟩)
      | ((with_reducible refine (t5 a0 _ ha).mono ?_); rintro e w' ⟨rfl, rfl⟩)
      | ((with_reducible refine (t6 a0 _ ha).mono ?_); rintro e w' ⟨rfl, rfl⟩)
      | ((with_reducible refine (t7 a0 _ ha).mono ?_); rintro e w' ⟨rfl, rfl⟩))
    go_ret
    exact ⟨rfl, Grown.refl _⟩
  · have hm' : (a1 == -9223372036854775808) = false := by simpa using hm
    have hl : -9223372036854775807 ≤ a1 := by unfold Fits at hb; omega
    have hu : a1 ≤ 9223372036854775807 := hb.2
    go_enter Try.func5, Try.ntmps5
    go_wp2_with (first
      | ((with_reducible refine (small_any _).mono ?_); rintro e w' ⟨rfl, rfl⟩)
      | ((with_reducible refine (sub_any a0 a1 _ ha hb).mono ?_); rintro e w' ⟨rfl, rfl⟩)
      | ((with_reducible refine (t1 a0 a1 _ ha hb hm).mono ?_); rintro e w' ⟨rfl, rfl⟩)
      | ((with_reducible refine (add_any a0 a1 _ ha hb).mono ?_); rintro e w' ⟨rfl, rfl⟩)
      | ((with_reducible refine (t2 a0 a1 _ ha hb).mono ?_); rintro e w' ⟨rfl, rfl⟩)
      | ((with_reducible refine (mul_any a0 a1 _ ha hb).mono ?_); rintro e w' ⟨rfl, rfl⟩)
      | ((with_reducible refine (t3 a0 a1 _ ha hb).mono ?_); rintro e w' ⟨rfl, rfl⟩)
      | ((with_reducible refine (t4 a0 a1 _ ha hb).mono ?_); rintro e w' ⟨rfl, rfl⟩)
      | ((with_reducible refine (t5 a0 _ ha).mono ?_); rintro e w' ⟨rfl, rfl⟩)
      | ((with_reducible refine (t6 a0 _ ha).mono ?_); rintro e w' ⟨rfl, rfl⟩)
      | ((with_reducible refine (t7 a0 _ ha).mono ?_); rintro e w' ⟨rfl, rfl⟩))
    go_ret
    exact ⟨rfl, Grown.refl _⟩

/-! ### THE ROW's STEP: WRITTEN OUT: LEAVE IT -/
set_option maxRecDepth 100000 in
theorem lifted (os : Os) (started : os.Started) (H : Type) (enc : TypeId × Value → H) :
    ReturnsInHanded {} Try.checked os 5 .any (Rows.satTurnsSpec.pre6 enc Try.prog Try.f5 Rows.satTurnsRow.domain false) (Rows.satTurnsSpec.post enc Try.prog Try.f5 false true false false) := by
  refine returnsInHanded_of_change (C := Try.checked) own started (by kernel_rfl) Try.func5
    (ChangeSpec.witness6 (enc := enc) (C := Try.checked) false ⟨#[], #[.int .i64 0, .int .i64 0], []⟩ 8 (by kernel_rfl) (by kernel_rfl) (by kernel_rfl) (by kernel_rfl)) ?_
  intro W base args ds gs before hval0 hW hcnd _
  have hval : ∀ (j : Nat) t v, Try.f5.params[j]? = some t → args[j]? = some v → Value.okWide Try.prog W .any base t v := hval0
  have hW' := hW
  obtain ⟨p, q, hA0, hV, rfl, hfz, hnd⟩ := hW
  have hA : DataW.TrodAll enc Try.prog W 0 (fun _ => true) true Try.f5.params.toList args.toList ds p := hA0
  rw [Try.params5] at hA hval
  obtain ⟨v0, vs0, d0, ds0, p0, q0, hargs, rfl, rfl, h0, r0⟩ := trodAll_cons hA
  obtain ⟨v1, vs1, d1, ds1, p1, q1, rfl, rfl, rfl, h1, r1⟩ := trodAll_cons r0
  obtain ⟨rfl, rfl, rfl⟩ := trodAll_nil r1
  obtain rfl : args = #[v0, v1] := by cases args; simp_all
  obtain ⟨rfl, rfl⟩ := trodVars_none hV
  obtain ⟨a0, rfl, rfl, rfl, w0⟩ := open_int Try.underlying3 (hval 0 3 v0 rfl rfl) h0
  obtain ⟨a1, rfl, rfl, rfl, w1⟩ := open_int Try.underlying3 (hval 1 3 v1 rfl rfl) h1
  clear hA0 hval0
  simp only [List.append_nil] at hW'
  refine (walk a0 a1 w0 w1 W).mono fun e W' ⟨he, hg⟩ => ?_
  subst he
  exact ⟨_, rfl, post_of_same (pa := []) (pv := []) hW' (fun _ _ _ => (trodAll_cons_mk (shut_bool Try.underlying4 _) trodAll_mk0)) (fun sp _ => (trodAll_cons_mk (shut_int Try.underlying3 w0) (trodAll_cons_mk (shut_int Try.underlying3 w1) trodAll_mk0))) (fun _ _ => rfl) rfl
    (hg.frame _) hg.2.1 (ok_one (by kernel_rfl) rfl (okWide_bool_mk Try.underlying4 _))⟩

theorem over : Rows.satTurnsRow.holds Try.pinned (OpenSpec.ofChange Rows.satTurnsSpec) :=
  OpenClaim.holds_of_wide 5 Try.f5 rfl rfl rfl rfl rfl rfl rfl ⟨rfl, rfl, rfl, rfl, rfl⟩ rfl rfl rfl rfl rfl (by kernel_rfl) Try.func5 (by kernel_rfl)
    (of_decide_eq_true (by kernel_rfl)) (by unfold Func.isWrapper; first | (rw [if_pos (by decide +kernel)]; kernel_rfl) | (rw [if_neg (by decide +kernel)]; exact ⟨rfl, rfl⟩))
    (fun os started H enc _ => lifted os started H enc)

/-- ████ THE STATEMENT ████ -/
theorem proved : Rows.SatTurnsSaid :=
  over
#print axioms proved
end Go.Proofs.Ytbcomehbfbmmpaa.satTurns
