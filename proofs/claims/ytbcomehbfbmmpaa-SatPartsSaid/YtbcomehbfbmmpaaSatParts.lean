/-
  SatParts: for every three 64-bit numbers the law SatParts answers true (Clamp, Part and Root answer as the document's own answers do); no condition.
-/
import Derived.Test.YtbcomehbfbmmpaaSmall
import Derived.WalkKit
import Derived.ProofKit
import Derived.OpenShut
namespace Go.Proofs.Ytbcomehbfbmmpaa.satParts
open Go.ChangeShapes Go.WideShapes Go.ChangeAt Go.RowKit
set_option linter.unusedVariables false      -- a walk need not use every 'w<i>' (that an integer argument fits its kind)

theorem own : ownKnob Try.prog.godebug = none := by kernel_rfl

open Con

theorem rclamp_any (a lo hi : Int) (w : World) :
    Calls Try.prog 16 #[.int .i64 a, .int .i64 lo, .int .i64 hi] w fun e w' => e = .returned (.int .i64 (clampI a lo hi)) ∧ w = w' := by
  by_cases h1 : hi < lo
  · go_enter Try.func16, Try.ntmps16
    go_wp2
    go_ret
    exact ⟨ret_int (by unfold clampI; split <;> (try split) <;> (try split) <;> omega), rfl⟩
  · have h1' : decide (hi < lo) = false := by simpa using h1
    by_cases h2 : a < lo
    · go_enter Try.func16, Try.ntmps16
      go_wp2
      go_ret
      exact ⟨ret_int (by unfold clampI; split <;> (try split) <;> (try split) <;> omega), rfl⟩
    · have h2' : decide (a < lo) = false := by simpa using h2
      by_cases h3 : hi < a
      · go_enter Try.func16, Try.ntmps16
        go_wp2
        go_ret
        exact ⟨ret_int (by unfold clampI; split <;> (try split) <;> (try split) <;> omega), rfl⟩
      · have h3' : decide (hi < a) = false := by simpa using h3
        go_enter Try.func16, Try.ntmps16
        go_wp2
        go_ret
        exact ⟨ret_int (by unfold clampI; split <;> (try split) <;> (try split) <;> omega), rfl⟩

theorem rclampPart (a : Int) (w : World) :
    Calls Try.prog 16 #[.int .i64 a, .int .i64 (-2147483647), .int .i64 2147483647] w fun e w' => e = .returned (.int .i64 (cpI a)) ∧ w = w' := rclamp_any _ _ _ w

theorem rpart_any (a num den : Int) (w : World) (hd : Fits den) :
    Calls Try.prog 18 #[.int .i64 a, .int .i64 num, .int .i64 den] w fun e w' => e = .returned (.int .i64 (partI a num den)) ∧ w = w' := by
  unfold Fits at hd
  by_cases h : den < 1
  · go_enter Try.func18, Try.ntmps18
    go_wp2
    go_ret
    exact ⟨ret_int (by unfold partI; split <;> omega), rfl⟩
  · have h' : decide (den < 1) = false := by simpa using h
    have hp := prod_fits (cpI_fits a) (cpI_fits num)
    go_enter Try.func18, Try.ntmps18
    go_wp2_with (go_at_call 16; refine (rclampPart _ _).mono ?_; rintro e w' ⟨rfl, rfl⟩)
    go_ret
    exact ⟨ret_int (by unfold partI; split <;> first | omega | rfl), rfl⟩

theorem rroot_neg (n : Int) (w : World) (h1 : n < 1) :
    Calls Try.prog 20 #[.int .i64 n] w (SomeRoot n w) := by
  have hd : decide (0 < n) = false := by simp; omega
  go_enter Try.func20, Try.ntmps20
  go_wp2
  go_loop [3, 4] (fun r s => r = .int .i64 0 ∧ s = .int .i64 3037000500) (fun _ _ => 0)
  case atStart => exact ⟨rfl, rfl⟩
  case round =>
    obtain ⟨rfl, rfl⟩ := hrel
    go_wp2
    go_ret
    exact ⟨0, Or.inl ⟨h1, rfl⟩, rfl, rfl⟩

theorem rroot_pos (n : Int) (w : World) (h1 : 1 ≤ n) (h2 : n ≤ 9223372036854775807) :
    Calls Try.prog 20 #[.int .i64 n] w (SomeRoot n w) := by
  go_enter Try.func20, Try.ntmps20
  go_wp2
  go_loop [3, 4] (fun r s => ∃ lo hi : Int, r = .int .i64 lo ∧ s = .int .i64 hi ∧ 0 ≤ lo ∧ lo < hi ∧ hi ≤ 3037000500 ∧ lo * lo ≤ n ∧ n < hi * hi) (fun r s => (intOf s - intOf r).toNat)
  case atStart => exact ⟨0, 3037000500, rfl, rfl, by omega, by omega, by omega, by omega, by omega⟩
  case round =>
    obtain ⟨lo, hi, rfl, rfl, a1, a2, a3, a4, a5⟩ := hrel
    by_cases hlt : lo + 1 < hi
    · obtain ⟨m, hm⟩ : ∃ m : Int, m = (lo + hi) / 2 := ⟨_, rfl⟩
      have m1 : lo < m := by omega
      have m2 : m < hi := by omega
      have m3 : 0 ≤ m * m := Int.mul_nonneg (by omega) (by omega)
      have m4 : m * m ≤ 3037000499 * 3037000499 := Int.mul_le_mul (by omega) (by omega) (by omega) (by omega)
      by_cases ht : m * m ≤ n
      · have A4 := Lib.hid a4; clear a4
        have A5 := Lib.hid a5; clear a5
        rw [hm] at ht m1 m2 m3 m4
        clear hm
        go_wp2
        go_round
        case rel => exact ⟨_, hi, rfl, rfl, by omega, by omega, by omega, ht, A5.out⟩
        case measure => simp [intOf]; omega
      · have A4 := Lib.hid a4; clear a4
        have A5 := Lib.hid a5; clear a5
        have ht' : decide (m * m ≤ n) = false := by simpa using ht
        rw [hm] at ht ht' m1 m2 m3 m4
        clear hm
        go_wp2
        go_round
        case rel => exact ⟨lo, _, rfl, rfl, by omega, by omega, by omega, A4.out, by omega⟩
        case measure => simp [intOf]; omega
    · have hlt' : decide (lo + 1 < hi) = false := by simpa using hlt
      have A5 := Lib.hid a5; clear a5
      go_wp2
      go_ret
      exact ⟨lo, Or.inr ⟨h1, a1, a4, by have := A5.out; rw [show hi = lo + 1 by omega] at this; exact this⟩, rfl, rfl⟩

theorem rroot_any (n : Int) (w : World) (hn : Fits n) : Calls Try.prog 20 #[.int .i64 n] w (SomeRoot n w) := by
  by_cases h : 1 ≤ n
  · exact rroot_pos n w h hn.2
  · exact rroot_neg n w (by omega)

/-- The walk: the law answers true, whatever three 64-bit numbers it is called with. -/
theorem walk (a0 : Int) (a1 : Int) (a2 : Int) (w0 : (Lit.int .i64 a0).wf = true) (w1 : (Lit.int .i64 a1).wf = true) (w2 : (Lit.int .i64 a2).wf = true) (w : World) :
    Calls Try.prog 4 #[.int .i64 a0, .int .i64 a1, .int .i64 a2] w fun e w' => e = .returned (.bool true) ∧ Grown w w' := by
  have ha : Fits a0 := bounds_i64 w0
  have hc : Fits a2 := bounds_i64 w2
  go_enter Try.func4, Try.ntmps4
  go_wp2_with (first
    | ((with_reducible refine (small_any _).mono ?_); rintro e w' ⟨rfl, rfl⟩)
    | ((with_reducible refine (clamp_any a0 a1 a2 _).mono ?_); rintro e w' ⟨rfl, rfl⟩)
    | ((with_reducible refine (rclamp_any a0 a1 a2 _).mono ?_); rintro e w' ⟨rfl, rfl⟩)
    | ((with_reducible refine (part_any a0 a1 a2 _ hc).mono ?_); rintro e w' ⟨rfl, rfl⟩)
    | ((with_reducible refine (rpart_any a0 a1 a2 _ hc).mono ?_); rintro e w' ⟨rfl, rfl⟩)
    | ((with_reducible refine (root_any a0 _ ha).mono ?_); rintro e w' ⟨r, hr, rfl, rfl⟩)
    | ((with_reducible refine (rroot_any a0 _ ha).mono ?_); rintro e w' ⟨r', hr', rfl, rfl⟩; obtain rfl := root_one hr hr'))
  go_ret
  exact ⟨rfl, Grown.refl _⟩

/-! ### THE ROW's STEP: WRITTEN OUT: LEAVE IT -/
set_option maxRecDepth 100000 in
theorem lifted (os : Os) (started : os.Started) (H : Type) (enc : TypeId × Value → H) :
    ReturnsInHanded {} Try.checked os 4 .any (Rows.satPartsSpec.pre6 enc Try.prog Try.f4 Rows.satPartsRow.domain false) (Rows.satPartsSpec.post enc Try.prog Try.f4 false true false false) := by
  refine returnsInHanded_of_change (C := Try.checked) own started (by kernel_rfl) Try.func4
    (ChangeSpec.witness6 (enc := enc) (C := Try.checked) false ⟨#[], #[.int .i64 0, .int .i64 0, .int .i64 0], []⟩ 8 (by kernel_rfl) (by kernel_rfl) (by kernel_rfl) (by kernel_rfl)) ?_
  intro W base args ds gs before hval0 hW hcnd _
  have hval : ∀ (j : Nat) t v, Try.f4.params[j]? = some t → args[j]? = some v → Value.okWide Try.prog W .any base t v := hval0
  have hW' := hW
  obtain ⟨p, q, hA0, hV, rfl, hfz, hnd⟩ := hW
  have hA : DataW.TrodAll enc Try.prog W 0 (fun _ => true) true Try.f4.params.toList args.toList ds p := hA0
  rw [Try.params4] at hA hval
  obtain ⟨v0, vs0, d0, ds0, p0, q0, hargs, rfl, rfl, h0, r0⟩ := trodAll_cons hA
  obtain ⟨v1, vs1, d1, ds1, p1, q1, rfl, rfl, rfl, h1, r1⟩ := trodAll_cons r0
  obtain ⟨v2, vs2, d2, ds2, p2, q2, rfl, rfl, rfl, h2, r2⟩ := trodAll_cons r1
  obtain ⟨rfl, rfl, rfl⟩ := trodAll_nil r2
  obtain rfl : args = #[v0, v1, v2] := by cases args; simp_all
  obtain ⟨rfl, rfl⟩ := trodVars_none hV
  obtain ⟨a0, rfl, rfl, rfl, w0⟩ := open_int Try.underlying3 (hval 0 3 v0 rfl rfl) h0
  obtain ⟨a1, rfl, rfl, rfl, w1⟩ := open_int Try.underlying3 (hval 1 3 v1 rfl rfl) h1
  obtain ⟨a2, rfl, rfl, rfl, w2⟩ := open_int Try.underlying3 (hval 2 3 v2 rfl rfl) h2
  clear hA0 hval0
  simp only [List.append_nil] at hW'
  refine (walk a0 a1 a2 w0 w1 w2 W).mono fun e W' ⟨he, hg⟩ => ?_
  subst he
  exact ⟨_, rfl, post_of_same (pa := []) (pv := []) hW' (fun _ _ _ => (trodAll_cons_mk (shut_bool Try.underlying4 _) trodAll_mk0)) (fun sp _ => (trodAll_cons_mk (shut_int Try.underlying3 w0) (trodAll_cons_mk (shut_int Try.underlying3 w1) (trodAll_cons_mk (shut_int Try.underlying3 w2) trodAll_mk0)))) (fun _ _ => rfl) rfl
    (hg.frame _) hg.2.1 (ok_one (by kernel_rfl) rfl (okWide_bool_mk Try.underlying4 _))⟩

theorem over : Rows.satPartsRow.holds Try.pinned (OpenSpec.ofChange Rows.satPartsSpec) :=
  OpenClaim.holds_of_wide 4 Try.f4 rfl rfl rfl rfl rfl rfl rfl ⟨rfl, rfl, rfl, rfl, rfl⟩ rfl rfl rfl rfl rfl (by kernel_rfl) Try.func4 (by kernel_rfl)
    (of_decide_eq_true (by kernel_rfl)) (by unfold Func.isWrapper; first | (rw [if_pos (by decide +kernel)]; kernel_rfl) | (rw [if_neg (by decide +kernel)]; exact ⟨rfl, rfl⟩))
    (fun os started H enc _ => lifted os started H enc)

/-- ████ THE STATEMENT ████ -/
theorem proved : Rows.SatPartsSaid :=
  over
#print axioms proved
end Go.Proofs.Ytbcomehbfbmmpaa.satParts
