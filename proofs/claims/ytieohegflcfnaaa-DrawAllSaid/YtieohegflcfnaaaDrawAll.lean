/-
  DrawAll: for every two 64-bit numbers the law DrawAll answers true; no condition.
-/
import Derived.Test.YtieohegflcfnaaaSmall
import Derived.WalkKit
import Derived.ProofKit
import Derived.OpenShut
namespace Go.Proofs.Ytieohegflcfnaaa.drawAll
open Go.ChangeShapes Go.WideShapes Go.ChangeAt Go.RowKit
set_option linter.unusedVariables false      -- a walk need not use every 'w<i>' (that an integer argument fits its kind)

theorem own : ownKnob Try.prog.godebug = none := by kernel_rfl

open Con Mth Mem

theorem fair_one {x n : Int} (hx0 : 0 ≤ x) (hx1 : x < 4294967296) (hn0 : 1 ≤ n) (hn1 : n ≤ 4294967296) : fair [x] n = if x < 4294967296 - 4294967296 % n then some (x % n, 1) else none := by
  unfold fair
  rw [if_neg (by omega)]
  simp only [seek, noWord_false hx0 hx1, Bool.false_eq_true, if_false]
theorem one_yes (w : World) (b : Nat) (x n d : Int) (hW : w.heap.size = b) (hx0 : 0 ≤ x) (hx1 : x < 4294967296) (hn0 : 1 ≤ n) (hn1 : n ≤ 4294967296) (h : x < 4294967296 - 4294967296 % n) (hd : x % n = d) :
    Calls Try.prog 9 #[.slice (some ⟨b, 0, none⟩) 1 1, .int .i64 n] (w.alloc (.cells #[.int .i64 x] 3)) fun e w' => e = .returned (.tuple #[.int .i64 d, .int .i64 1, .bool true]) ∧ w.alloc (.cells #[.int .i64 x] 3) = w' := by
  subst hW
  have := fair_any _ _ 1 [x] n _ (rd_new w [x] #[.int .i64 x] rfl) (by simp)
  rw [fair_one hx0 hx1 hn0 hn1, if_pos h, hd] at this
  exact this
theorem one_no (w : World) (b : Nat) (x n : Int) (hW : w.heap.size = b) (hx0 : 0 ≤ x) (hx1 : x < 4294967296) (hn0 : 1 ≤ n) (hn1 : n ≤ 4294967296) (h : 4294967296 - 4294967296 % n ≤ x) :
    Calls Try.prog 9 #[.slice (some ⟨b, 0, none⟩) 1 1, .int .i64 n] (w.alloc (.cells #[.int .i64 x] 3)) fun e w' => e = .returned (.tuple #[.int .i64 0, .int .i64 0, .bool false]) ∧ w.alloc (.cells #[.int .i64 x] 3) = w' := by
  subst hW
  have := fair_any _ _ 1 [x] n _ (rd_new w [x] #[.int .i64 x] rfl) (by simp)
  rw [fair_one hx0 hx1 hn0 hn1, if_neg (by omega)] at this
  exact this

theorem next_mod {x n : Int} (hn : 1 ≤ n) (h : x % n ≠ n - 1) : (x + 1) % n = x % n + 1 := by
  have h1 := Int.emod_nonneg x (show n ≠ 0 by omega)
  have h2 := Int.emod_lt_of_pos x (show 0 < n by omega)
  rw [← Int.emod_add_emod]
  exact Int.emod_eq_of_lt (by omega) (by omega)
theorem last_mod {x n : Int} (hn : 1 ≤ n) (h : x % n = n - 1) : (x + 1) % n = 0 := by
  rw [← Int.emod_add_emod, h, show n - 1 + 1 = n by omega, Int.emod_self]

/-- The law answers head where its numbers are out of bounds. -/
theorem out (f n : Int) (w : World) (h : f < 0 ∨ n < 1 ∨ 65536 < n ∨ 4294967295 - n < f) (hn : -9223372036854775808 ≤ n ∧ n ≤ 9223372036854775807) :
    Calls Try.prog 7 #[.int .i64 f, .int .i64 n] w fun e w' => e = .returned (.bool true) ∧ Below w.heap.size w w' := by
  by_cases h1 : f < 0
  · go_enter Try.func7, Try.ntmps7
    go_wp2_with ((with_reducible refine (small_any _).mono ?_); rintro e w1 ⟨rfl, hb⟩)
    go_ret
    exact ⟨rfl, hb⟩
  · have h1' : decide (f < 0) = false := by simpa using h1
    by_cases h2 : n < 1
    · go_enter Try.func7, Try.ntmps7
      go_wp2_with ((with_reducible refine (small_any _).mono ?_); rintro e w1 ⟨rfl, hb⟩)
      go_ret
      exact ⟨rfl, hb⟩
    · have h2' : decide (n < 1) = false := by simpa using h2
      by_cases h3 : 65536 < n
      · go_enter Try.func7, Try.ntmps7
        go_wp2_with ((with_reducible refine (small_any _).mono ?_); rintro e w1 ⟨rfl, hb⟩)
        go_ret
        exact ⟨rfl, hb⟩
      · have h3' : decide (65536 < n) = false := by simpa using h3
        have h4 : 4294967295 - n < f := by omega
        clear h
        go_enter Try.func7, Try.ntmps7
        go_wp2_with ((with_reducible refine (small_any _).mono ?_); rintro e w1 ⟨rfl, hb⟩)
        go_ret
        exact ⟨rfl, hb⟩

set_option maxHeartbeats 2000000 in
set_option maxRecDepth 100000 in
theorem inner (f n : Int) (w : World) (h0 : 0 ≤ f) (hn0 : 1 ≤ n) (hn1 : n ≤ 65536) (hf : f ≤ 4294967295 - n) :
    Calls Try.prog 7 #[.int .i64 f, .int .i64 n] w fun e w' => e = .returned (.bool true) ∧ Below w.heap.size w w' := by
  have h1' : decide (f < 0) = false := by simp; omega
  have h2' : decide (n < 1) = false := by simp; omega
  have h3' : decide (65536 < n) = false := by simp; omega
  have h4' : decide (4294967295 - n < f) = false := by simp; omega
  have m1 := Int.emod_nonneg f (show n ≠ 0 by omega)
  have m2 := Int.emod_lt_of_pos f (show 0 < n by omega)
  have k0 := Int.emod_nonneg 4294967296 (show n ≠ 0 by omega)
  have HC := Lib.hid (show (f + n) % n = f % n from Int.add_emod_right f n)
  by_cases hA : f < 4294967296 - 4294967296 % n
  · by_cases hB : f + 1 < 4294967296 - 4294967296 % n
    · by_cases hm : f % n = n - 1
      · have HM := Lib.hid (last_mod hn0 hm)
        have e1 : ((0 : Int) == f % n + 1) = false := by simp; omega
        have e2 : (f % n == n - 1) = true := by simpa using hm
        clear hm
        by_cases hC : f + n < 4294967296 - 4294967296 % n
        · go_enter Try.func7, Try.ntmps7
          go_wp2_with (first
            | ((with_reducible refine (small_any _).mono ?_); rintro e w1 ⟨rfl, hb⟩; have HB := Lib.hid hb; clear hb)
            | ((with_reducible refine (one_yes w1 w1.heap.size f n _ rfl (by omega) (by omega) hn0 (by omega) hA rfl).mono ?_); rintro e w' ⟨rfl, rfl⟩)
            | ((with_reducible refine (one_yes (w1.alloc _) (w1.heap.size + 1) (f + 1) n 0 (by simp) (by omega) (by omega) hn0 (by omega) hB HM.out).mono ?_); rintro e w' ⟨rfl, rfl⟩)
            | ((with_reducible refine (one_yes ((w1.alloc _).alloc _) (w1.heap.size + 2) (f + n) n (f % n) (by simp) (by omega) (by omega) hn0 (by omega) hC HC.out).mono ?_); rintro e w' ⟨rfl, rfl⟩))
          go_ret
          exact ⟨rfl, ((HB.out.alloc HB.out.size _).alloc (by have := HB.out.size; simp; omega) _).alloc (by have := HB.out.size; simp; omega) _⟩
        · go_enter Try.func7, Try.ntmps7
          go_wp2_with (first
            | ((with_reducible refine (small_any _).mono ?_); rintro e w1 ⟨rfl, hb⟩; have HB := Lib.hid hb; clear hb)
            | ((with_reducible refine (one_yes w1 w1.heap.size f n _ rfl (by omega) (by omega) hn0 (by omega) hA rfl).mono ?_); rintro e w' ⟨rfl, rfl⟩)
            | ((with_reducible refine (one_yes (w1.alloc _) (w1.heap.size + 1) (f + 1) n 0 (by simp) (by omega) (by omega) hn0 (by omega) hB HM.out).mono ?_); rintro e w' ⟨rfl, rfl⟩)
            | ((with_reducible refine (one_no ((w1.alloc _).alloc _) (w1.heap.size + 2) (f + n) n (by simp) (by omega) (by omega) hn0 (by omega) (by omega)).mono ?_); rintro e w' ⟨rfl, rfl⟩))
          go_ret
          exact ⟨rfl, ((HB.out.alloc HB.out.size _).alloc (by have := HB.out.size; simp; omega) _).alloc (by have := HB.out.size; simp; omega) _⟩
      · have HM := Lib.hid (next_mod hn0 hm)
        clear hm
        by_cases hC : f + n < 4294967296 - 4294967296 % n
        · go_enter Try.func7, Try.ntmps7
          go_wp2_with (first
            | ((with_reducible refine (small_any _).mono ?_); rintro e w1 ⟨rfl, hb⟩; have HB := Lib.hid hb; clear hb)
            | ((with_reducible refine (one_yes w1 w1.heap.size f n _ rfl (by omega) (by omega) hn0 (by omega) hA rfl).mono ?_); rintro e w' ⟨rfl, rfl⟩)
            | ((with_reducible refine (one_yes (w1.alloc _) (w1.heap.size + 1) (f + 1) n (f % n + 1) (by simp) (by omega) (by omega) hn0 (by omega) hB HM.out).mono ?_); rintro e w' ⟨rfl, rfl⟩)
            | ((with_reducible refine (one_yes ((w1.alloc _).alloc _) (w1.heap.size + 2) (f + n) n (f % n) (by simp) (by omega) (by omega) hn0 (by omega) hC HC.out).mono ?_); rintro e w' ⟨rfl, rfl⟩))
          go_ret
          exact ⟨rfl, ((HB.out.alloc HB.out.size _).alloc (by have := HB.out.size; simp; omega) _).alloc (by have := HB.out.size; simp; omega) _⟩
        · go_enter Try.func7, Try.ntmps7
          go_wp2_with (first
            | ((with_reducible refine (small_any _).mono ?_); rintro e w1 ⟨rfl, hb⟩; have HB := Lib.hid hb; clear hb)
            | ((with_reducible refine (one_yes w1 w1.heap.size f n _ rfl (by omega) (by omega) hn0 (by omega) hA rfl).mono ?_); rintro e w' ⟨rfl, rfl⟩)
            | ((with_reducible refine (one_yes (w1.alloc _) (w1.heap.size + 1) (f + 1) n (f % n + 1) (by simp) (by omega) (by omega) hn0 (by omega) hB HM.out).mono ?_); rintro e w' ⟨rfl, rfl⟩)
            | ((with_reducible refine (one_no ((w1.alloc _).alloc _) (w1.heap.size + 2) (f + n) n (by simp) (by omega) (by omega) hn0 (by omega) (by omega)).mono ?_); rintro e w' ⟨rfl, rfl⟩))
          go_ret
          exact ⟨rfl, ((HB.out.alloc HB.out.size _).alloc (by have := HB.out.size; simp; omega) _).alloc (by have := HB.out.size; simp; omega) _⟩
    · by_cases hC : f + n < 4294967296 - 4294967296 % n
      · omega
      · go_enter Try.func7, Try.ntmps7
        go_wp2_with (first
          | ((with_reducible refine (small_any _).mono ?_); rintro e w1 ⟨rfl, hb⟩; have HB := Lib.hid hb; clear hb)
          | ((with_reducible refine (one_yes w1 w1.heap.size f n _ rfl (by omega) (by omega) hn0 (by omega) hA rfl).mono ?_); rintro e w' ⟨rfl, rfl⟩)
          | ((with_reducible refine (one_no (w1.alloc _) (w1.heap.size + 1) (f + 1) n (by simp) (by omega) (by omega) hn0 (by omega) (by omega)).mono ?_); rintro e w' ⟨rfl, rfl⟩)
          | ((with_reducible refine (one_no ((w1.alloc _).alloc _) (w1.heap.size + 2) (f + n) n (by simp) (by omega) (by omega) hn0 (by omega) (by omega)).mono ?_); rintro e w' ⟨rfl, rfl⟩))
        go_ret
        exact ⟨rfl, ((HB.out.alloc HB.out.size _).alloc (by have := HB.out.size; simp; omega) _).alloc (by have := HB.out.size; simp; omega) _⟩
  · go_enter Try.func7, Try.ntmps7
    go_wp2_with (first
      | ((with_reducible refine (small_any _).mono ?_); rintro e w1 ⟨rfl, hb⟩; have HB := Lib.hid hb; clear hb)
      | ((with_reducible refine (one_no w1 w1.heap.size f n rfl (by omega) (by omega) hn0 (by omega) (by omega)).mono ?_); rintro e w' ⟨rfl, rfl⟩)
      | ((with_reducible refine (one_no (w1.alloc _) (w1.heap.size + 1) (f + 1) n (by simp) (by omega) (by omega) hn0 (by omega) (by omega)).mono ?_); rintro e w' ⟨rfl, rfl⟩)
      | ((with_reducible refine (one_no ((w1.alloc _).alloc _) (w1.heap.size + 2) (f + n) n (by simp) (by omega) (by omega) hn0 (by omega) (by omega)).mono ?_); rintro e w' ⟨rfl, rfl⟩))
    go_ret
    exact ⟨rfl, ((HB.out.alloc HB.out.size _).alloc (by have := HB.out.size; simp; omega) _).alloc (by have := HB.out.size; simp; omega) _⟩

theorem walk (a0 : Int) (a1 : Int) (w0 : (Lit.int .i64 a0).wf = true) (w1 : (Lit.int .i64 a1).wf = true) (w : World) :
    Calls Try.prog 7 #[.int .i64 a0, .int .i64 a1] w fun e w' => e = .returned (.bool true) ∧ Below w.heap.size w w' := by
  have h1 : -9223372036854775808 ≤ a1 ∧ a1 ≤ 9223372036854775807 := bounds_i64 w1
  by_cases h : a0 < 0 ∨ a1 < 1 ∨ 65536 < a1 ∨ 4294967295 - a1 < a0
  · exact out a0 a1 w h h1
  · exact inner a0 a1 w (by omega) (by omega) (by omega) (by omega)

/-! ### THE ROW's STEP: WRITTEN OUT: LEAVE IT -/
set_option maxRecDepth 100000 in
theorem lifted (os : Os) (started : os.Started) (H : Type) (enc : TypeId × Value → H) :
    ReturnsInHanded {} Try.checked os 7 .any (Rows.drawAllSpec.pre6 enc Try.prog Try.f7 Rows.drawAllRow.domain false) (Rows.drawAllSpec.post enc Try.prog Try.f7 false true false false) := by
  refine returnsInHanded_of_change (C := Try.checked) own started (by kernel_rfl) Try.func7
    (ChangeSpec.witness6 (enc := enc) (C := Try.checked) false ⟨#[], #[.int .i64 0, .int .i64 0], []⟩ 8 (by kernel_rfl) (by kernel_rfl) (by kernel_rfl) (by kernel_rfl)) ?_
  intro W base args ds gs before hval0 hW hcnd _
  have hval : ∀ (j : Nat) t v, Try.f7.params[j]? = some t → args[j]? = some v → Value.okWide Try.prog W .any base t v := hval0
  have hW' := hW
  obtain ⟨p, q, hA0, hV, rfl, hfz, hnd⟩ := hW
  have hA : DataW.TrodAll enc Try.prog W 0 (fun _ => true) true Try.f7.params.toList args.toList ds p := hA0
  rw [Try.params7] at hA hval
  obtain ⟨v0, vs0, d0, ds0, p0, q0, hargs, rfl, rfl, h0, r0⟩ := trodAll_cons hA
  obtain ⟨v1, vs1, d1, ds1, p1, q1, rfl, rfl, rfl, h1, r1⟩ := trodAll_cons r0
  obtain ⟨rfl, rfl, rfl⟩ := trodAll_nil r1
  obtain rfl : args = #[v0, v1] := by cases args; simp_all
  obtain ⟨rfl, rfl⟩ := trodVars_none hV
  obtain ⟨a0, rfl, rfl, rfl, w0⟩ := open_int Try.underlying3 (hval 0 3 v0 rfl rfl) h0
  obtain ⟨a1, rfl, rfl, rfl, w1⟩ := open_int Try.underlying3 (hval 1 3 v1 rfl rfl) h1
  clear hA0 hval0
  simp only [List.append_nil] at hW'
  refine (walk a0 a1 w0 w1 W).mono fun e W' ⟨he, hg⟩ => ?_
  subst he
  exact ⟨_, rfl, _, _, _, [], [], [], hW', (trodAll_cons_mk (shut_bool Try.underlying4 _) trodAll_mk0), (trodAll_cons_mk (shut_int Try.underlying3 w0) (trodAll_cons_mk (shut_int Try.underlying3 w1) trodAll_mk0)), rfl, hg.frame _, fun h => by cases h⟩

theorem over : Rows.drawAllRow.holds Try.pinned (OpenSpec.ofChange Rows.drawAllSpec) :=
  OpenClaim.holds_of_wide 7 Try.f7 rfl rfl rfl rfl rfl rfl rfl ⟨rfl, rfl, rfl, rfl, rfl⟩ rfl rfl rfl rfl rfl (by kernel_rfl) Try.func7 (by kernel_rfl)
    (of_decide_eq_true (by kernel_rfl)) (by unfold Func.isWrapper; first | (rw [if_pos (by decide +kernel)]; kernel_rfl) | (rw [if_neg (by decide +kernel)]; exact ⟨rfl, rfl⟩))
    (fun os started H enc _ => lifted os started H enc)

/-- ████ THE STATEMENT ████ -/
theorem proved : Rows.DrawAllSaid :=
  over
#print axioms proved
end Go.Proofs.Ytieohegflcfnaaa.drawAll
