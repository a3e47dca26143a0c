/-
  Contracts of body's Right, Dead, lives and of the document's Right and Dead: for every unit; only new memory is made.
-/
import Derived.Test.YtegpbdffddpmhaaBdu
namespace Go.Proofs.Ytegpbdffddpmhaa.Con
open Go.RowKit
set_option linter.unusedVariables false
theorem ret_bool {a b : Bool} (h : a = b) : Ending.returned (.bool a) = .returned (.bool b) := by rw [h]

theorem isKind_any (k : Int) (w : World) : Calls Try.prog 21 #[.int .i64 k] w fun e w' => e = .returned (.bool (kB k)) ∧ w = w' := by
  have HR : Hid (kB k = ((k == 1) || (k == 2))) := Lib.hid rfl
  cases h : (k == 1) with
  | true =>
    rw [h] at HR
    go_enter Try.func21, Try.ntmps21
    go_wp2
    go_ret
    exact ⟨ret_bool (HR.out.trans rfl).symm, rfl⟩
  | false =>
    rw [h] at HR
    go_enter Try.func21, Try.ntmps21
    go_wp2
    go_ret
    exact ⟨ret_bool (HR.out.trans rfl).symm, rfl⟩
theorem within_any (n a b : Int) (w : World) : Calls Try.prog 22 #[.int .i64 n, .int .i64 a, .int .i64 b] w fun e w' => e = .returned (.bool (wiB n a b)) ∧ w = w' := by
  have HR : Hid (wiB n a b = (decide (a ≤ n) && decide (n ≤ b))) := Lib.hid rfl
  cases h : decide (a ≤ n) with
  | true =>
    rw [h] at HR
    go_enter Try.func22, Try.ntmps22
    go_wp2
    go_ret
    exact ⟨ret_bool (HR.out.trans rfl).symm, rfl⟩
  | false =>
    rw [h] at HR
    go_enter Try.func22, Try.ntmps22
    go_wp2
    go_ret
    exact ⟨ret_bool (HR.out.trans rfl).symm, rfl⟩
theorem dead_any (u : Un) (w : World) : Calls Try.prog 8 #[uv u] w fun e w' => e = .returned (.bool (decide (u.h < 1))) ∧ Below w.heap.size w w' := by
  have HB0 := Lib.hid (below_box (w := w) u)
  obtain ⟨z0, z1, z2, z3, z4, z5, z6, z7, z8, z9⟩ := (Bx.new w u).at
  go_enter Try.func8, Try.ntmps8
  go_wp2
  go_ret
  exact ⟨rfl, HB0.out⟩
theorem rdead_any (u : Un) (w : World) : Calls Try.prog 9 #[uv u] w fun e w' => e = .returned (.bool (decide (u.h < 1))) ∧ Below w.heap.size w w' := by
  have HB0 := Lib.hid (below_box (w := w) u)
  obtain ⟨z0, z1, z2, z3, z4, z5, z6, z7, z8, z9⟩ := (Bx.new w u).at
  go_enter Try.func9, Try.ntmps9
  go_wp2
  go_ret
  exact ⟨rfl, HB0.out⟩
set_option maxRecDepth 20000 in
set_option maxHeartbeats 2000000 in
theorem right_any (u : Un) (w : World) : Calls Try.prog 6 #[uv u] w fun e w' => e = .returned (.bool (rtU u)) ∧ Below w.heap.size w w' := by
  obtain ⟨i, k, g, h, m, p, q, x, y, c⟩ := u
  have HB0 := Lib.hid (below_box (w := w) ⟨i, k, g, h, m, p, q, x, y, c⟩)
  obtain ⟨z0, z1, z2, z3, z4, z5, z6, z7, z8, z9⟩ := (Bx.new w ⟨i, k, g, h, m, p, q, x, y, c⟩).at
  simp only at z0 z1 z2 z3 z4 z5 z6 z7 z8 z9
  have HR : Hid (rtU ⟨i, k, g, h, m, p, q, x, y, c⟩ = (decide (1 ≤ i) && (kB k && (decide (0 ≤ c) && (wiB g 0 8 && (wiB m 1 1000000 && (wiB h 0 m && (wiB q 0 1000000 && (wiB p 0 q))))))))) := Lib.hid rfl
  have H1 := Lib.hid (fun V => isKind_any k V)
  have H3 := Lib.hid (fun V => within_any g 0 8 V)
  have H4 := Lib.hid (fun V => within_any m 1 1000000 V)
  have H5 := Lib.hid (fun V => within_any h 0 m V)
  have H6 := Lib.hid (fun V => within_any q 0 1000000 V)
  have H7 := Lib.hid (fun V => within_any p 0 q V)
  generalize hl0 : decide (1 ≤ i) = l0 at HR
  generalize hl1 : kB k = l1 at HR H1
  generalize hl2 : decide (0 ≤ c) = l2 at HR
  generalize hl3 : wiB g 0 8 = l3 at HR H3
  generalize hl4 : wiB m 1 1000000 = l4 at HR H4
  generalize hl5 : wiB h 0 m = l5 at HR H5
  generalize hl6 : wiB q 0 1000000 = l6 at HR H6
  generalize hl7 : wiB p 0 q = l7 at HR H7
  clear hl1 hl3 hl4 hl5 hl6 hl7
  cases l0 with
  | false =>
    go_enter Try.func6, Try.ntmps6
    go_wp2_with (first
      | ((with_reducible refine (H1.out _).mono ?_); rintro e w3 ⟨rfl, rfl⟩)
      | ((with_reducible refine (H3.out _).mono ?_); rintro e w3 ⟨rfl, rfl⟩)
      | ((with_reducible refine (H4.out _).mono ?_); rintro e w3 ⟨rfl, rfl⟩)
      | ((with_reducible refine (H5.out _).mono ?_); rintro e w3 ⟨rfl, rfl⟩)
      | ((with_reducible refine (H6.out _).mono ?_); rintro e w3 ⟨rfl, rfl⟩)
      | ((with_reducible refine (H7.out _).mono ?_); rintro e w3 ⟨rfl, rfl⟩))
    go_ret
    exact ⟨ret_bool HR.out.symm, HB0.out⟩
  | true =>
    cases l1 with
    | false =>
      go_enter Try.func6, Try.ntmps6
      go_wp2_with (first
        | ((with_reducible refine (H1.out _).mono ?_); rintro e w3 ⟨rfl, rfl⟩)
        | ((with_reducible refine (H3.out _).mono ?_); rintro e w3 ⟨rfl, rfl⟩)
        | ((with_reducible refine (H4.out _).mono ?_); rintro e w3 ⟨rfl, rfl⟩)
        | ((with_reducible refine (H5.out _).mono ?_); rintro e w3 ⟨rfl, rfl⟩)
        | ((with_reducible refine (H6.out _).mono ?_); rintro e w3 ⟨rfl, rfl⟩)
        | ((with_reducible refine (H7.out _).mono ?_); rintro e w3 ⟨rfl, rfl⟩))
      go_ret
      exact ⟨ret_bool HR.out.symm, HB0.out⟩
    | true =>
      cases l2 with
      | false =>
        go_enter Try.func6, Try.ntmps6
        go_wp2_with (first
          | ((with_reducible refine (H1.out _).mono ?_); rintro e w3 ⟨rfl, rfl⟩)
          | ((with_reducible refine (H3.out _).mono ?_); rintro e w3 ⟨rfl, rfl⟩)
          | ((with_reducible refine (H4.out _).mono ?_); rintro e w3 ⟨rfl, rfl⟩)
          | ((with_reducible refine (H5.out _).mono ?_); rintro e w3 ⟨rfl, rfl⟩)
          | ((with_reducible refine (H6.out _).mono ?_); rintro e w3 ⟨rfl, rfl⟩)
          | ((with_reducible refine (H7.out _).mono ?_); rintro e w3 ⟨rfl, rfl⟩))
        go_ret
        exact ⟨ret_bool HR.out.symm, HB0.out⟩
      | true =>
        cases l3 with
        | false =>
          go_enter Try.func6, Try.ntmps6
          go_wp2_with (first
            | ((with_reducible refine (H1.out _).mono ?_); rintro e w3 ⟨rfl, rfl⟩)
            | ((with_reducible refine (H3.out _).mono ?_); rintro e w3 ⟨rfl, rfl⟩)
            | ((with_reducible refine (H4.out _).mono ?_); rintro e w3 ⟨rfl, rfl⟩)
            | ((with_reducible refine (H5.out _).mono ?_); rintro e w3 ⟨rfl, rfl⟩)
            | ((with_reducible refine (H6.out _).mono ?_); rintro e w3 ⟨rfl, rfl⟩)
            | ((with_reducible refine (H7.out _).mono ?_); rintro e w3 ⟨rfl, rfl⟩))
          go_ret
          exact ⟨ret_bool HR.out.symm, HB0.out⟩
        | true =>
          cases l4 with
          | false =>
            go_enter Try.func6, Try.ntmps6
            go_wp2_with (first
              | ((with_reducible refine (H1.out _).mono ?_); rintro e w3 ⟨rfl, rfl⟩)
              | ((with_reducible refine (H3.out _).mono ?_); rintro e w3 ⟨rfl, rfl⟩)
              | ((with_reducible refine (H4.out _).mono ?_); rintro e w3 ⟨rfl, rfl⟩)
              | ((with_reducible refine (H5.out _).mono ?_); rintro e w3 ⟨rfl, rfl⟩)
              | ((with_reducible refine (H6.out _).mono ?_); rintro e w3 ⟨rfl, rfl⟩)
              | ((with_reducible refine (H7.out _).mono ?_); rintro e w3 ⟨rfl, rfl⟩))
            go_ret
            exact ⟨ret_bool HR.out.symm, HB0.out⟩
          | true =>
            cases l5 with
            | false =>
              go_enter Try.func6, Try.ntmps6
              go_wp2_with (first
                | ((with_reducible refine (H1.out _).mono ?_); rintro e w3 ⟨rfl, rfl⟩)
                | ((with_reducible refine (H3.out _).mono ?_); rintro e w3 ⟨rfl, rfl⟩)
                | ((with_reducible refine (H4.out _).mono ?_); rintro e w3 ⟨rfl, rfl⟩)
                | ((with_reducible refine (H5.out _).mono ?_); rintro e w3 ⟨rfl, rfl⟩)
                | ((with_reducible refine (H6.out _).mono ?_); rintro e w3 ⟨rfl, rfl⟩)
                | ((with_reducible refine (H7.out _).mono ?_); rintro e w3 ⟨rfl, rfl⟩))
              go_ret
              exact ⟨ret_bool HR.out.symm, HB0.out⟩
            | true =>
              cases l6 with
              | false =>
                go_enter Try.func6, Try.ntmps6
                go_wp2_with (first
                  | ((with_reducible refine (H1.out _).mono ?_); rintro e w3 ⟨rfl, rfl⟩)
                  | ((with_reducible refine (H3.out _).mono ?_); rintro e w3 ⟨rfl, rfl⟩)
                  | ((with_reducible refine (H4.out _).mono ?_); rintro e w3 ⟨rfl, rfl⟩)
                  | ((with_reducible refine (H5.out _).mono ?_); rintro e w3 ⟨rfl, rfl⟩)
                  | ((with_reducible refine (H6.out _).mono ?_); rintro e w3 ⟨rfl, rfl⟩)
                  | ((with_reducible refine (H7.out _).mono ?_); rintro e w3 ⟨rfl, rfl⟩))
                go_ret
                exact ⟨ret_bool HR.out.symm, HB0.out⟩
              | true =>
                cases l7 with
                | false =>
                  go_enter Try.func6, Try.ntmps6
                  go_wp2_with (first
                    | ((with_reducible refine (H1.out _).mono ?_); rintro e w3 ⟨rfl, rfl⟩)
                    | ((with_reducible refine (H3.out _).mono ?_); rintro e w3 ⟨rfl, rfl⟩)
                    | ((with_reducible refine (H4.out _).mono ?_); rintro e w3 ⟨rfl, rfl⟩)
                    | ((with_reducible refine (H5.out _).mono ?_); rintro e w3 ⟨rfl, rfl⟩)
                    | ((with_reducible refine (H6.out _).mono ?_); rintro e w3 ⟨rfl, rfl⟩)
                    | ((with_reducible refine (H7.out _).mono ?_); rintro e w3 ⟨rfl, rfl⟩))
                  go_ret
                  exact ⟨ret_bool HR.out.symm, HB0.out⟩
                | true =>
                  go_enter Try.func6, Try.ntmps6
                  go_wp2_with (first
                    | ((with_reducible refine (H1.out _).mono ?_); rintro e w3 ⟨rfl, rfl⟩)
                    | ((with_reducible refine (H3.out _).mono ?_); rintro e w3 ⟨rfl, rfl⟩)
                    | ((with_reducible refine (H4.out _).mono ?_); rintro e w3 ⟨rfl, rfl⟩)
                    | ((with_reducible refine (H5.out _).mono ?_); rintro e w3 ⟨rfl, rfl⟩)
                    | ((with_reducible refine (H6.out _).mono ?_); rintro e w3 ⟨rfl, rfl⟩)
                    | ((with_reducible refine (H7.out _).mono ?_); rintro e w3 ⟨rfl, rfl⟩))
                  go_ret
                  exact ⟨ret_bool HR.out.symm, HB0.out⟩
set_option maxRecDepth 20000 in
theorem lives_any (u : Un) (w : World) : Calls Try.prog 26 #[uv u] w fun e w' => e = .returned (.bool (lvU u)) ∧ Below w.heap.size w w' := by
  have HB0 := Lib.hid (below_box (w := w) u)
  have HX0 := Lib.hid (Bx.new w u)
  have HR : Hid (lvU u = (rtU u && !decide (u.h < 1))) := Lib.hid rfl
  have H1 := Lib.hid (fun V => right_any u V)
  have H2 := Lib.hid (fun V => dead_any u V)
  generalize rtU u = l1 at HR H1
  generalize decide (u.h < 1) = l2 at HR H2
  obtain ⟨z0, z1, z2, z3, z4, z5, z6, z7, z8, z9⟩ := HX0.out.at
  go_enter Try.func26, Try.ntmps26
  go_wp2_with (fail)
  generalize w.alloc (oU u) = w0 at *
  (with_reducible refine (H1.out _).mono ?_); rintro e w1 ⟨rfl, hB1⟩
  have HX1 := Lib.hid (HX0.out.of hB1 HX0.out.lt)
  have HB1 := Lib.hid (below_more HB0.out hB1)
  clear hB1 z0 z1 z2 z3 z4 z5 z6 z7 z8 z9
  obtain ⟨z0, z1, z2, z3, z4, z5, z6, z7, z8, z9⟩ := HX1.out.at
  cases l1 with
  | false =>
    go_wp2
    go_ret
    exact ⟨ret_bool HR.out.symm, HB1.out⟩
  | true =>
    go_wp2_with (fail)
    (with_reducible refine (H2.out _).mono ?_); rintro e w2 ⟨rfl, hB2⟩
    have HB2 := Lib.hid (below_more HB1.out hB2)
    clear hB2
    go_wp2
    go_ret
    exact ⟨ret_bool HR.out.symm, HB2.out⟩
end Go.Proofs.Ytegpbdffddpmhaa.Con
