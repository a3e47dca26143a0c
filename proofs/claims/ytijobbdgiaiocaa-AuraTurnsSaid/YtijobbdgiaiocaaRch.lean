/-
  Contracts of the document's own amount, aura and line: what is right of each.
-/
import Derived.Test.YtijobbdgiaiocaaRfa
import Derived.Test.YtijobbdgiaiocaaRgd
namespace Go.Proofs.Ytijobbdgiaiocaa.Con
open Go.RowKit Go.Maps

theorem ramt_any (n lo : Int) (w : World) (x : Bool) (hx : x = true ↔ In n lo 1000000) : Calls Try.prog 88 #[.int .i64 n, .int .i64 lo] w fun e w' => e = .returned (.bool x) ∧ w = w' := by
  have HX := Lib.hid hx; clear hx
  by_cases h1 : lo ≤ n
  · by_cases h2 : n ≤ 1000000
    · go_enter Try.func88, Try.ntmps88
      go_wp2
      go_ret
      exact ⟨of_iff HX.out (by unfold In; simp [h1, h2]), rfl⟩
    · have h2' : decide (n ≤ 1000000) = false := by simpa using h2
      go_enter Try.func88, Try.ntmps88
      go_wp2
      go_ret
      exact ⟨of_iff HX.out (by unfold In; simp; omega), rfl⟩
  · have h1' : decide (lo ≤ n) = false := by simpa using h1
    go_enter Try.func88, Try.ntmps88
    go_wp2
    go_ret
    exact ⟨of_iff HX.out (by unfold In; simp; omega), rfl⟩
set_option maxRecDepth 20000 in
set_option maxHeartbeats 16000000 in
theorem raura1 (a : Au) (w : World) (x : Bool) (hx : x = true ↔ AuOk a) : Calls Try.prog 73 #[auv a] w fun e w' => e = .returned (.bool x) ∧ Below w.heap.size w w' := by
  obtain ⟨id, kind, ticks, every, stacks, amount, harm⟩ := a
  obtain ⟨x1, h1⟩ := bex (In ticks 1 1000000)
  obtain ⟨x2, h2⟩ := bex (In every 1 1000000)
  obtain ⟨x3, h3⟩ := bex (In amount 0 1000000)
  have HX := Lib.hid hx; have H1 := Lib.hid h1; have H2 := Lib.hid h2; have H3 := Lib.hid h3; clear hx h1 h2 h3
  have hb : Below w.heap.size w (w.alloc (.cells #[.int .i64 id, .int .i64 kind, .int .i64 ticks, .int .i64 every, .int .i64 stacks, .int .i64 amount, .bool harm] 54)) := (Below.refl _ w).alloc (Nat.le_refl _) _
  by_cases k1 : kind = 1
  · subst k1
    go_enter Try.func73, Try.ntmps73
    go_wp2_with (first | ((with_reducible refine (ramt_any ticks 1 _ x1 H1.out).mono ?_); rintro e w' ⟨rfl, rfl⟩) | ((with_reducible refine (ramt_any every 1 _ x2 H2.out).mono ?_); rintro e w' ⟨rfl, rfl⟩) | ((with_reducible refine (ramt_any amount 0 _ x3 H3.out).mono ?_); rintro e w' ⟨rfl, rfl⟩))
    all_goals
      go_ret
      refine ⟨of_iff HX.out ?_, hb⟩
      have h1 := H1.out; have h2 := H2.out; have h3 := H3.out
      clear HX H1 H2 H3 hb
      simp only [AuOk, Amt]
      rw [← h1]
      simp only [In] at *
      simp_all <;> omega
  · skip
    by_cases k2 : kind = 2
    · subst k2
      go_enter Try.func73, Try.ntmps73
      go_wp2_with (first | ((with_reducible refine (ramt_any ticks 1 _ x1 H1.out).mono ?_); rintro e w' ⟨rfl, rfl⟩) | ((with_reducible refine (ramt_any every 1 _ x2 H2.out).mono ?_); rintro e w' ⟨rfl, rfl⟩) | ((with_reducible refine (ramt_any amount 0 _ x3 H3.out).mono ?_); rintro e w' ⟨rfl, rfl⟩))
      all_goals
        go_ret
        refine ⟨of_iff HX.out ?_, hb⟩
        have h1 := H1.out; have h2 := H2.out; have h3 := H3.out
        clear HX H1 H2 H3 hb
        simp only [AuOk, Amt]
        rw [← h1]
        simp only [In] at *
        simp_all <;> omega
    · skip
      by_cases k3 : kind = 3
      · subst k3
        go_enter Try.func73, Try.ntmps73
        go_wp2_with (first | ((with_reducible refine (ramt_any ticks 1 _ x1 H1.out).mono ?_); rintro e w' ⟨rfl, rfl⟩) | ((with_reducible refine (ramt_any every 1 _ x2 H2.out).mono ?_); rintro e w' ⟨rfl, rfl⟩) | ((with_reducible refine (ramt_any amount 0 _ x3 H3.out).mono ?_); rintro e w' ⟨rfl, rfl⟩))
        all_goals
          go_ret
          refine ⟨of_iff HX.out ?_, hb⟩
          have h1 := H1.out; have h2 := H2.out; have h3 := H3.out
          clear HX H1 H2 H3 hb
          simp only [AuOk, Amt]
          rw [← h1]
          simp only [In] at *
          simp_all <;> omega
      · skip
        by_cases k4 : kind = 4
        · subst k4
          go_enter Try.func73, Try.ntmps73
          go_wp2_with (first | ((with_reducible refine (ramt_any ticks 1 _ x1 H1.out).mono ?_); rintro e w' ⟨rfl, rfl⟩) | ((with_reducible refine (ramt_any every 1 _ x2 H2.out).mono ?_); rintro e w' ⟨rfl, rfl⟩) | ((with_reducible refine (ramt_any amount 0 _ x3 H3.out).mono ?_); rintro e w' ⟨rfl, rfl⟩))
          all_goals
            go_ret
            refine ⟨of_iff HX.out ?_, hb⟩
            have h1 := H1.out; have h2 := H2.out; have h3 := H3.out
            clear HX H1 H2 H3 hb
            simp only [AuOk, Amt]
            rw [← h1]
            simp only [In] at *
            simp_all <;> omega
        · skip
          by_cases k5 : kind = 5
          · subst k5
            go_enter Try.func73, Try.ntmps73
            go_wp2_with (first | ((with_reducible refine (ramt_any ticks 1 _ x1 H1.out).mono ?_); rintro e w' ⟨rfl, rfl⟩) | ((with_reducible refine (ramt_any every 1 _ x2 H2.out).mono ?_); rintro e w' ⟨rfl, rfl⟩) | ((with_reducible refine (ramt_any amount 0 _ x3 H3.out).mono ?_); rintro e w' ⟨rfl, rfl⟩))
            all_goals
              go_ret
              refine ⟨of_iff HX.out ?_, hb⟩
              have h1 := H1.out; have h2 := H2.out; have h3 := H3.out
              clear HX H1 H2 H3 hb
              simp only [AuOk, Amt]
              rw [← h1]
              simp only [In] at *
              simp_all <;> omega
          · skip
            by_cases k6 : kind = 6
            · subst k6
              go_enter Try.func73, Try.ntmps73
              go_wp2_with (first | ((with_reducible refine (ramt_any ticks 1 _ x1 H1.out).mono ?_); rintro e w' ⟨rfl, rfl⟩) | ((with_reducible refine (ramt_any every 1 _ x2 H2.out).mono ?_); rintro e w' ⟨rfl, rfl⟩) | ((with_reducible refine (ramt_any amount 0 _ x3 H3.out).mono ?_); rintro e w' ⟨rfl, rfl⟩))
              all_goals
                go_ret
                refine ⟨of_iff HX.out ?_, hb⟩
                have h1 := H1.out; have h2 := H2.out; have h3 := H3.out
                clear HX H1 H2 H3 hb
                simp only [AuOk, Amt]
                rw [← h1]
                simp only [In] at *
                simp_all <;> omega
            · by_cases k7 : kind < 1
              · skip
                go_enter Try.func73, Try.ntmps73
                go_wp2_with (first | ((with_reducible refine (ramt_any ticks 1 _ x1 H1.out).mono ?_); rintro e w' ⟨rfl, rfl⟩) | ((with_reducible refine (ramt_any every 1 _ x2 H2.out).mono ?_); rintro e w' ⟨rfl, rfl⟩) | ((with_reducible refine (ramt_any amount 0 _ x3 H3.out).mono ?_); rintro e w' ⟨rfl, rfl⟩))
                all_goals
                  go_ret
                  refine ⟨of_iff HX.out ?_, hb⟩
                  have h1 := H1.out; have h2 := H2.out; have h3 := H3.out
                  clear HX H1 H2 H3 hb
                  simp only [AuOk, Amt]
                  rw [← h1]
                  simp only [In] at *
                  simp_all <;> omega
              · skip
                have k8 : decide (kind < 1) = false := by simpa using k7
                have k9 : 6 < kind := by omega
                go_enter Try.func73, Try.ntmps73
                go_wp2_with (first | ((with_reducible refine (ramt_any ticks 1 _ x1 H1.out).mono ?_); rintro e w' ⟨rfl, rfl⟩) | ((with_reducible refine (ramt_any every 1 _ x2 H2.out).mono ?_); rintro e w' ⟨rfl, rfl⟩) | ((with_reducible refine (ramt_any amount 0 _ x3 H3.out).mono ?_); rintro e w' ⟨rfl, rfl⟩))
                all_goals
                  go_ret
                  refine ⟨of_iff HX.out ?_, hb⟩
                  have h1 := H1.out; have h2 := H2.out; have h3 := H3.out
                  clear HX H1 H2 H3 hb
                  simp only [AuOk, Amt]
                  rw [← h1]
                  simp only [In] at *
                  simp_all <;> omega

theorem of_fd {c : Cn} (v : Int) : ∃ (a : Ab) (x : Bool), FD Ab.id zAb c.ab v a x ∧ (x = true ↔ HasAb c v) := by
  obtain ⟨a, x, h⟩ := fd_ex Ab.id zAb c.ab v
  exact ⟨a, x, h, fd_has h⟩
theorem of_fdu {c : Cn} (v : Int) : ∃ (a : Au) (x : Bool), FD Au.id zAu c.au v a x ∧ (x = true ↔ HasAu c v) := by
  obtain ⟨a, x, h⟩ := fd_ex Au.id zAu c.au v
  exact ⟨a, x, h, fd_has h⟩
set_option maxRecDepth 20000 in
set_option maxHeartbeats 32000000 in
theorem rline1 {w : World} {B : Nat} {c : Cn} (hr : RC w B c) (hB : B ≤ w.heap.size) (hs : Sm c) (l : Ln) (x : Bool) (hx : x = true ↔ LnOk c l) : Calls Try.prog 89 #[cnv c, lnv l] w fun e w' => e = .returned (.bool x) ∧ Below w.heap.size w w' := by
  obtain ⟨phase, whn, arg, dos, value⟩ := l
  obtain ⟨x1, h1⟩ := bex (In arg 1 1000000)
  obtain ⟨x2, h2⟩ := bex (In value 0 1000000)
  obtain ⟨a4, x4, hfd, h4⟩ := of_fd (c := c) value
  have hX : x = true ↔ (In phase 1 100 ∧ ((whn = 1 ∧ In arg 1 100) ∨ ((whn = 2 ∨ whn = 3) ∧ In arg 1 1000000)) ∧ ((dos = 1 ∧ In value 1 100) ∨ (dos = 2 ∧ In value 0 1000000 ∧ x4 = true) ∨ ((dos = 3 ∨ dos = 4) ∧ In value 0 1000000))) := by
    rw [hx]; unfold LnOk WhOk DoOk Amt In; rw [h4]
  have hb : Below w.heap.size w ((w.alloc (oCn c)).alloc (.cells #[.int .i64 phase, .int .i64 whn, .int .i64 arg, .int .i64 dos, .int .i64 value] 117)) := by go_grown
  have HC := Lib.hid (rability_any (w := (w.alloc (oCn c)).alloc (.cells #[.int .i64 phase, .int .i64 whn, .int .i64 arg, .int .i64 dos, .int .i64 value] 117)) (hr.below hb hB) (Nat.le_trans hB hb.size) hs value a4 x4 hfd)
  have HX := Lib.hid hX; have H1 := Lib.hid h1; have H2 := Lib.hid h2; have HB := Lib.hid hb; clear hx hX h1 h2 hfd h4 hr hs hb
  by_cases k1 : dos = 1
  · subst k1
    by_cases j1 : whn = 1
    · subst j1
      go_enter Try.func89, Try.ntmps89
      go_wp2_with (first | ((with_reducible refine (ramt_any arg 1 _ x1 H1.out).mono ?_); rintro e w' ⟨rfl, rfl⟩) | ((with_reducible refine (ramt_any value 0 _ x2 H2.out).mono ?_); rintro e w' ⟨rfl, rfl⟩) | ((with_reducible refine HC.out.mono ?_); rintro e w' ⟨A', c', rfl, HO, hBn⟩; have hbn := HB.out.trans (hBn.mono HB.out.size); have hbz := hbn.size))
      all_goals
        go_ret
        refine ⟨of_iff HX.out ?_, by have hb9 := HB.out; first | exact hb9 | go_grown⟩
        have h1 := H1.out; have h2 := H2.out
        clear HX H1 H2 HB
        rw [← h1, ← h2]
        simp only [In] at *
        simp_all <;> omega
    · skip
      go_enter Try.func89, Try.ntmps89
      go_wp2_with (first | ((with_reducible refine (ramt_any arg 1 _ x1 H1.out).mono ?_); rintro e w' ⟨rfl, rfl⟩) | ((with_reducible refine (ramt_any value 0 _ x2 H2.out).mono ?_); rintro e w' ⟨rfl, rfl⟩) | ((with_reducible refine HC.out.mono ?_); rintro e w' ⟨A', c', rfl, HO, hBn⟩; have hbn := HB.out.trans (hBn.mono HB.out.size); have hbz := hbn.size))
      all_goals
        go_ret
        refine ⟨of_iff HX.out ?_, by have hb9 := HB.out; first | exact hb9 | go_grown⟩
        have h1 := H1.out; have h2 := H2.out
        clear HX H1 H2 HB
        rw [← h1, ← h2]
        simp only [In] at *
        simp_all <;> omega
  · skip
    by_cases k2 : dos = 2
    · subst k2
      by_cases j1 : whn = 1
      · subst j1
        go_enter Try.func89, Try.ntmps89
        go_wp2_with (first | ((with_reducible refine (ramt_any arg 1 _ x1 H1.out).mono ?_); rintro e w' ⟨rfl, rfl⟩) | ((with_reducible refine (ramt_any value 0 _ x2 H2.out).mono ?_); rintro e w' ⟨rfl, rfl⟩) | ((with_reducible refine HC.out.mono ?_); rintro e w' ⟨A', c', rfl, HO, hBn⟩; have hbn := HB.out.trans (hBn.mono HB.out.size); have hbz := hbn.size))
        all_goals
          go_ret
          refine ⟨of_iff HX.out ?_, by have hb9 := HB.out; first | exact hb9 | go_grown⟩
          have h1 := H1.out; have h2 := H2.out
          clear HX H1 H2 HB
          rw [← h1, ← h2]
          simp only [In] at *
          simp_all <;> omega
      · skip
        go_enter Try.func89, Try.ntmps89
        go_wp2_with (first | ((with_reducible refine (ramt_any arg 1 _ x1 H1.out).mono ?_); rintro e w' ⟨rfl, rfl⟩) | ((with_reducible refine (ramt_any value 0 _ x2 H2.out).mono ?_); rintro e w' ⟨rfl, rfl⟩) | ((with_reducible refine HC.out.mono ?_); rintro e w' ⟨A', c', rfl, HO, hBn⟩; have hbn := HB.out.trans (hBn.mono HB.out.size); have hbz := hbn.size))
        all_goals
          go_ret
          refine ⟨of_iff HX.out ?_, by have hb9 := HB.out; first | exact hb9 | go_grown⟩
          have h1 := H1.out; have h2 := H2.out
          clear HX H1 H2 HB
          rw [← h1, ← h2]
          simp only [In] at *
          simp_all <;> omega
    · skip
      by_cases k3 : dos = 3
      · subst k3
        by_cases j1 : whn = 1
        · subst j1
          go_enter Try.func89, Try.ntmps89
          go_wp2_with (first | ((with_reducible refine (ramt_any arg 1 _ x1 H1.out).mono ?_); rintro e w' ⟨rfl, rfl⟩) | ((with_reducible refine (ramt_any value 0 _ x2 H2.out).mono ?_); rintro e w' ⟨rfl, rfl⟩) | ((with_reducible refine HC.out.mono ?_); rintro e w' ⟨A', c', rfl, HO, hBn⟩; have hbn := HB.out.trans (hBn.mono HB.out.size); have hbz := hbn.size))
          all_goals
            go_ret
            refine ⟨of_iff HX.out ?_, by have hb9 := HB.out; first | exact hb9 | go_grown⟩
            have h1 := H1.out; have h2 := H2.out
            clear HX H1 H2 HB
            rw [← h1, ← h2]
            simp only [In] at *
            simp_all <;> omega
        · skip
          go_enter Try.func89, Try.ntmps89
          go_wp2_with (first | ((with_reducible refine (ramt_any arg 1 _ x1 H1.out).mono ?_); rintro e w' ⟨rfl, rfl⟩) | ((with_reducible refine (ramt_any value 0 _ x2 H2.out).mono ?_); rintro e w' ⟨rfl, rfl⟩) | ((with_reducible refine HC.out.mono ?_); rintro e w' ⟨A', c', rfl, HO, hBn⟩; have hbn := HB.out.trans (hBn.mono HB.out.size); have hbz := hbn.size))
          all_goals
            go_ret
            refine ⟨of_iff HX.out ?_, by have hb9 := HB.out; first | exact hb9 | go_grown⟩
            have h1 := H1.out; have h2 := H2.out
            clear HX H1 H2 HB
            rw [← h1, ← h2]
            simp only [In] at *
            simp_all <;> omega
      · skip
        by_cases k4 : dos = 4
        · subst k4
          by_cases j1 : whn = 1
          · subst j1
            go_enter Try.func89, Try.ntmps89
            go_wp2_with (first | ((with_reducible refine (ramt_any arg 1 _ x1 H1.out).mono ?_); rintro e w' ⟨rfl, rfl⟩) | ((with_reducible refine (ramt_any value 0 _ x2 H2.out).mono ?_); rintro e w' ⟨rfl, rfl⟩) | ((with_reducible refine HC.out.mono ?_); rintro e w' ⟨A', c', rfl, HO, hBn⟩; have hbn := HB.out.trans (hBn.mono HB.out.size); have hbz := hbn.size))
            all_goals
              go_ret
              refine ⟨of_iff HX.out ?_, by have hb9 := HB.out; first | exact hb9 | go_grown⟩
              have h1 := H1.out; have h2 := H2.out
              clear HX H1 H2 HB
              rw [← h1, ← h2]
              simp only [In] at *
              simp_all <;> omega
          · skip
            go_enter Try.func89, Try.ntmps89
            go_wp2_with (first | ((with_reducible refine (ramt_any arg 1 _ x1 H1.out).mono ?_); rintro e w' ⟨rfl, rfl⟩) | ((with_reducible refine (ramt_any value 0 _ x2 H2.out).mono ?_); rintro e w' ⟨rfl, rfl⟩) | ((with_reducible refine HC.out.mono ?_); rintro e w' ⟨A', c', rfl, HO, hBn⟩; have hbn := HB.out.trans (hBn.mono HB.out.size); have hbz := hbn.size))
            all_goals
              go_ret
              refine ⟨of_iff HX.out ?_, by have hb9 := HB.out; first | exact hb9 | go_grown⟩
              have h1 := H1.out; have h2 := H2.out
              clear HX H1 H2 HB
              rw [← h1, ← h2]
              simp only [In] at *
              simp_all <;> omega
        · skip
          by_cases k7 : dos < 1
          · skip
            go_enter Try.func89, Try.ntmps89
            go_wp2_with (first | ((with_reducible refine (ramt_any arg 1 _ x1 H1.out).mono ?_); rintro e w' ⟨rfl, rfl⟩) | ((with_reducible refine (ramt_any value 0 _ x2 H2.out).mono ?_); rintro e w' ⟨rfl, rfl⟩) | ((with_reducible refine HC.out.mono ?_); rintro e w' ⟨A', c', rfl, HO, hBn⟩; have hbn := HB.out.trans (hBn.mono HB.out.size); have hbz := hbn.size))
            all_goals
              go_ret
              refine ⟨of_iff HX.out ?_, by have hb9 := HB.out; first | exact hb9 | go_grown⟩
              have h1 := H1.out; have h2 := H2.out
              clear HX H1 H2 HB
              rw [← h1, ← h2]
              simp only [In] at *
              simp_all <;> omega
          · skip
            have k8 : decide (dos < 1) = false := by simpa using k7
            have k9 : 4 < dos := by omega
            go_enter Try.func89, Try.ntmps89
            go_wp2_with (first | ((with_reducible refine (ramt_any arg 1 _ x1 H1.out).mono ?_); rintro e w' ⟨rfl, rfl⟩) | ((with_reducible refine (ramt_any value 0 _ x2 H2.out).mono ?_); rintro e w' ⟨rfl, rfl⟩) | ((with_reducible refine HC.out.mono ?_); rintro e w' ⟨A', c', rfl, HO, hBn⟩; have hbn := HB.out.trans (hBn.mono HB.out.size); have hbz := hbn.size))
            all_goals
              go_ret
              refine ⟨of_iff HX.out ?_, by have hb9 := HB.out; first | exact hb9 | go_grown⟩
              have h1 := H1.out; have h2 := H2.out
              clear HX H1 H2 HB
              rw [← h1, ← h2]
              simp only [In] at *
              simp_all <;> omega
end Go.Proofs.Ytijobbdgiaiocaa.Con
