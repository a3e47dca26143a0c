/-
  TimerFills holds for every three numbers: at most MaxTimers timers, numbers never used twice, what was cancelled does not come.
-/
import Derived.Test.YtibiobcjnnoeeaaPq
import Derived.Test.YtibiobcjnnoeeaaSrt
import Derived.Test.YtibiobcjnnoeeaaOpen
import Derived.WalkKit
import Derived.ProofKit
import Derived.OpenShut
namespace Go.Proofs.Ytibiobcjnnoeeaa.timerFills
open Go.ChangeShapes Go.WideShapes Go.ChangeAt Go.RowKit Con Tmr
set_option linter.unusedVariables false

theorem own : ownKnob Try.prog.godebug = none := by kernel_rfl

theorem one_any (w : World) (x : Bool) : Calls Try.prog 15 #[.bool x] w fun e w' => e = .returned (.int .i64 (if x then 1 else 0)) ∧ w = w' := by
  cases x
  · go_enter Try.func15, Try.ntmps15
    go_wp2
    go_ret
    exact ⟨rfl, rfl⟩
  · go_enter Try.func15, Try.ntmps15
    go_wp2
    go_ret
    exact ⟨rfl, rfl⟩
theorem one_yes (w : World) : Calls Try.prog 15 #[.bool true] w fun e w' => e = .returned (.int .i64 1) ∧ w = w' := one_any w true
theorem one_no (w : World) : Calls Try.prog 15 #[.bool false] w fun e w' => e = .returned (.int .i64 0) ∧ w = w' := one_any w false
theorem bits7 (x : Int) : ∃ y, bits BinOp.and IntKind.i64 x 7 = y := ⟨_, rfl⟩
/-- What the law holds ahead of its Cancel. -/
structure Pre (W w : World) (q mb : Nat) (S : List Tm) (last due : Int) : Prop where
  pq : PQ W w q mb S last
  full : Full S last due

set_option maxHeartbeats 16000000 in
set_option maxRecDepth 20000 in
theorem walk (W : World) (n : Int) (hn : -9223372036854775808 ≤ n ∧ n ≤ 9223372036854775807) (due : Int) (hdue : -9223372036854775808 ≤ due ∧ due ≤ 9223372036854775807) (drop : Int) (hdrop : -9223372036854775808 ≤ drop ∧ drop ≤ 9223372036854775807) :
    Calls Try.prog 5 #[.int .i64 n, .int .i64 due, .int .i64 drop] W fun e W' => e = .returned (.bool true) ∧ Below W.heap.size W W' := by
  by_cases hn0 : n < 0
  · go_enter Try.func5, Try.ntmps5
    go_wp2_with (first
      | ((with_reducible refine (small_any W).mono ?_); rintro e w1 ⟨rfl, hb1⟩; have HB1 := Lib.hid hb1; clear hb1)
      | ((with_reducible refine (pq_new HB1.out).mono ?_); rintro e w2 ⟨rfl, HP2⟩))
    go_ret
    exact ⟨rfl, HP2.out.below⟩
  · by_cases hn1 : 1024 < n
    · have hd0 : decide (n < 0) = false := by simpa using hn0
      have hd1 : decide (n > 1024) = true := by simpa using hn1
      go_enter Try.func5, Try.ntmps5
      go_wp2_with (first
        | ((with_reducible refine (small_any W).mono ?_); rintro e w1 ⟨rfl, hb1⟩; have HB1 := Lib.hid hb1; clear hb1)
        | ((with_reducible refine (pq_new HB1.out).mono ?_); rintro e w2 ⟨rfl, HP2⟩))
      go_ret
      exact ⟨rfl, HP2.out.below⟩
    · obtain ⟨N, rfl⟩ : ∃ N : Nat, n = (N : Int) := ⟨n.toNat, by omega⟩
      have hd0 : decide ((N : Int) < 0) = false := by simp
      have hd1 : decide ((N : Int) > 1024) = false := by simp; omega
      have HNb : Hid ((N : Int) ≤ 1024) := Lib.hid (by omega)
      have hNb : (N : Int) ≤ 3000 := by omega
      clear hn0 hn1 hn
      go_enter Try.func5, Try.ntmps5
      go_wp2_with (first
        | ((with_reducible refine (small_any W).mono ?_); rintro e w1 ⟨rfl, hb1⟩; have HB1 := Lib.hid hb1; clear hb1)
        | ((with_reducible refine (pq_new HB1.out).mono ?_); rintro e w2 ⟨rfl, HP2⟩))
      generalize w1.heap.size + 1 = q at HP2 ⊢
      generalize w1.heap.size = mb at HP2 ⊢
      go_loopg [9] N (fun m s9 wr => ∃ (k : Nat) (S : List Tm), k ≤ N ∧ m = N - k ∧ s9 = .int .i64 (k : Int) ∧ Hid (PQ W wr q mb S k) ∧ Hid (Full S k due))
      case atStart => exact ⟨0, [], by omega, rfl, rfl, HP2, Lib.hid (Full.nil due)⟩
      case round =>
        obtain ⟨k, S, hk, rfl, rfl, HP, HF⟩ := hrel
        have hk3 : (k : Int) ≤ 3000 := by omega
        by_cases hkn : k < N
        · have hkn' : (k : Int) < N := by omega
          have HSl : Hid ((S.length : Int) < 1024) := Lib.hid (by have := HF.out.1; have := HNb.out; omega)
          obtain ⟨tag, htag⟩ := bits7 (k : Int)
          go_wp2_with ((with_reducible refine (pq_add HP.out HSl.out due tag ((k : Int) + 1) rfl (by omega) _ rfl).mono ?_); rintro e w3 ⟨rfl, HP3⟩)
          go_roundg (N - (k + 1))
          · exact ⟨k + 1, _, by omega, rfl, by simp, HP3, Lib.hid (HF.out.add (by omega) tag _ rfl)⟩
          · omega
        · have hkN : k = N := by omega
          subst hkN
          have hkk : decide ((k : Int) < k) = false := by simp
          have hwr := HP.out.below
          have HPre : Hid (Pre W wr q mb S k due) := Lib.hid ⟨HP.out, HF.out⟩
          clear hkn hwr
          by_cases hfull : (k : Int) = 1024
          · have hfe : ((k : Int) == 1024) = true := by simpa using hfull
            have HSl : Hid (S.length = 1024) := Lib.hid (by have := HF.out.1; omega)
            have HSk : Hid (S.length = k) := Lib.hid (by have := HF.out.1; omega)
            have HFu := Lib.hid hfull
            clear hfull hd0 hd1
            obtain ⟨L, hL⟩ : ∃ L : Nat, k = L := ⟨_, rfl⟩
            subst hL
            go_wp2_with (first
                            | ((with_reducible refine (pq_full HP.out HSl.out due 8).mono ?_); rintro e w4 ⟨rfl, rfl⟩)
                            | ((with_reducible refine (pq_len HP.out k HSk.out).mono ?_); rintro e w5 ⟨rfl, rfl⟩))
            have HPx := HP; have HFx := HF
            obtain ⟨SS, hSS⟩ : ∃ SS, SS = S := ⟨_, rfl⟩
            rw [← hSS] at HPx HFx
            by_cases hx : 1 ≤ drop ∧ drop ≤ (k : Int)
            · have hg1 : decide (drop ≥ 1) = true := by simpa using hx.1
              have hg2 : decide (drop ≤ (k : Int)) = true := by simpa using hx.2
              obtain ⟨p, hp⟩ : ∃ p : Nat, p + 1 = k := ⟨k - 1, by omega⟩
              have hp1 : (k : Int) - 1 = (p : Int) := by omega
              have HX : Hid (hasId SS drop = true) := Lib.hid (by rw [HFx.out.2.1]; simp; exact hx)
              have HDl : Hid ((del SS drop).length = p) := Lib.hid (by have := full_del HFx.out HPx.out.good true HX.out; simp at this; omega)
              obtain ⟨k1, k2, k3⟩ := full_come (drop := drop) HFx.out HPx.out.good
              obtain ⟨C, hC⟩ : ∃ C, come (del SS drop) due = C := ⟨_, rfl⟩
              rw [hC] at k2 k3
              have HC := Lib.hid hC; have HK1 := Lib.hid k1; have HK2 := Lib.hid k2; have HCl : Hid (C.length = p) := Lib.hid (k3.trans HDl.out)
              clear hC k1 k2 k3
              have hcl : (C.length : Int) ≤ 4000 := by rw [HCl.out]; omega
              go_wp2_with (first
                              | ((with_reducible refine (pq_cancel HPx.out drop hdrop true HX.out _ rfl).mono ?_); rintro e w6 ⟨rfl, HP6⟩)
                              | ((with_reducible refine (pq_len HP6.out p HDl.out).mono ?_); rintro e w7 ⟨rfl, rfl⟩)
                              | ((with_reducible refine (pq_due HP6.out due C [] HC.out HK1.out).mono ?_); rintro e w8 ⟨Ac, cc, rfl, HR8, HP8⟩))
              go_loopg [19] C.length (fun m s19 wq => ∃ j : Nat, j ≤ C.length ∧ m = C.length - j ∧ s19 = .int .i64 (j : Int) ∧ w8 = wq)
              case atStart => exact ⟨0, by omega, rfl, rfl, rfl⟩
              case round =>
                obtain ⟨j, hj, rfl, rfl, rfl⟩ := hrel
                by_cases hjl : j < C.length
                · have hjl' : (j : Int) < C.length := by omega
                  obtain ⟨b, hA, hbl, e1, e2, e3⟩ := HR8.out.at' hjl
                  have hne := HK2.out _ (g_mem hjl)
                  have hne2 : ((g C j).id == drop) = false := by simpa using hne
                  subst hA
                  clear hne
                  go_wp2
                  go_roundg (C.length - (j + 1))
                  · exact ⟨j + 1, by omega, rfl, by simp, rfl⟩
                  · omega
                · have hjl' : decide ((j : Int) < C.length) = false := by simp; omega
                  have hce : ((C.length : Int) == (p : Int)) = true := by rw [HCl.out]; simp
                  go_wp2_with (first
                                  | ((with_reducible refine (pq_add HP8.out (by decide) due 0 ((k : Int) + 1) rfl (by omega) _ rfl).mono ?_); rintro e w10 ⟨rfl, HP10⟩)
                                  | ((with_reducible refine (one_yes _).mono ?_); rintro e w9 ⟨rfl, rfl⟩)
                                  | ((with_reducible refine (pq_len HP10.out 1 rfl).mono ?_); rintro e w11 ⟨rfl, rfl⟩))
                  go_ret
                  exact ⟨rfl, HP10.out.below⟩
            · by_cases hlo : drop < 1
              · have hg1 : decide (drop ≥ 1) = false := by simp; omega
                obtain ⟨p, hp⟩ : ∃ p : Nat, p = k := ⟨_, rfl⟩
                have HX : Hid (hasId SS drop = false) := Lib.hid (by rw [HFx.out.2.1]; exact decide_eq_false (by omega))
                have HDl : Hid ((del SS drop).length = p) := Lib.hid (by have := full_del HFx.out HPx.out.good false HX.out; simp at this; omega)
                obtain ⟨k1, k2, k3⟩ := full_come (drop := drop) HFx.out HPx.out.good
                obtain ⟨C, hC⟩ : ∃ C, come (del SS drop) due = C := ⟨_, rfl⟩
                rw [hC] at k2 k3
                have HC := Lib.hid hC; have HK1 := Lib.hid k1; have HK2 := Lib.hid k2; have HCl : Hid (C.length = p) := Lib.hid (k3.trans HDl.out)
                clear hC k1 k2 k3
                have hcl : (C.length : Int) ≤ 4000 := by rw [HCl.out]; omega
                go_wp2_with (first
                                | ((with_reducible refine (pq_cancel HPx.out drop hdrop false HX.out _ rfl).mono ?_); rintro e w6 ⟨rfl, HP6⟩)
                                | ((with_reducible refine (pq_len HP6.out k (by rw [HDl.out, hp])).mono ?_); rintro e w7 ⟨rfl, rfl⟩)
                                | ((with_reducible refine (pq_due HP6.out due C [] HC.out HK1.out).mono ?_); rintro e w8 ⟨Ac, cc, rfl, HR8, HP8⟩))
                go_loopg [19] C.length (fun m s19 wq => ∃ j : Nat, j ≤ C.length ∧ m = C.length - j ∧ s19 = .int .i64 (j : Int) ∧ w8 = wq)
                case atStart => exact ⟨0, by omega, rfl, rfl, rfl⟩
                case round =>
                  obtain ⟨j, hj, rfl, rfl, rfl⟩ := hrel
                  by_cases hjl : j < C.length
                  · have hjl' : (j : Int) < C.length := by omega
                    obtain ⟨b, hA, hbl, e1, e2, e3⟩ := HR8.out.at' hjl
                    have hne := HK2.out _ (g_mem hjl)
                    have hne2 : ((g C j).id == drop) = false := by simpa using hne
                    subst hA
                    clear hne
                    go_wp2
                    go_roundg (C.length - (j + 1))
                    · exact ⟨j + 1, by omega, rfl, by simp, rfl⟩
                    · omega
                  · have hjl' : decide ((j : Int) < C.length) = false := by simp; omega
                    have hce : ((C.length : Int) == (k : Int)) = true := by rw [HCl.out, hp]; simp
                    go_wp2_with (first
                                    | ((with_reducible refine (pq_add HP8.out (by decide) due 0 ((k : Int) + 1) rfl (by omega) _ rfl).mono ?_); rintro e w10 ⟨rfl, HP10⟩)
                                    | ((with_reducible refine (one_no _).mono ?_); rintro e w9 ⟨rfl, rfl⟩)
                                    | ((with_reducible refine (pq_len HP10.out 1 rfl).mono ?_); rintro e w11 ⟨rfl, rfl⟩))
                    go_ret
                    exact ⟨rfl, HP10.out.below⟩
              · have hg1 : decide (drop ≥ 1) = true := by simp; omega
                have hg2 : decide (drop ≤ (k : Int)) = false := by simp; omega
                obtain ⟨p, hp⟩ : ∃ p : Nat, p = k := ⟨_, rfl⟩
                have HX : Hid (hasId SS drop = false) := Lib.hid (by rw [HFx.out.2.1]; exact decide_eq_false (by omega))
                have HDl : Hid ((del SS drop).length = p) := Lib.hid (by have := full_del HFx.out HPx.out.good false HX.out; simp at this; omega)
                obtain ⟨k1, k2, k3⟩ := full_come (drop := drop) HFx.out HPx.out.good
                obtain ⟨C, hC⟩ : ∃ C, come (del SS drop) due = C := ⟨_, rfl⟩
                rw [hC] at k2 k3
                have HC := Lib.hid hC; have HK1 := Lib.hid k1; have HK2 := Lib.hid k2; have HCl : Hid (C.length = p) := Lib.hid (k3.trans HDl.out)
                clear hC k1 k2 k3
                have hcl : (C.length : Int) ≤ 4000 := by rw [HCl.out]; omega
                go_wp2_with (first
                                | ((with_reducible refine (pq_cancel HPx.out drop hdrop false HX.out _ rfl).mono ?_); rintro e w6 ⟨rfl, HP6⟩)
                                | ((with_reducible refine (pq_len HP6.out k (by rw [HDl.out, hp])).mono ?_); rintro e w7 ⟨rfl, rfl⟩)
                                | ((with_reducible refine (pq_due HP6.out due C [] HC.out HK1.out).mono ?_); rintro e w8 ⟨Ac, cc, rfl, HR8, HP8⟩))
                go_loopg [19] C.length (fun m s19 wq => ∃ j : Nat, j ≤ C.length ∧ m = C.length - j ∧ s19 = .int .i64 (j : Int) ∧ w8 = wq)
                case atStart => exact ⟨0, by omega, rfl, rfl, rfl⟩
                case round =>
                  obtain ⟨j, hj, rfl, rfl, rfl⟩ := hrel
                  by_cases hjl : j < C.length
                  · have hjl' : (j : Int) < C.length := by omega
                    obtain ⟨b, hA, hbl, e1, e2, e3⟩ := HR8.out.at' hjl
                    have hne := HK2.out _ (g_mem hjl)
                    have hne2 : ((g C j).id == drop) = false := by simpa using hne
                    subst hA
                    clear hne
                    go_wp2
                    go_roundg (C.length - (j + 1))
                    · exact ⟨j + 1, by omega, rfl, by simp, rfl⟩
                    · omega
                  · have hjl' : decide ((j : Int) < C.length) = false := by simp; omega
                    have hce : ((C.length : Int) == (k : Int)) = true := by rw [HCl.out, hp]; simp
                    go_wp2_with (first
                                    | ((with_reducible refine (pq_add HP8.out (by decide) due 0 ((k : Int) + 1) rfl (by omega) _ rfl).mono ?_); rintro e w10 ⟨rfl, HP10⟩)
                                    | ((with_reducible refine (one_no _).mono ?_); rintro e w9 ⟨rfl, rfl⟩)
                                    | ((with_reducible refine (pq_len HP10.out 1 rfl).mono ?_); rintro e w11 ⟨rfl, rfl⟩))
                    go_ret
                    exact ⟨rfl, HP10.out.below⟩
          · have hfe : ((k : Int) == 1024) = false := by simpa using hfull
            have HSl : Hid ((S.length : Int) < 1024) := Lib.hid (by have := HF.out.1; have := HNb.out; omega)
            clear hfull hd0 hd1
            obtain ⟨L, hL⟩ : ∃ L : Nat, k + 1 = L := ⟨_, rfl⟩
            have hL1 : (k : Int) + 1 = (L : Int) := by omega
            have HF4 := Lib.hid (HF.out.add (by omega) 8 (L : Int) hL1)
            have HL4 : Hid ((S ++ [(⟨due, 8, (L : Int)⟩ : Tm)]).length = L) := Lib.hid (by have := HF4.out.1; omega)
            go_wp2_with (first
                            | ((with_reducible refine (pq_add HP.out HSl.out due 8 (L : Int) hL1 (by omega) _ rfl).mono ?_); rintro e w4 ⟨rfl, HP4⟩)
                            | ((with_reducible refine (pq_len HP4.out L HL4.out).mono ?_); rintro e w5 ⟨rfl, rfl⟩))
            have HPx := HP4; have HFx := HF4
            generalize S ++ [(⟨due, 8, (L : Int)⟩ : Tm)] = SS at HPx HFx
            by_cases hx : 1 ≤ drop ∧ drop ≤ (L : Int)
            · have hg1 : decide (drop ≥ 1) = true := by simpa using hx.1
              have hg2 : decide (drop ≤ (L : Int)) = true := by simpa using hx.2
              obtain ⟨p, hp⟩ : ∃ p : Nat, p + 1 = L := ⟨L - 1, by omega⟩
              have hp1 : (L : Int) - 1 = (p : Int) := by omega
              have HX : Hid (hasId SS drop = true) := Lib.hid (by rw [HFx.out.2.1]; simp; exact hx)
              have HDl : Hid ((del SS drop).length = p) := Lib.hid (by have := full_del HFx.out HPx.out.good true HX.out; simp at this; omega)
              obtain ⟨k1, k2, k3⟩ := full_come (drop := drop) HFx.out HPx.out.good
              obtain ⟨C, hC⟩ : ∃ C, come (del SS drop) due = C := ⟨_, rfl⟩
              rw [hC] at k2 k3
              have HC := Lib.hid hC; have HK1 := Lib.hid k1; have HK2 := Lib.hid k2; have HCl : Hid (C.length = p) := Lib.hid (k3.trans HDl.out)
              clear hC k1 k2 k3
              have hcl : (C.length : Int) ≤ 4000 := by rw [HCl.out]; omega
              go_wp2_with (first
                              | ((with_reducible refine (pq_cancel HPx.out drop hdrop true HX.out _ rfl).mono ?_); rintro e w6 ⟨rfl, HP6⟩)
                              | ((with_reducible refine (pq_len HP6.out p HDl.out).mono ?_); rintro e w7 ⟨rfl, rfl⟩)
                              | ((with_reducible refine (pq_due HP6.out due C [] HC.out HK1.out).mono ?_); rintro e w8 ⟨Ac, cc, rfl, HR8, HP8⟩))
              go_loopg [19] C.length (fun m s19 wq => ∃ j : Nat, j ≤ C.length ∧ m = C.length - j ∧ s19 = .int .i64 (j : Int) ∧ w8 = wq)
              case atStart => exact ⟨0, by omega, rfl, rfl, rfl⟩
              case round =>
                obtain ⟨j, hj, rfl, rfl, rfl⟩ := hrel
                by_cases hjl : j < C.length
                · have hjl' : (j : Int) < C.length := by omega
                  obtain ⟨b, hA, hbl, e1, e2, e3⟩ := HR8.out.at' hjl
                  have hne := HK2.out _ (g_mem hjl)
                  have hne2 : ((g C j).id == drop) = false := by simpa using hne
                  subst hA
                  clear hne
                  go_wp2
                  go_roundg (C.length - (j + 1))
                  · exact ⟨j + 1, by omega, rfl, by simp, rfl⟩
                  · omega
                · have hjl' : decide ((j : Int) < C.length) = false := by simp; omega
                  have hce : ((C.length : Int) == (p : Int)) = true := by rw [HCl.out]; simp
                  go_wp2_with (first
                                  | ((with_reducible refine (pq_add HP8.out (by decide) due 0 ((L : Int) + 1) rfl (by omega) _ rfl).mono ?_); rintro e w10 ⟨rfl, HP10⟩)
                                  | ((with_reducible refine (one_yes _).mono ?_); rintro e w9 ⟨rfl, rfl⟩)
                                  | ((with_reducible refine (pq_len HP10.out 1 rfl).mono ?_); rintro e w11 ⟨rfl, rfl⟩))
                  go_ret
                  exact ⟨rfl, HP10.out.below⟩
            · by_cases hlo : drop < 1
              · have hg1 : decide (drop ≥ 1) = false := by simp; omega
                obtain ⟨p, hp⟩ : ∃ p : Nat, p = L := ⟨_, rfl⟩
                have HX : Hid (hasId SS drop = false) := Lib.hid (by rw [HFx.out.2.1]; exact decide_eq_false (by omega))
                have HDl : Hid ((del SS drop).length = p) := Lib.hid (by have := full_del HFx.out HPx.out.good false HX.out; simp at this; omega)
                obtain ⟨k1, k2, k3⟩ := full_come (drop := drop) HFx.out HPx.out.good
                obtain ⟨C, hC⟩ : ∃ C, come (del SS drop) due = C := ⟨_, rfl⟩
                rw [hC] at k2 k3
                have HC := Lib.hid hC; have HK1 := Lib.hid k1; have HK2 := Lib.hid k2; have HCl : Hid (C.length = p) := Lib.hid (k3.trans HDl.out)
                clear hC k1 k2 k3
                have hcl : (C.length : Int) ≤ 4000 := by rw [HCl.out]; omega
                go_wp2_with (first
                                | ((with_reducible refine (pq_cancel HPx.out drop hdrop false HX.out _ rfl).mono ?_); rintro e w6 ⟨rfl, HP6⟩)
                                | ((with_reducible refine (pq_len HP6.out L (by rw [HDl.out, hp])).mono ?_); rintro e w7 ⟨rfl, rfl⟩)
                                | ((with_reducible refine (pq_due HP6.out due C [] HC.out HK1.out).mono ?_); rintro e w8 ⟨Ac, cc, rfl, HR8, HP8⟩))
                go_loopg [19] C.length (fun m s19 wq => ∃ j : Nat, j ≤ C.length ∧ m = C.length - j ∧ s19 = .int .i64 (j : Int) ∧ w8 = wq)
                case atStart => exact ⟨0, by omega, rfl, rfl, rfl⟩
                case round =>
                  obtain ⟨j, hj, rfl, rfl, rfl⟩ := hrel
                  by_cases hjl : j < C.length
                  · have hjl' : (j : Int) < C.length := by omega
                    obtain ⟨b, hA, hbl, e1, e2, e3⟩ := HR8.out.at' hjl
                    have hne := HK2.out _ (g_mem hjl)
                    have hne2 : ((g C j).id == drop) = false := by simpa using hne
                    subst hA
                    clear hne
                    go_wp2
                    go_roundg (C.length - (j + 1))
                    · exact ⟨j + 1, by omega, rfl, by simp, rfl⟩
                    · omega
                  · have hjl' : decide ((j : Int) < C.length) = false := by simp; omega
                    have hce : ((C.length : Int) == (L : Int)) = true := by rw [HCl.out, hp]; simp
                    go_wp2_with (first
                                    | ((with_reducible refine (pq_add HP8.out (by decide) due 0 ((L : Int) + 1) rfl (by omega) _ rfl).mono ?_); rintro e w10 ⟨rfl, HP10⟩)
                                    | ((with_reducible refine (one_no _).mono ?_); rintro e w9 ⟨rfl, rfl⟩)
                                    | ((with_reducible refine (pq_len HP10.out 1 rfl).mono ?_); rintro e w11 ⟨rfl, rfl⟩))
                    go_ret
                    exact ⟨rfl, HP10.out.below⟩
              · have hg1 : decide (drop ≥ 1) = true := by simp; omega
                have hg2 : decide (drop ≤ (L : Int)) = false := by simp; omega
                obtain ⟨p, hp⟩ : ∃ p : Nat, p = L := ⟨_, rfl⟩
                have HX : Hid (hasId SS drop = false) := Lib.hid (by rw [HFx.out.2.1]; exact decide_eq_false (by omega))
                have HDl : Hid ((del SS drop).length = p) := Lib.hid (by have := full_del HFx.out HPx.out.good false HX.out; simp at this; omega)
                obtain ⟨k1, k2, k3⟩ := full_come (drop := drop) HFx.out HPx.out.good
                obtain ⟨C, hC⟩ : ∃ C, come (del SS drop) due = C := ⟨_, rfl⟩
                rw [hC] at k2 k3
                have HC := Lib.hid hC; have HK1 := Lib.hid k1; have HK2 := Lib.hid k2; have HCl : Hid (C.length = p) := Lib.hid (k3.trans HDl.out)
                clear hC k1 k2 k3
                have hcl : (C.length : Int) ≤ 4000 := by rw [HCl.out]; omega
                go_wp2_with (first
                                | ((with_reducible refine (pq_cancel HPx.out drop hdrop false HX.out _ rfl).mono ?_); rintro e w6 ⟨rfl, HP6⟩)
                                | ((with_reducible refine (pq_len HP6.out L (by rw [HDl.out, hp])).mono ?_); rintro e w7 ⟨rfl, rfl⟩)
                                | ((with_reducible refine (pq_due HP6.out due C [] HC.out HK1.out).mono ?_); rintro e w8 ⟨Ac, cc, rfl, HR8, HP8⟩))
                go_loopg [19] C.length (fun m s19 wq => ∃ j : Nat, j ≤ C.length ∧ m = C.length - j ∧ s19 = .int .i64 (j : Int) ∧ w8 = wq)
                case atStart => exact ⟨0, by omega, rfl, rfl, rfl⟩
                case round =>
                  obtain ⟨j, hj, rfl, rfl, rfl⟩ := hrel
                  by_cases hjl : j < C.length
                  · have hjl' : (j : Int) < C.length := by omega
                    obtain ⟨b, hA, hbl, e1, e2, e3⟩ := HR8.out.at' hjl
                    have hne := HK2.out _ (g_mem hjl)
                    have hne2 : ((g C j).id == drop) = false := by simpa using hne
                    subst hA
                    clear hne
                    go_wp2
                    go_roundg (C.length - (j + 1))
                    · exact ⟨j + 1, by omega, rfl, by simp, rfl⟩
                    · omega
                  · have hjl' : decide ((j : Int) < C.length) = false := by simp; omega
                    have hce : ((C.length : Int) == (L : Int)) = true := by rw [HCl.out, hp]; simp
                    go_wp2_with (first
                                    | ((with_reducible refine (pq_add HP8.out (by decide) due 0 ((L : Int) + 1) rfl (by omega) _ rfl).mono ?_); rintro e w10 ⟨rfl, HP10⟩)
                                    | ((with_reducible refine (one_no _).mono ?_); rintro e w9 ⟨rfl, rfl⟩)
                                    | ((with_reducible refine (pq_len HP10.out 1 rfl).mono ?_); rintro e w11 ⟨rfl, rfl⟩))
                    go_ret
                    exact ⟨rfl, HP10.out.below⟩


set_option maxRecDepth 100000 in
theorem lifted (os : Os) (started : os.Started) (H : Type) (enc : TypeId × Value → H) :
    ReturnsInHanded {} Try.checked os 5 .any (Rows.timerFillsSpec.pre6 enc Try.prog Try.f5 Rows.timerFillsRow.domain false) (Rows.timerFillsSpec.post enc Try.prog Try.f5 false true false false) := by
  refine returnsInHanded_of_change (C := Try.checked) own started (by kernel_rfl) Try.func5
    (ChangeSpec.witness6 (enc := enc) (C := Try.checked) false ⟨#[], #[.int .i64 0, .int .i64 0, .int .i64 0], []⟩ 8 (by kernel_rfl) (by kernel_rfl) (by kernel_rfl) (by kernel_rfl)) ?_
  intro W base args ds gs before hval0 hW hcnd _
  have hval : ∀ (j : Nat) t v, Try.f5.params[j]? = some t → args[j]? = some v → Value.okWide Try.prog W .any base t v := hval0
  have hW' := hW
  obtain ⟨p, q, hA0, hV, rfl, hfz, hnd⟩ := hW
  have hA : DataW.TrodAll enc Try.prog W 0 (fun _ => true) true Try.f5.params.toList args.toList ds p := hA0
  rw [Try.params5] at hA hval
  obtain ⟨v0, vs0, d0, ds0, p0, q0, hargs, rfl, rfl, h0, r0⟩ := trodAll_cons hA
  obtain ⟨v1, vs1, d1, ds1, p1, q1, rfl, rfl, rfl, h1, r1⟩ := trodAll_cons r0
  obtain ⟨v2, vs2, d2, ds2, p2, q2, rfl, rfl, rfl, h2, r2⟩ := trodAll_cons r1
  obtain ⟨rfl, rfl, rfl⟩ := trodAll_nil r2
  obtain rfl : args = #[v0, v1, v2] := by cases args; simp_all
  obtain ⟨rfl, rfl⟩ := trodVars_none hV
  clear hA0 hval0
  obtain ⟨a0, rfl, rfl, rfl, w0⟩ := open_int Try.underlying3 (hval 0 3 v0 rfl rfl) h0
  obtain ⟨a1, rfl, rfl, rfl, w1⟩ := open_int Try.underlying3 (hval 1 3 v1 rfl rfl) h1
  obtain ⟨a2, rfl, rfl, rfl, w2⟩ := open_int Try.underlying3 (hval 2 3 v2 rfl rfl) h2
  simp only [List.append_nil] at hW'
  refine (walk W a0 (Open.fits_of w0) a1 (Open.fits_of w1) a2 (Open.fits_of w2)).mono fun e W' ⟨he, hg⟩ => ?_
  subst he
  exact ⟨_, rfl, _, _, _, [], _, [], hW', (trodAll_cons_mk (shut_bool Try.underlying4 _) trodAll_mk0), (trodAll_cons_mk (shut_int Try.underlying3 w0) (trodAll_cons_mk (shut_int Try.underlying3 w1) (trodAll_cons_mk (shut_int Try.underlying3 w2) trodAll_mk0))), rfl, hg.frame _, fun h => by cases h⟩

theorem over : Rows.timerFillsRow.holds Try.pinned (OpenSpec.ofChange Rows.timerFillsSpec) :=
  OpenClaim.holds_of_wide 5 Try.f5 rfl rfl rfl rfl rfl rfl rfl ⟨rfl, rfl, rfl, rfl, rfl⟩ rfl rfl rfl rfl rfl (by kernel_rfl) Try.func5 (by kernel_rfl)
    (of_decide_eq_true (by kernel_rfl)) (by unfold Func.isWrapper; first | (rw [if_pos (by decide +kernel)]; kernel_rfl) | (rw [if_neg (by decide +kernel)]; exact ⟨rfl, rfl⟩))
    (fun os started H enc _ => lifted os started H enc)

/-- The given statement. -/
theorem proved : Rows.TimerFillsSaid :=
  over
#print axioms proved
end Go.Proofs.Ytibiobcjnnoeeaa.timerFills
