/-
  GridAlike: for every two tiles and every number the law answers true (Square, Steps and Near are alike both ways, 0 just of one tile, and what is near is within as many steps); no condition.
-/
import Derived.Test.YtccfoeokadggaaaSma
import Derived.Test.YtccfoeokadggaaaOpen
import Derived.Test.YtccfoeokadggaaaAlk
import Derived.WalkKit
import Derived.ProofKit
import Derived.OpenShut
namespace Go.Proofs.Ytccfoeokadggaaa.gridAlike
open Go.ChangeShapes Go.WideShapes Go.ChangeAt Go.RowKit Con Wlk
set_option linter.unusedVariables false

theorem own : ownKnob Try.prog.godebug = none := by kernel_rfl

theorem cell_below {V V' : World} {b k : Nat} {v : Value} (h : V.cell? ⟨b, k, none⟩ = some v) (hb : Below V.heap.size V V') : V'.cell? ⟨b, k, none⟩ = some v :=
  (hb.cell (p := ⟨b, k, none⟩) (World.block_lt_of_cell? _ _ h)).trans h
theorem more {A B C : World} (h : Below A.heap.size A B) (k : Below B.heap.size B C) : Below A.heap.size A C := h.trans (k.mono h.size)
/-- Both tiles' cells. -/
theorem both {V V' : World} {s : Nat} {ax ay bx by' : Int} (h : V.cell? ⟨s, 0, none⟩ = some (.int .i64 ax) ∧ V.cell? ⟨s, 1, none⟩ = some (.int .i64 ay) ∧ V.cell? ⟨s + 1, 0, none⟩ = some (.int .i64 bx) ∧ V.cell? ⟨s + 1, 1, none⟩ = some (.int .i64 by')) (hb : Below V.heap.size V V') :
    V'.cell? ⟨s, 0, none⟩ = some (.int .i64 ax) ∧ V'.cell? ⟨s, 1, none⟩ = some (.int .i64 ay) ∧ V'.cell? ⟨s + 1, 0, none⟩ = some (.int .i64 bx) ∧ V'.cell? ⟨s + 1, 1, none⟩ = some (.int .i64 by') :=
  ⟨cell_below h.1 hb, cell_below h.2.1 hb, cell_below h.2.2.1 hb, cell_below h.2.2.2 hb⟩
theorem both0 (w : World) (ax ay bx by' : Int) : ∀ V, V = (w.alloc (.cells #[.int .i64 ax, .int .i64 ay] 23)).alloc (.cells #[.int .i64 bx, .int .i64 by'] 23) →
    V.cell? ⟨w.heap.size, 0, none⟩ = some (.int .i64 ax) ∧ V.cell? ⟨w.heap.size, 1, none⟩ = some (.int .i64 ay) ∧ V.cell? ⟨w.heap.size + 1, 0, none⟩ = some (.int .i64 bx) ∧ V.cell? ⟨w.heap.size + 1, 1, none⟩ = some (.int .i64 by') := by
  rintro V rfl
  have h1 : BoxP ((w.alloc (.cells #[.int .i64 ax, .int .i64 ay] 23)).alloc (.cells #[.int .i64 bx, .int .i64 by'] 23)) w.heap.size ax ay := old_at (new_at _ _ rfl)
  have h2 : BoxP ((w.alloc (.cells #[.int .i64 ax, .int .i64 ay] 23)).alloc (.cells #[.int .i64 bx, .int .i64 by'] 23)) (w.heap.size + 1) bx by' := new_at _ _ (by simp)
  exact ⟨h1.cell0, h1.cell1, h2.cell0, h2.cell1⟩

/-- The six calls' answers. -/
def Six (ax ay bx by' r s t : Int) (nb : Bool) : Prop :=
  (∀ w : World, Calls Try.prog 8 #[pv ax ay, pv bx by'] w fun e w' => e = .returned (.int .i64 s) ∧ Below w.heap.size w w') ∧
  (∀ w : World, Calls Try.prog 10 #[pv ax ay, pv bx by'] w fun e w' => e = .returned (.int .i64 t) ∧ Below w.heap.size w w') ∧
  (∀ w : World, Calls Try.prog 8 #[pv bx by', pv ax ay] w fun e w' => e = .returned (.int .i64 s) ∧ Below w.heap.size w w') ∧
  (∀ w : World, Calls Try.prog 10 #[pv bx by', pv ax ay] w fun e w' => e = .returned (.int .i64 t) ∧ Below w.heap.size w w') ∧
  (∀ w : World, Calls Try.prog 12 #[pv ax ay, pv bx by', .int .i64 r] w fun e w' => e = .returned (.bool nb) ∧ Below w.heap.size w w') ∧
  (∀ w : World, Calls Try.prog 12 #[pv bx by', pv ax ay, .int .i64 r] w fun e w' => e = .returned (.bool nb) ∧ Below w.heap.size w w')

set_option maxRecDepth 100000 in
set_option maxHeartbeats 4000000 in
theorem apart_x (W : World) (ax ay bx by' r s t : Int) (nb : Bool) (C : Hid (Six ax ay bx by' r s t nb)) (hs : 1 ≤ s) (ht : 1 ≤ t) (hxb : ax ≠ bx) (hneg : r < 0 → nb = false) (hle : 0 ≤ r → r ≤ 2147483648 → nb = true → t ≤ r) :
    Calls Try.prog 5 #[pv ax ay, pv bx by', .int .i64 r] W fun e w' => e = .returned (.bool true) ∧ Below W.heap.size W w' := by
  have hb := box2 W ax ay bx by'
  have hK := both0 W ax ay bx by' _ rfl
  have HK := Lib.hid hK; clear hK
  obtain ⟨q1, q2, q3, q4, q5, q6⟩ := C.out
  have Q1 := Lib.hid q1; have Q2 := Lib.hid q2; have Q3 := Lib.hid q3; have Q4 := Lib.hid q4; have Q5 := Lib.hid q5; have Q6 := Lib.hid q6
  clear q1 q2 q3 q4 q5 q6
  have hxb' : (ax == bx) = false := by simpa using hxb
  have t1 : decide (s < 0) = false := by simp; omega
  have t2 : decide (t < 0) = false := by simp; omega
  have t3 : (s == 0) = false := by simp; omega
  have t4 : (t == 0) = false := by simp; omega
  by_cases hr : r < 0
  · have e := hneg hr
    subst e
    go_enter Try.func5, Try.ntmps5
    go_wp2_with (first
      | ((with_reducible refine (small_any _).mono ?_); rintro e w1 ⟨rfl, hB1⟩; have K1 := both HK.out hB1; obtain ⟨k10, k11, k12, k13⟩ := K1; have K1' := Lib.hid (both HK.out hB1); have HB1 := Lib.hid (hb.trans (hB1.mono hb.size)); clear hB1)
      | ((with_reducible refine (Q1.out w1).mono ?_); rintro e w2 ⟨rfl, hB2⟩; obtain ⟨k20, k21, k22, k23⟩ := both K1'.out hB2; have K2' := Lib.hid (both K1'.out hB2); have HB2 := Lib.hid (HB1.out.trans (hB2.mono HB1.out.size)); clear hB2)
      | ((with_reducible refine (Q2.out w2).mono ?_); rintro e w3 ⟨rfl, hB3⟩; obtain ⟨k30, k31, k32, k33⟩ := both K2'.out hB3; have K3' := Lib.hid (both K2'.out hB3); have HB3 := Lib.hid (HB2.out.trans (hB3.mono HB2.out.size)); clear hB3)
      | ((with_reducible refine (Q3.out w3).mono ?_); rintro e w4 ⟨rfl, hB4⟩; obtain ⟨k40, k41, k42, k43⟩ := both K3'.out hB4; have K4' := Lib.hid (both K3'.out hB4); have HB4 := Lib.hid (HB3.out.trans (hB4.mono HB3.out.size)); clear hB4)
      | ((with_reducible refine (Q4.out w4).mono ?_); rintro e w5 ⟨rfl, hB5⟩; obtain ⟨k50, k51, k52, k53⟩ := both K4'.out hB5; have K5' := Lib.hid (both K4'.out hB5); have HB5 := Lib.hid (HB4.out.trans (hB5.mono HB4.out.size)); clear hB5)
      | ((with_reducible refine (Q5.out w5).mono ?_); rintro e w6 ⟨rfl, hB6⟩; obtain ⟨k60, k61, k62, k63⟩ := both K5'.out hB6; have K6' := Lib.hid (both K5'.out hB6); have HB6 := Lib.hid (HB5.out.trans (hB6.mono HB5.out.size)); clear hB6)
      | ((with_reducible refine (Q6.out w6).mono ?_); rintro e w7 ⟨rfl, hB7⟩; obtain ⟨k70, k71, k72, k73⟩ := both K6'.out hB7; have K7' := Lib.hid (both K6'.out hB7); have HB7 := Lib.hid (HB6.out.trans (hB7.mono HB6.out.size)); clear hB7))
    go_ret
    exact ⟨by simp, HB6.out⟩
  · have hr' : decide (r < 0) = false := by simpa using hr
    have hr2 : 0 ≤ r := by omega
    cases nb with
    | true =>
      by_cases hbig : 2147483648 < r
      · have hbig2 : decide (r > 2147483648) = true := by simpa using hbig
        go_enter Try.func5, Try.ntmps5
        go_wp2_with (first
          | ((with_reducible refine (small_any _).mono ?_); rintro e w1 ⟨rfl, hB1⟩; have K1 := both HK.out hB1; obtain ⟨k10, k11, k12, k13⟩ := K1; have K1' := Lib.hid (both HK.out hB1); have HB1 := Lib.hid (hb.trans (hB1.mono hb.size)); clear hB1)
          | ((with_reducible refine (Q1.out w1).mono ?_); rintro e w2 ⟨rfl, hB2⟩; obtain ⟨k20, k21, k22, k23⟩ := both K1'.out hB2; have K2' := Lib.hid (both K1'.out hB2); have HB2 := Lib.hid (HB1.out.trans (hB2.mono HB1.out.size)); clear hB2)
          | ((with_reducible refine (Q2.out w2).mono ?_); rintro e w3 ⟨rfl, hB3⟩; obtain ⟨k30, k31, k32, k33⟩ := both K2'.out hB3; have K3' := Lib.hid (both K2'.out hB3); have HB3 := Lib.hid (HB2.out.trans (hB3.mono HB2.out.size)); clear hB3)
          | ((with_reducible refine (Q3.out w3).mono ?_); rintro e w4 ⟨rfl, hB4⟩; obtain ⟨k40, k41, k42, k43⟩ := both K3'.out hB4; have K4' := Lib.hid (both K3'.out hB4); have HB4 := Lib.hid (HB3.out.trans (hB4.mono HB3.out.size)); clear hB4)
          | ((with_reducible refine (Q4.out w4).mono ?_); rintro e w5 ⟨rfl, hB5⟩; obtain ⟨k50, k51, k52, k53⟩ := both K4'.out hB5; have K5' := Lib.hid (both K4'.out hB5); have HB5 := Lib.hid (HB4.out.trans (hB5.mono HB4.out.size)); clear hB5)
          | ((with_reducible refine (Q5.out w5).mono ?_); rintro e w6 ⟨rfl, hB6⟩; obtain ⟨k60, k61, k62, k63⟩ := both K5'.out hB6; have K6' := Lib.hid (both K5'.out hB6); have HB6 := Lib.hid (HB5.out.trans (hB6.mono HB5.out.size)); clear hB6)
          | ((with_reducible refine (Q6.out w6).mono ?_); rintro e w7 ⟨rfl, hB7⟩; obtain ⟨k70, k71, k72, k73⟩ := both K6'.out hB7; have K7' := Lib.hid (both K6'.out hB7); have HB7 := Lib.hid (HB6.out.trans (hB7.mono HB6.out.size)); clear hB7))
        go_ret
        exact ⟨by simp, HB7.out⟩
      · have hbig' : decide (2147483648 < r) = false := by simpa using hbig
        have htr := hle hr2 (by omega) rfl
        go_enter Try.func5, Try.ntmps5
        go_wp2_with (first
          | ((with_reducible refine (small_any _).mono ?_); rintro e w1 ⟨rfl, hB1⟩; have K1 := both HK.out hB1; obtain ⟨k10, k11, k12, k13⟩ := K1; have K1' := Lib.hid (both HK.out hB1); have HB1 := Lib.hid (hb.trans (hB1.mono hb.size)); clear hB1)
          | ((with_reducible refine (Q1.out w1).mono ?_); rintro e w2 ⟨rfl, hB2⟩; obtain ⟨k20, k21, k22, k23⟩ := both K1'.out hB2; have K2' := Lib.hid (both K1'.out hB2); have HB2 := Lib.hid (HB1.out.trans (hB2.mono HB1.out.size)); clear hB2)
          | ((with_reducible refine (Q2.out w2).mono ?_); rintro e w3 ⟨rfl, hB3⟩; obtain ⟨k30, k31, k32, k33⟩ := both K2'.out hB3; have K3' := Lib.hid (both K2'.out hB3); have HB3 := Lib.hid (HB2.out.trans (hB3.mono HB2.out.size)); clear hB3)
          | ((with_reducible refine (Q3.out w3).mono ?_); rintro e w4 ⟨rfl, hB4⟩; obtain ⟨k40, k41, k42, k43⟩ := both K3'.out hB4; have K4' := Lib.hid (both K3'.out hB4); have HB4 := Lib.hid (HB3.out.trans (hB4.mono HB3.out.size)); clear hB4)
          | ((with_reducible refine (Q4.out w4).mono ?_); rintro e w5 ⟨rfl, hB5⟩; obtain ⟨k50, k51, k52, k53⟩ := both K4'.out hB5; have K5' := Lib.hid (both K4'.out hB5); have HB5 := Lib.hid (HB4.out.trans (hB5.mono HB4.out.size)); clear hB5)
          | ((with_reducible refine (Q5.out w5).mono ?_); rintro e w6 ⟨rfl, hB6⟩; obtain ⟨k60, k61, k62, k63⟩ := both K5'.out hB6; have K6' := Lib.hid (both K5'.out hB6); have HB6 := Lib.hid (HB5.out.trans (hB6.mono HB5.out.size)); clear hB6)
          | ((with_reducible refine (Q6.out w6).mono ?_); rintro e w7 ⟨rfl, hB7⟩; obtain ⟨k70, k71, k72, k73⟩ := both K6'.out hB7; have K7' := Lib.hid (both K6'.out hB7); have HB7 := Lib.hid (HB6.out.trans (hB7.mono HB6.out.size)); clear hB7))
        go_ret
        exact ⟨by simp, HB7.out⟩
    | false =>
      go_enter Try.func5, Try.ntmps5
      go_wp2_with (first
        | ((with_reducible refine (small_any _).mono ?_); rintro e w1 ⟨rfl, hB1⟩; have K1 := both HK.out hB1; obtain ⟨k10, k11, k12, k13⟩ := K1; have K1' := Lib.hid (both HK.out hB1); have HB1 := Lib.hid (hb.trans (hB1.mono hb.size)); clear hB1)
        | ((with_reducible refine (Q1.out w1).mono ?_); rintro e w2 ⟨rfl, hB2⟩; obtain ⟨k20, k21, k22, k23⟩ := both K1'.out hB2; have K2' := Lib.hid (both K1'.out hB2); have HB2 := Lib.hid (HB1.out.trans (hB2.mono HB1.out.size)); clear hB2)
        | ((with_reducible refine (Q2.out w2).mono ?_); rintro e w3 ⟨rfl, hB3⟩; obtain ⟨k30, k31, k32, k33⟩ := both K2'.out hB3; have K3' := Lib.hid (both K2'.out hB3); have HB3 := Lib.hid (HB2.out.trans (hB3.mono HB2.out.size)); clear hB3)
        | ((with_reducible refine (Q3.out w3).mono ?_); rintro e w4 ⟨rfl, hB4⟩; obtain ⟨k40, k41, k42, k43⟩ := both K3'.out hB4; have K4' := Lib.hid (both K3'.out hB4); have HB4 := Lib.hid (HB3.out.trans (hB4.mono HB3.out.size)); clear hB4)
        | ((with_reducible refine (Q4.out w4).mono ?_); rintro e w5 ⟨rfl, hB5⟩; obtain ⟨k50, k51, k52, k53⟩ := both K4'.out hB5; have K5' := Lib.hid (both K4'.out hB5); have HB5 := Lib.hid (HB4.out.trans (hB5.mono HB4.out.size)); clear hB5)
        | ((with_reducible refine (Q5.out w5).mono ?_); rintro e w6 ⟨rfl, hB6⟩; obtain ⟨k60, k61, k62, k63⟩ := both K5'.out hB6; have K6' := Lib.hid (both K5'.out hB6); have HB6 := Lib.hid (HB5.out.trans (hB6.mono HB5.out.size)); clear hB6)
        | ((with_reducible refine (Q6.out w6).mono ?_); rintro e w7 ⟨rfl, hB7⟩; obtain ⟨k70, k71, k72, k73⟩ := both K6'.out hB7; have K7' := Lib.hid (both K6'.out hB7); have HB7 := Lib.hid (HB6.out.trans (hB7.mono HB6.out.size)); clear hB7))
      go_ret
      exact ⟨by simp, HB7.out⟩

set_option maxRecDepth 100000 in
set_option maxHeartbeats 4000000 in
theorem apart_y (W : World) (ax ay by' r s t : Int) (nb : Bool) (C : Hid (Six ax ay ax by' r s t nb)) (hs : 1 ≤ s) (ht : 1 ≤ t) (hyb : ay ≠ by') (hneg : r < 0 → nb = false) (hle : 0 ≤ r → r ≤ 2147483648 → nb = true → t ≤ r) :
    Calls Try.prog 5 #[pv ax ay, pv ax by', .int .i64 r] W fun e w' => e = .returned (.bool true) ∧ Below W.heap.size W w' := by
  have hb := box2 W ax ay ax by'
  have hK := both0 W ax ay ax by' _ rfl
  have HK := Lib.hid hK; clear hK
  obtain ⟨q1, q2, q3, q4, q5, q6⟩ := C.out
  have Q1 := Lib.hid q1; have Q2 := Lib.hid q2; have Q3 := Lib.hid q3; have Q4 := Lib.hid q4; have Q5 := Lib.hid q5; have Q6 := Lib.hid q6
  clear q1 q2 q3 q4 q5 q6
  have hyb' : (ay == by') = false := by simpa using hyb
  have t1 : decide (s < 0) = false := by simp; omega
  have t2 : decide (t < 0) = false := by simp; omega
  have t3 : (s == 0) = false := by simp; omega
  have t4 : (t == 0) = false := by simp; omega
  by_cases hr : r < 0
  · have e := hneg hr
    subst e
    go_enter Try.func5, Try.ntmps5
    go_wp2_with (first
      | ((with_reducible refine (small_any _).mono ?_); rintro e w1 ⟨rfl, hB1⟩; have K1 := both HK.out hB1; obtain ⟨k10, k11, k12, k13⟩ := K1; have K1' := Lib.hid (both HK.out hB1); have HB1 := Lib.hid (hb.trans (hB1.mono hb.size)); clear hB1)
      | ((with_reducible refine (Q1.out w1).mono ?_); rintro e w2 ⟨rfl, hB2⟩; obtain ⟨k20, k21, k22, k23⟩ := both K1'.out hB2; have K2' := Lib.hid (both K1'.out hB2); have HB2 := Lib.hid (HB1.out.trans (hB2.mono HB1.out.size)); clear hB2)
      | ((with_reducible refine (Q2.out w2).mono ?_); rintro e w3 ⟨rfl, hB3⟩; obtain ⟨k30, k31, k32, k33⟩ := both K2'.out hB3; have K3' := Lib.hid (both K2'.out hB3); have HB3 := Lib.hid (HB2.out.trans (hB3.mono HB2.out.size)); clear hB3)
      | ((with_reducible refine (Q3.out w3).mono ?_); rintro e w4 ⟨rfl, hB4⟩; obtain ⟨k40, k41, k42, k43⟩ := both K3'.out hB4; have K4' := Lib.hid (both K3'.out hB4); have HB4 := Lib.hid (HB3.out.trans (hB4.mono HB3.out.size)); clear hB4)
      | ((with_reducible refine (Q4.out w4).mono ?_); rintro e w5 ⟨rfl, hB5⟩; obtain ⟨k50, k51, k52, k53⟩ := both K4'.out hB5; have K5' := Lib.hid (both K4'.out hB5); have HB5 := Lib.hid (HB4.out.trans (hB5.mono HB4.out.size)); clear hB5)
      | ((with_reducible refine (Q5.out w5).mono ?_); rintro e w6 ⟨rfl, hB6⟩; obtain ⟨k60, k61, k62, k63⟩ := both K5'.out hB6; have K6' := Lib.hid (both K5'.out hB6); have HB6 := Lib.hid (HB5.out.trans (hB6.mono HB5.out.size)); clear hB6)
      | ((with_reducible refine (Q6.out w6).mono ?_); rintro e w7 ⟨rfl, hB7⟩; obtain ⟨k70, k71, k72, k73⟩ := both K6'.out hB7; have K7' := Lib.hid (both K6'.out hB7); have HB7 := Lib.hid (HB6.out.trans (hB7.mono HB6.out.size)); clear hB7))
    go_ret
    exact ⟨by simp, HB6.out⟩
  · have hr' : decide (r < 0) = false := by simpa using hr
    have hr2 : 0 ≤ r := by omega
    cases nb with
    | true =>
      by_cases hbig : 2147483648 < r
      · have hbig2 : decide (r > 2147483648) = true := by simpa using hbig
        go_enter Try.func5, Try.ntmps5
        go_wp2_with (first
          | ((with_reducible refine (small_any _).mono ?_); rintro e w1 ⟨rfl, hB1⟩; have K1 := both HK.out hB1; obtain ⟨k10, k11, k12, k13⟩ := K1; have K1' := Lib.hid (both HK.out hB1); have HB1 := Lib.hid (hb.trans (hB1.mono hb.size)); clear hB1)
          | ((with_reducible refine (Q1.out w1).mono ?_); rintro e w2 ⟨rfl, hB2⟩; obtain ⟨k20, k21, k22, k23⟩ := both K1'.out hB2; have K2' := Lib.hid (both K1'.out hB2); have HB2 := Lib.hid (HB1.out.trans (hB2.mono HB1.out.size)); clear hB2)
          | ((with_reducible refine (Q2.out w2).mono ?_); rintro e w3 ⟨rfl, hB3⟩; obtain ⟨k30, k31, k32, k33⟩ := both K2'.out hB3; have K3' := Lib.hid (both K2'.out hB3); have HB3 := Lib.hid (HB2.out.trans (hB3.mono HB2.out.size)); clear hB3)
          | ((with_reducible refine (Q3.out w3).mono ?_); rintro e w4 ⟨rfl, hB4⟩; obtain ⟨k40, k41, k42, k43⟩ := both K3'.out hB4; have K4' := Lib.hid (both K3'.out hB4); have HB4 := Lib.hid (HB3.out.trans (hB4.mono HB3.out.size)); clear hB4)
          | ((with_reducible refine (Q4.out w4).mono ?_); rintro e w5 ⟨rfl, hB5⟩; obtain ⟨k50, k51, k52, k53⟩ := both K4'.out hB5; have K5' := Lib.hid (both K4'.out hB5); have HB5 := Lib.hid (HB4.out.trans (hB5.mono HB4.out.size)); clear hB5)
          | ((with_reducible refine (Q5.out w5).mono ?_); rintro e w6 ⟨rfl, hB6⟩; obtain ⟨k60, k61, k62, k63⟩ := both K5'.out hB6; have K6' := Lib.hid (both K5'.out hB6); have HB6 := Lib.hid (HB5.out.trans (hB6.mono HB5.out.size)); clear hB6)
          | ((with_reducible refine (Q6.out w6).mono ?_); rintro e w7 ⟨rfl, hB7⟩; obtain ⟨k70, k71, k72, k73⟩ := both K6'.out hB7; have K7' := Lib.hid (both K6'.out hB7); have HB7 := Lib.hid (HB6.out.trans (hB7.mono HB6.out.size)); clear hB7))
        go_ret
        exact ⟨by simp, HB7.out⟩
      · have hbig' : decide (2147483648 < r) = false := by simpa using hbig
        have htr := hle hr2 (by omega) rfl
        go_enter Try.func5, Try.ntmps5
        go_wp2_with (first
          | ((with_reducible refine (small_any _).mono ?_); rintro e w1 ⟨rfl, hB1⟩; have K1 := both HK.out hB1; obtain ⟨k10, k11, k12, k13⟩ := K1; have K1' := Lib.hid (both HK.out hB1); have HB1 := Lib.hid (hb.trans (hB1.mono hb.size)); clear hB1)
          | ((with_reducible refine (Q1.out w1).mono ?_); rintro e w2 ⟨rfl, hB2⟩; obtain ⟨k20, k21, k22, k23⟩ := both K1'.out hB2; have K2' := Lib.hid (both K1'.out hB2); have HB2 := Lib.hid (HB1.out.trans (hB2.mono HB1.out.size)); clear hB2)
          | ((with_reducible refine (Q2.out w2).mono ?_); rintro e w3 ⟨rfl, hB3⟩; obtain ⟨k30, k31, k32, k33⟩ := both K2'.out hB3; have K3' := Lib.hid (both K2'.out hB3); have HB3 := Lib.hid (HB2.out.trans (hB3.mono HB2.out.size)); clear hB3)
          | ((with_reducible refine (Q3.out w3).mono ?_); rintro e w4 ⟨rfl, hB4⟩; obtain ⟨k40, k41, k42, k43⟩ := both K3'.out hB4; have K4' := Lib.hid (both K3'.out hB4); have HB4 := Lib.hid (HB3.out.trans (hB4.mono HB3.out.size)); clear hB4)
          | ((with_reducible refine (Q4.out w4).mono ?_); rintro e w5 ⟨rfl, hB5⟩; obtain ⟨k50, k51, k52, k53⟩ := both K4'.out hB5; have K5' := Lib.hid (both K4'.out hB5); have HB5 := Lib.hid (HB4.out.trans (hB5.mono HB4.out.size)); clear hB5)
          | ((with_reducible refine (Q5.out w5).mono ?_); rintro e w6 ⟨rfl, hB6⟩; obtain ⟨k60, k61, k62, k63⟩ := both K5'.out hB6; have K6' := Lib.hid (both K5'.out hB6); have HB6 := Lib.hid (HB5.out.trans (hB6.mono HB5.out.size)); clear hB6)
          | ((with_reducible refine (Q6.out w6).mono ?_); rintro e w7 ⟨rfl, hB7⟩; obtain ⟨k70, k71, k72, k73⟩ := both K6'.out hB7; have K7' := Lib.hid (both K6'.out hB7); have HB7 := Lib.hid (HB6.out.trans (hB7.mono HB6.out.size)); clear hB7))
        go_ret
        exact ⟨by simp, HB7.out⟩
    | false =>
      go_enter Try.func5, Try.ntmps5
      go_wp2_with (first
        | ((with_reducible refine (small_any _).mono ?_); rintro e w1 ⟨rfl, hB1⟩; have K1 := both HK.out hB1; obtain ⟨k10, k11, k12, k13⟩ := K1; have K1' := Lib.hid (both HK.out hB1); have HB1 := Lib.hid (hb.trans (hB1.mono hb.size)); clear hB1)
        | ((with_reducible refine (Q1.out w1).mono ?_); rintro e w2 ⟨rfl, hB2⟩; obtain ⟨k20, k21, k22, k23⟩ := both K1'.out hB2; have K2' := Lib.hid (both K1'.out hB2); have HB2 := Lib.hid (HB1.out.trans (hB2.mono HB1.out.size)); clear hB2)
        | ((with_reducible refine (Q2.out w2).mono ?_); rintro e w3 ⟨rfl, hB3⟩; obtain ⟨k30, k31, k32, k33⟩ := both K2'.out hB3; have K3' := Lib.hid (both K2'.out hB3); have HB3 := Lib.hid (HB2.out.trans (hB3.mono HB2.out.size)); clear hB3)
        | ((with_reducible refine (Q3.out w3).mono ?_); rintro e w4 ⟨rfl, hB4⟩; obtain ⟨k40, k41, k42, k43⟩ := both K3'.out hB4; have K4' := Lib.hid (both K3'.out hB4); have HB4 := Lib.hid (HB3.out.trans (hB4.mono HB3.out.size)); clear hB4)
        | ((with_reducible refine (Q4.out w4).mono ?_); rintro e w5 ⟨rfl, hB5⟩; obtain ⟨k50, k51, k52, k53⟩ := both K4'.out hB5; have K5' := Lib.hid (both K4'.out hB5); have HB5 := Lib.hid (HB4.out.trans (hB5.mono HB4.out.size)); clear hB5)
        | ((with_reducible refine (Q5.out w5).mono ?_); rintro e w6 ⟨rfl, hB6⟩; obtain ⟨k60, k61, k62, k63⟩ := both K5'.out hB6; have K6' := Lib.hid (both K5'.out hB6); have HB6 := Lib.hid (HB5.out.trans (hB6.mono HB5.out.size)); clear hB6)
        | ((with_reducible refine (Q6.out w6).mono ?_); rintro e w7 ⟨rfl, hB7⟩; obtain ⟨k70, k71, k72, k73⟩ := both K6'.out hB7; have K7' := Lib.hid (both K6'.out hB7); have HB7 := Lib.hid (HB6.out.trans (hB7.mono HB6.out.size)); clear hB7))
      go_ret
      exact ⟨by simp, HB7.out⟩

set_option maxRecDepth 100000 in
set_option maxHeartbeats 4000000 in
theorem one_tile (W : World) (ax ay r s t : Int) (nb : Bool) (C : Hid (Six ax ay ax ay r s t nb)) (hs : s = 0) (ht : t = 0) (hyes : 0 ≤ r → nb = true) (hneg : r < 0 → nb = false) (hle : 0 ≤ r → r ≤ 2147483648 → nb = true → t ≤ r) :
    Calls Try.prog 5 #[pv ax ay, pv ax ay, .int .i64 r] W fun e w' => e = .returned (.bool true) ∧ Below W.heap.size W w' := by
  have hb := box2 W ax ay ax ay
  have hK := both0 W ax ay ax ay _ rfl
  have HK := Lib.hid hK; clear hK
  obtain ⟨q1, q2, q3, q4, q5, q6⟩ := C.out
  have Q1 := Lib.hid q1; have Q2 := Lib.hid q2; have Q3 := Lib.hid q3; have Q4 := Lib.hid q4; have Q5 := Lib.hid q5; have Q6 := Lib.hid q6
  clear q1 q2 q3 q4 q5 q6
  subst hs
  subst ht
  by_cases hr : r < 0
  · have e := hneg hr
    subst e
    go_enter Try.func5, Try.ntmps5
    go_wp2_with (first
      | ((with_reducible refine (small_any _).mono ?_); rintro e w1 ⟨rfl, hB1⟩; have K1 := both HK.out hB1; obtain ⟨k10, k11, k12, k13⟩ := K1; have K1' := Lib.hid (both HK.out hB1); have HB1 := Lib.hid (hb.trans (hB1.mono hb.size)); clear hB1)
      | ((with_reducible refine (Q1.out w1).mono ?_); rintro e w2 ⟨rfl, hB2⟩; obtain ⟨k20, k21, k22, k23⟩ := both K1'.out hB2; have K2' := Lib.hid (both K1'.out hB2); have HB2 := Lib.hid (HB1.out.trans (hB2.mono HB1.out.size)); clear hB2)
      | ((with_reducible refine (Q2.out w2).mono ?_); rintro e w3 ⟨rfl, hB3⟩; obtain ⟨k30, k31, k32, k33⟩ := both K2'.out hB3; have K3' := Lib.hid (both K2'.out hB3); have HB3 := Lib.hid (HB2.out.trans (hB3.mono HB2.out.size)); clear hB3)
      | ((with_reducible refine (Q3.out w3).mono ?_); rintro e w4 ⟨rfl, hB4⟩; obtain ⟨k40, k41, k42, k43⟩ := both K3'.out hB4; have K4' := Lib.hid (both K3'.out hB4); have HB4 := Lib.hid (HB3.out.trans (hB4.mono HB3.out.size)); clear hB4)
      | ((with_reducible refine (Q4.out w4).mono ?_); rintro e w5 ⟨rfl, hB5⟩; obtain ⟨k50, k51, k52, k53⟩ := both K4'.out hB5; have K5' := Lib.hid (both K4'.out hB5); have HB5 := Lib.hid (HB4.out.trans (hB5.mono HB4.out.size)); clear hB5)
      | ((with_reducible refine (Q5.out w5).mono ?_); rintro e w6 ⟨rfl, hB6⟩; obtain ⟨k60, k61, k62, k63⟩ := both K5'.out hB6; have K6' := Lib.hid (both K5'.out hB6); have HB6 := Lib.hid (HB5.out.trans (hB6.mono HB5.out.size)); clear hB6)
      | ((with_reducible refine (Q6.out w6).mono ?_); rintro e w7 ⟨rfl, hB7⟩; obtain ⟨k70, k71, k72, k73⟩ := both K6'.out hB7; have K7' := Lib.hid (both K6'.out hB7); have HB7 := Lib.hid (HB6.out.trans (hB7.mono HB6.out.size)); clear hB7))
    go_ret
    exact ⟨by simp, HB6.out⟩
  · have hr' : decide (r < 0) = false := by simpa using hr
    have hr2 : 0 ≤ r := by omega
    have e := hyes hr2
    subst e
    by_cases hbig : 2147483648 < r
    · have hbig2 : decide (r > 2147483648) = true := by simpa using hbig
      go_enter Try.func5, Try.ntmps5
      go_wp2_with (first
        | ((with_reducible refine (small_any _).mono ?_); rintro e w1 ⟨rfl, hB1⟩; have K1 := both HK.out hB1; obtain ⟨k10, k11, k12, k13⟩ := K1; have K1' := Lib.hid (both HK.out hB1); have HB1 := Lib.hid (hb.trans (hB1.mono hb.size)); clear hB1)
        | ((with_reducible refine (Q1.out w1).mono ?_); rintro e w2 ⟨rfl, hB2⟩; obtain ⟨k20, k21, k22, k23⟩ := both K1'.out hB2; have K2' := Lib.hid (both K1'.out hB2); have HB2 := Lib.hid (HB1.out.trans (hB2.mono HB1.out.size)); clear hB2)
        | ((with_reducible refine (Q2.out w2).mono ?_); rintro e w3 ⟨rfl, hB3⟩; obtain ⟨k30, k31, k32, k33⟩ := both K2'.out hB3; have K3' := Lib.hid (both K2'.out hB3); have HB3 := Lib.hid (HB2.out.trans (hB3.mono HB2.out.size)); clear hB3)
        | ((with_reducible refine (Q3.out w3).mono ?_); rintro e w4 ⟨rfl, hB4⟩; obtain ⟨k40, k41, k42, k43⟩ := both K3'.out hB4; have K4' := Lib.hid (both K3'.out hB4); have HB4 := Lib.hid (HB3.out.trans (hB4.mono HB3.out.size)); clear hB4)
        | ((with_reducible refine (Q4.out w4).mono ?_); rintro e w5 ⟨rfl, hB5⟩; obtain ⟨k50, k51, k52, k53⟩ := both K4'.out hB5; have K5' := Lib.hid (both K4'.out hB5); have HB5 := Lib.hid (HB4.out.trans (hB5.mono HB4.out.size)); clear hB5)
        | ((with_reducible refine (Q5.out w5).mono ?_); rintro e w6 ⟨rfl, hB6⟩; obtain ⟨k60, k61, k62, k63⟩ := both K5'.out hB6; have K6' := Lib.hid (both K5'.out hB6); have HB6 := Lib.hid (HB5.out.trans (hB6.mono HB5.out.size)); clear hB6)
        | ((with_reducible refine (Q6.out w6).mono ?_); rintro e w7 ⟨rfl, hB7⟩; obtain ⟨k70, k71, k72, k73⟩ := both K6'.out hB7; have K7' := Lib.hid (both K6'.out hB7); have HB7 := Lib.hid (HB6.out.trans (hB7.mono HB6.out.size)); clear hB7))
      go_ret
      exact ⟨by simp, HB7.out⟩
    · have hbig' : decide (2147483648 < r) = false := by simpa using hbig
      have htr := hle hr2 (by omega) rfl
      go_enter Try.func5, Try.ntmps5
      go_wp2_with (first
        | ((with_reducible refine (small_any _).mono ?_); rintro e w1 ⟨rfl, hB1⟩; have K1 := both HK.out hB1; obtain ⟨k10, k11, k12, k13⟩ := K1; have K1' := Lib.hid (both HK.out hB1); have HB1 := Lib.hid (hb.trans (hB1.mono hb.size)); clear hB1)
        | ((with_reducible refine (Q1.out w1).mono ?_); rintro e w2 ⟨rfl, hB2⟩; obtain ⟨k20, k21, k22, k23⟩ := both K1'.out hB2; have K2' := Lib.hid (both K1'.out hB2); have HB2 := Lib.hid (HB1.out.trans (hB2.mono HB1.out.size)); clear hB2)
        | ((with_reducible refine (Q2.out w2).mono ?_); rintro e w3 ⟨rfl, hB3⟩; obtain ⟨k30, k31, k32, k33⟩ := both K2'.out hB3; have K3' := Lib.hid (both K2'.out hB3); have HB3 := Lib.hid (HB2.out.trans (hB3.mono HB2.out.size)); clear hB3)
        | ((with_reducible refine (Q3.out w3).mono ?_); rintro e w4 ⟨rfl, hB4⟩; obtain ⟨k40, k41, k42, k43⟩ := both K3'.out hB4; have K4' := Lib.hid (both K3'.out hB4); have HB4 := Lib.hid (HB3.out.trans (hB4.mono HB3.out.size)); clear hB4)
        | ((with_reducible refine (Q4.out w4).mono ?_); rintro e w5 ⟨rfl, hB5⟩; obtain ⟨k50, k51, k52, k53⟩ := both K4'.out hB5; have K5' := Lib.hid (both K4'.out hB5); have HB5 := Lib.hid (HB4.out.trans (hB5.mono HB4.out.size)); clear hB5)
        | ((with_reducible refine (Q5.out w5).mono ?_); rintro e w6 ⟨rfl, hB6⟩; obtain ⟨k60, k61, k62, k63⟩ := both K5'.out hB6; have K6' := Lib.hid (both K5'.out hB6); have HB6 := Lib.hid (HB5.out.trans (hB6.mono HB5.out.size)); clear hB6)
        | ((with_reducible refine (Q6.out w6).mono ?_); rintro e w7 ⟨rfl, hB7⟩; obtain ⟨k70, k71, k72, k73⟩ := both K6'.out hB7; have K7' := Lib.hid (both K6'.out hB7); have HB7 := Lib.hid (HB6.out.trans (hB7.mono HB6.out.size)); clear hB7))
      go_ret
      exact ⟨by simp, HB7.out⟩

theorem walk (W : World) (ax ay : Int) (h1 : Fits ax) (h2 : Fits ay) (bx by' : Int) (h3 : Fits bx) (h4 : Fits by') (r : Int) (h5 : Fits r) :
    Calls Try.prog 5 #[pv ax ay, pv bx by', .int .i64 r] W fun e w' => e = .returned (.bool true) ∧ Below W.heap.size W w' := by
  have C : Hid (Six ax ay bx by' r (sqr ax ay bx by') (stp ax ay bx by') (nearB ax ay bx by' r)) := Lib.hid
    ⟨fun w => square_any ax ay bx by' w h1 h2 h3 h4, fun w => Con.steps_any ax ay bx by' w h1 h2 h3 h4, fun w => by have := square_any bx by' ax ay w h3 h4 h1 h2; rwa [sqr_comm] at this,
      fun w => by have := Con.steps_any bx by' ax ay w h3 h4 h1 h2; rwa [stp_comm] at this, fun w => near_any ax ay bx by' r w h1 h2 h3 h4 h5, fun w => by have := near_any bx by' ax ay r w h3 h4 h1 h2 h5; rwa [nearB_comm] at this⟩
  have hneg : r < 0 → nearB ax ay bx by' r = false := fun h => near_neg h
  have hle : 0 ≤ r → r ≤ 2147483648 → nearB ax ay bx by' r = true → stp ax ay bx by' ≤ r := fun a b c => near_steps a b c
  by_cases hx : ax = bx
  · subst hx
    by_cases hy : ay = by'
    · subst hy
      exact one_tile W ax ay r _ _ _ C (sqr_same _ _) (stp_same _ _) (fun h => near_same h) hneg hle
    · exact apart_y W ax ay by' r _ _ _ C (sqr_ne (fun h => hy h.2)) (stp_ne (fun h => hy h.2)) hy hneg hle
  · exact apart_x W ax ay bx by' r _ _ _ C (sqr_ne (fun h => hx h.1)) (stp_ne (fun h => hx h.1)) hx hneg hle


set_option maxRecDepth 100000 in
theorem lifted (os : Os) (started : os.Started) (H : Type) (enc : TypeId × Value → H) :
    ReturnsInHanded {} Try.checked os 5 .any (Rows.gridAlikeSpec.pre6 enc Try.prog Try.f5 Rows.gridAlikeRow.domain false) (Rows.gridAlikeSpec.post enc Try.prog Try.f5 false true false false) := by
  refine returnsInHanded_of_change (C := Try.checked) own started (by kernel_rfl) Try.func5
    (ChangeSpec.witness6 (enc := enc) (C := Try.checked) false ⟨#[], #[.agg #[.int .i64 0, .int .i64 0], .agg #[.int .i64 0, .int .i64 0], .int .i64 0], []⟩ 8 (by kernel_rfl) (by kernel_rfl) (by kernel_rfl) (by kernel_rfl)) ?_
  intro W base args ds gs before hval0 hW hcnd _
  have hval : ∀ (j : Nat) t v, Try.f5.params[j]? = some t → args[j]? = some v → Value.okWide Try.prog W .any base t v := hval0
  have hW' := hW
  obtain ⟨p, q, hA0, hV, rfl, hfz, hnd⟩ := hW
  have hA : DataW.TrodAll enc Try.prog W 0 (fun _ => true) true Try.f5.params.toList args.toList ds p := hA0
  rw [Try.params5] at hA hval
  obtain ⟨v0, vs0, d0, ds0, p0, q0, hargs, rfl, rfl, h0, r0⟩ := trodAll_cons hA
  obtain ⟨v1, vs1, d1, ds1, p1, q1, rfl, rfl, rfl, h1, r1⟩ := trodAll_cons r0
  obtain ⟨v2, vs2, d2, ds2, p2, q2, rfl, rfl, rfl, h2, r2⟩ := trodAll_cons r1
  obtain ⟨rfl, rfl, rfl⟩ := trodAll_nil r2
  obtain rfl : args = #[v0, v1, v2] := by cases args; simp_all
  obtain ⟨rfl, rfl⟩ := trodVars_none hV
  clear hA0 hval0
  have hlt0 : ∀ x ∈ p0, x.block < W.heap.size := fun x hx => hW'.lt x (by simp [hx])
  have hk0 := h0
  obtain ⟨x0, y0, rfl, fx0, fy0⟩ := Open.viewP (hval 0 23 v0 rfl rfl) h0
  have hlt1 : ∀ x ∈ p1, x.block < W.heap.size := fun x hx => hW'.lt x (by simp [hx])
  have hk1 := h1
  obtain ⟨x1, y1, rfl, fx1, fy1⟩ := Open.viewP (hval 1 23 v1 rfl rfl) h1
  obtain ⟨a2, rfl, rfl, rfl, w2⟩ := open_int Try.underlying3 (hval 2 3 v2 rfl rfl) h2
  simp only [List.append_nil] at hW'
  refine (walk W x0 y0 fx0 fy0 x1 y1 fx1 fy1 a2 (Open.fits_of w2)).mono fun e W' ⟨he, hg⟩ => ?_
  subst he
  exact ⟨_, rfl, _, _, _, [], _, [], hW', (trodAll_cons_mk (shut_bool Try.underlying4 _) trodAll_mk0), (trodAll_cons_mk (Below.trod Open.laidOut (by kernel_rfl) (of_decide_eq_true (by kernel_rfl)) hk0 hg hlt0) (trodAll_cons_mk (Below.trod Open.laidOut (by kernel_rfl) (of_decide_eq_true (by kernel_rfl)) hk1 hg hlt1) (trodAll_cons_mk (shut_int Try.underlying3 w2) trodAll_mk0))), rfl, hg.frame _, fun h => by cases h⟩

theorem over : Rows.gridAlikeRow.holds Try.pinned (OpenSpec.ofChange Rows.gridAlikeSpec) :=
  OpenClaim.holds_of_wide 5 Try.f5 rfl rfl rfl rfl rfl rfl rfl ⟨rfl, rfl, rfl, rfl, rfl⟩ rfl rfl rfl rfl rfl (by kernel_rfl) Try.func5 (by kernel_rfl)
    (of_decide_eq_true (by kernel_rfl)) (by unfold Func.isWrapper; first | (rw [if_pos (by decide +kernel)]; kernel_rfl) | (rw [if_neg (by decide +kernel)]; exact ⟨rfl, rfl⟩))
    (fun os started H enc _ => lifted os started H enc)

/-- The given statement. -/
theorem proved : Rows.GridAlikeSaid :=
  over
#print axioms proved
end Go.Proofs.Ytccfoeokadggaaa.gridAlike
