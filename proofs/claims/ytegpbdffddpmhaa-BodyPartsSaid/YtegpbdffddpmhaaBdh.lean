/-
  Contracts of body's Hurt, Heal, Gain, Spend and Raise: for every unit and every number; only new memory is made.
-/
import Derived.Test.YtegpbdffddpmhaaBdr
import Derived.Handy
namespace Go.Proofs.Ytegpbdffddpmhaa.Con
open Go.RowKit
set_option linter.unusedVariables false
/-- The greater of two. -/
def hiI (u v : Int) : Int := if u ≤ v then v else u
theorem run_max (P : Program) (t : TypeId) (u v : Int) (w : World) : (Builtin.max_ #[3, 3] t #[.int .i64 u, .int .i64 v]).run P w = .ok (.int .i64 (hiI u v)) w := by
  unfold hiI
  by_cases h : u ≤ v
  · rw [if_pos h]
    by_cases h2 : v > u
    · simp [Builtin.max_, Builtin.max2, h2]
    · have : u = v := by omega
      subst this
      simp [Builtin.max_, Builtin.max2]
  · rw [if_neg h]
    have h2 : ¬ v > u := by omega
    simp only [Builtin.max_, Builtin.max2, List.foldlM, h2, if_false]
    rfl
section
variable {P : Program} {ops : Array Oper} {rest : List Oper} {o : Oper} {a : Act} {Q : Exit → Act → World → Prop} {w : World}
theorem wpList_max (hgd : o.guard = none) (x y : Operand) (u v m : Int) (ho : o.op = .call { callee := .builtin .max, args := #[x, y], argTypes := #[3, 3] }) (hx : a.eval x = .int .i64 u) (hy : a.eval y = .int .i64 v) (hm : hiI u v = m)
    (h : wpList P ops Q rest (a.put o.dst (.int .i64 m)) w) : wpList P ops Q (o :: rest) a w :=
  wpList_plain hgd fun _ hK => by
    unfold Oper.wp execOp
    simp only [ho, resolve, invoke, builtin, Sem.run_bind, Sem.run_pure, Result.andThen_ok, List.map_toArray, List.map_cons, List.map_nil, hx, hy, run_max]
    rw [hm]
    exact hK _ _ h
end
theorem two_new (w : World) (u v : Un) : Below w.heap.size w ((w.alloc (oU u)).alloc (oU v)) ∧ Bx ((w.alloc (oU u)).alloc (oU v)) w.heap.size u ∧ Bx ((w.alloc (oU u)).alloc (oU v)) (w.heap.size + 1) v :=
  ⟨(below_box u).alloc (by simp) _, (Bx.new w u).alloc _, by have := Bx.new (w.alloc (oU u)) v; simpa using this⟩
theorem ret_unit {u v : Un} {n m : Int} (h : u = v) (h2 : n = m) : Ending.returned (.tuple #[uv u, .int .i64 n]) = .returned (.tuple #[uv v, .int .i64 m]) := by rw [h, h2]
theorem ret_unitB {u v : Un} {n m : Bool} (h : u = v) (h2 : n = m) : Ending.returned (.tuple #[uv u, .bool n]) = .returned (.tuple #[uv v, .bool m]) := by rw [h, h2]
theorem hurt_no {u : Un} {n : Int} (h : rtU u = false) : hurtU u n = u ∧ hurtN u n = 0 := by simp [hurtU, hurtN, h]
theorem hurt_yes {u : Un} {n : Int} (h : rtU u = true) : hurtU u n = { u with h := u.h - clampI n 0 u.h, c := if u.h - clampI n 0 u.h < 1 then 0 else u.c } ∧ hurtN u n = clampI n 0 u.h := by simp [hurtU, hurtN, h]
set_option maxRecDepth 20000 in
set_option maxHeartbeats 4000000 in
theorem hurt_any (u : Un) (n : Int) (w : World) : Calls Try.prog 16 #[uv u, .int .i64 n] w fun e w' => e = .returned (.tuple #[uv (hurtU u n), .int .i64 (hurtN u n)]) ∧ Below w.heap.size w w' := by
  obtain ⟨hB0, hX0, hY0⟩ := two_new w u zU
  have HB0 := Lib.hid hB0; have HX0 := Lib.hid hX0; have HY0 := Lib.hid hY0
  have H1 := Lib.hid (fun V => right_any u V)
  have H2 := Lib.hid (fun (v : Un) V => dead_any v V)
  obtain ⟨z0, z1, z2, z3, z4, z5, z6, z7, z8, z9⟩ := HX0.out.at
  clear hB0 hX0 hY0
  go_enter Try.func16, Try.ntmps16
  go_wp2_with (fail)
  generalize (w.alloc (oU u)).alloc (.cells #[.int .i64 0, .int .i64 0, .int .i64 0, .int .i64 0, .int .i64 0, .int .i64 0, .int .i64 0, .int .i64 0, .int .i64 0, .int .i64 0] 25) = w0 at *
  (with_reducible refine (H1.out _).mono ?_); rintro e w1 ⟨rfl, hB1⟩
  have HX1 := Lib.hid (HX0.out.of hB1 HX0.out.lt)
  have HY1 := Lib.hid (HY0.out.of hB1 HY0.out.lt)
  have HB1 := Lib.hid (below_more HB0.out hB1)
  have hF1 := frozOf' HX1.out
  have hG1 := frozOf' HY1.out
  have hyz := cellOf' HY1.out
  have hyl := HY1.out.lt
  have HR1 : Hid (Bx (putU w1 (w.heap.size + 1) u) (w.heap.size + 1) u) := Lib.hid (HY1.out.put u)
  have HS1 : Hid (Below w.heap.size w (putU w1 (w.heap.size + 1) u)) := Lib.hid (below_put HB1.out (by omega) u)
  clear hB1 z0 z1 z2 z3 z4 z5 z6 z7 z8 z9
  obtain ⟨z0, z1, z2, z3, z4, z5, z6, z7, z8, z9⟩ := HX1.out.at
  cases hr : rtU u with
  | false =>
    have HN := Lib.hid (hurt_no (n := n) hr)
    clear hr
    go_wp2
    obtain ⟨q0, q1, q2, q3, q4, q5, q6, q7, q8, q9⟩ := HR1.out.at
    refine bodyPost_ret (by simp [results, Try.results16, go_sem, q0, q1, q2, q3, q4, q5, q6, q7, q8, q9]; try rfl) rfl ?_
    exact ⟨ret_unit HN.out.1.symm HN.out.2.symm, HS1.out⟩
  | true =>
    have HN := Lib.hid (hurt_yes (n := n) hr)
    have hin := (rt_iff u).1 hr
    obtain ⟨_, _, _, _, ⟨hm0, hm1⟩, ⟨hh0, hh1⟩, _, _⟩ := hin
    have hd := clamp_low (n := n) hh0
    have HC := Lib.hid (fun V => clamp_any n 0 u.h V)
    generalize clampI n 0 u.h = d at *
    obtain ⟨hd0, hd1⟩ := hd
    have HX2 : Hid (Bx (w1.setCell ⟨w.heap.size, 3, none⟩ (.int .i64 (u.h - d))) w.heap.size { u with h := u.h - d }) := Lib.hid (HX1.out.set3 _)
    have HY2 : Hid (Bx (w1.setCell ⟨w.heap.size, 3, none⟩ (.int .i64 (u.h - d))) (w.heap.size + 1) zU) := Lib.hid (HY1.out.other (by omega) _ _)
    have HB2 : Hid (Below w.heap.size w (w1.setCell ⟨w.heap.size, 3, none⟩ (.int .i64 (u.h - d)))) := Lib.hid (HB1.out.setCell (p := ⟨w.heap.size, 3, none⟩) (Nat.le_refl _) _)
    clear hr HR1 HS1
    go_wp2_with ((with_reducible refine (HC.out _).mono ?_); rintro e w3 ⟨rfl, rfl⟩)
    generalize w1.setCell ⟨w.heap.size, 3, none⟩ (.int .i64 (u.h - d)) = w2 at *
    (with_reducible refine (H2.out { u with h := u.h - d } _).mono ?_); rintro e w4 ⟨rfl, hB4⟩
    have HX4 := Lib.hid (HX2.out.of hB4 HX2.out.lt)
    have HY4 := Lib.hid (HY2.out.of hB4 HY2.out.lt)
    have HB4 := Lib.hid (below_more HB2.out hB4)
    clear hB4 z0 z1 z2 z3 z4 z5 z6 z7 z8 z9 hF1 hG1 hyz hyl
    have hF4 := frozOf' HX4.out
    have hG4 := frozOf' HY4.out
    have hyz := cellOf' HY4.out
    have hyl := HY4.out.lt
    cases hd : decide (u.h - d < 1) with
    | true =>
      have hc : (if u.h - d < 1 then (0 : Int) else u.c) = 0 := if_pos (by simpa using hd)
      rw [hc] at HN
      have HX5 : Hid (Bx (w4.setCell ⟨w.heap.size, 9, none⟩ (.int .i64 0)) w.heap.size { u with h := u.h - d, c := 0 }) := Lib.hid (HX4.out.set9 0)
      have HY5 : Hid (Bx (w4.setCell ⟨w.heap.size, 9, none⟩ (.int .i64 0)) (w.heap.size + 1) zU) := Lib.hid (HY4.out.other (by omega) _ _)
      have HR5 : Hid (Bx (putU (w4.setCell ⟨w.heap.size, 9, none⟩ (.int .i64 0)) (w.heap.size + 1) { u with h := u.h - d, c := 0 }) (w.heap.size + 1) { u with h := u.h - d, c := 0 }) := Lib.hid (HY5.out.put _)
      have HS5 : Hid (Below w.heap.size w (putU (w4.setCell ⟨w.heap.size, 9, none⟩ (.int .i64 0)) (w.heap.size + 1) { u with h := u.h - d, c := 0 })) := Lib.hid (below_put (HB4.out.setCell (p := ⟨w.heap.size, 9, none⟩) (Nat.le_refl _) _) (by omega) _)
      obtain ⟨z0, z1, z2, z3, z4, z5, z6, z7, z8, z9⟩ := HX4.out.at
      clear hc
      go_wp2
      obtain ⟨q0, q1, q2, q3, q4, q5, q6, q7, q8, q9⟩ := HR5.out.at
      refine bodyPost_ret (by simp [results, Try.results16, go_sem, q0, q1, q2, q3, q4, q5, q6, q7, q8, q9]; try rfl) rfl ?_
      exact ⟨ret_unit HN.out.1.symm HN.out.2.symm, HS5.out⟩
    | false =>
      have hc : (if u.h - d < 1 then (0 : Int) else u.c) = u.c := if_neg (by simpa using hd)
      rw [hc] at HN
      have HR5 : Hid (Bx (putU w4 (w.heap.size + 1) { u with h := u.h - d }) (w.heap.size + 1) { u with h := u.h - d }) := Lib.hid (HY4.out.put _)
      have HS5 : Hid (Below w.heap.size w (putU w4 (w.heap.size + 1) { u with h := u.h - d })) := Lib.hid (below_put HB4.out (by omega) _)
      obtain ⟨z0, z1, z2, z3, z4, z5, z6, z7, z8, z9⟩ := HX4.out.at
      clear hc
      go_wp2
      obtain ⟨q0, q1, q2, q3, q4, q5, q6, q7, q8, q9⟩ := HR5.out.at
      refine bodyPost_ret (by simp [results, Try.results16, go_sem, q0, q1, q2, q3, q4, q5, q6, q7, q8, q9]; try rfl) rfl ?_
      exact ⟨ret_unit HN.out.1.symm HN.out.2.symm, HS5.out⟩
theorem heal_no {u : Un} {n : Int} (h : lvU u = false) : healU u n = u ∧ healN u n = 0 := by simp [healU, healN, h]
theorem heal_yes {u : Un} {n : Int} (h : lvU u = true) : healU u n = { u with h := u.h + clampI n 0 (u.m - u.h) } ∧ healN u n = clampI n 0 (u.m - u.h) := by simp [healU, healN, h]
set_option maxRecDepth 20000 in
set_option maxHeartbeats 4000000 in
theorem heal_any (u : Un) (n : Int) (w : World) : Calls Try.prog 17 #[uv u, .int .i64 n] w fun e w' => e = .returned (.tuple #[uv (healU u n), .int .i64 (healN u n)]) ∧ Below w.heap.size w w' := by
  obtain ⟨hB0, hX0, hY0⟩ := two_new w u zU
  have HB0 := Lib.hid hB0; have HX0 := Lib.hid hX0; have HY0 := Lib.hid hY0
  have H1 := Lib.hid (fun V => lives_any u V)
  have H2 := Lib.hid (fun (v : Un) V => dead_any v V)
  obtain ⟨z0, z1, z2, z3, z4, z5, z6, z7, z8, z9⟩ := HX0.out.at
  clear hB0 hX0 hY0
  go_enter Try.func17, Try.ntmps17
  go_wp2_with (fail)
  generalize (w.alloc (oU u)).alloc (.cells #[.int .i64 0, .int .i64 0, .int .i64 0, .int .i64 0, .int .i64 0, .int .i64 0, .int .i64 0, .int .i64 0, .int .i64 0, .int .i64 0] 25) = w0 at *
  (with_reducible refine (H1.out _).mono ?_); rintro e w1 ⟨rfl, hB1⟩
  have HX1 := Lib.hid (HX0.out.of hB1 HX0.out.lt)
  have HY1 := Lib.hid (HY0.out.of hB1 HY0.out.lt)
  have HB1 := Lib.hid (below_more HB0.out hB1)
  have hF1 := frozOf' HX1.out
  have hG1 := frozOf' HY1.out
  have hyz := cellOf' HY1.out
  have hyl := HY1.out.lt
  have HR1 : Hid (Bx (putU w1 (w.heap.size + 1) u) (w.heap.size + 1) u) := Lib.hid (HY1.out.put u)
  have HS1 : Hid (Below w.heap.size w (putU w1 (w.heap.size + 1) u)) := Lib.hid (below_put HB1.out (by omega) u)
  clear hB1 z0 z1 z2 z3 z4 z5 z6 z7 z8 z9
  obtain ⟨z0, z1, z2, z3, z4, z5, z6, z7, z8, z9⟩ := HX1.out.at
  cases hr : lvU u with
  | false =>
    have HN := Lib.hid (heal_no (n := n) hr)
    clear hr
    go_wp2
    obtain ⟨q0, q1, q2, q3, q4, q5, q6, q7, q8, q9⟩ := HR1.out.at
    refine bodyPost_ret (by simp [results, Try.results17, go_sem, q0, q1, q2, q3, q4, q5, q6, q7, q8, q9]; try rfl) rfl ?_
    exact ⟨ret_unit HN.out.1.symm HN.out.2.symm, HS1.out⟩
  | true =>
    have HN := Lib.hid (heal_yes (n := n) hr)
    have hr' : rtU u = true := by simp [lvU] at hr; exact hr.1
    have hin := (rt_iff u).1 hr'
    obtain ⟨_, _, _, _, ⟨hm0, hm1⟩, ⟨hh0, hh1⟩, ⟨hq0, hq1⟩, ⟨hp0, hp1⟩⟩ := hin
    have hd := clamp_low (n := n) (b := u.m - u.h) (by omega)
    have HC := Lib.hid (fun V => clamp_any n 0 (u.m - u.h) V)
    generalize clampI n 0 (u.m - u.h) = d at *
    obtain ⟨hd0, hd1⟩ := hd
    have HX2 : Hid (Bx (w1.setCell ⟨w.heap.size, 3, none⟩ (.int .i64 (u.h + d))) w.heap.size { u with h := u.h + d }) := Lib.hid (HX1.out.set3 _)
    have HY2 : Hid (Bx (w1.setCell ⟨w.heap.size, 3, none⟩ (.int .i64 (u.h + d))) (w.heap.size + 1) zU) := Lib.hid (HY1.out.other (by omega) _ _)
    have HR2 : Hid (Bx (putU (w1.setCell ⟨w.heap.size, 3, none⟩ (.int .i64 (u.h + d))) (w.heap.size + 1) { u with h := u.h + d }) (w.heap.size + 1) { u with h := u.h + d }) := Lib.hid (HY2.out.put _)
    have HS2 : Hid (Below w.heap.size w (putU (w1.setCell ⟨w.heap.size, 3, none⟩ (.int .i64 (u.h + d))) (w.heap.size + 1) { u with h := u.h + d })) := Lib.hid (below_put (HB1.out.setCell (p := ⟨w.heap.size, 3, none⟩) (Nat.le_refl _) _) (by omega) _)
    clear hr hr' HR1 HS1
    go_wp2_with ((with_reducible refine (HC.out _).mono ?_); rintro e w3 ⟨rfl, rfl⟩)
    obtain ⟨q0, q1, q2, q3, q4, q5, q6, q7, q8, q9⟩ := HR2.out.at
    refine bodyPost_ret (by simp [results, Try.results17, go_sem, q0, q1, q2, q3, q4, q5, q6, q7, q8, q9]; try rfl) rfl ?_
    exact ⟨ret_unit HN.out.1.symm HN.out.2.symm, HS2.out⟩
theorem spend_no {u : Un} {n : Int} (h : spendB u n = false) : spendU u n = u := by simp [spendU, h]
theorem spend_yes {u : Un} {n : Int} (h : spendB u n = true) : spendU u n = { u with p := u.p - n } := by simp [spendU, h]
set_option maxRecDepth 20000 in
set_option maxHeartbeats 4000000 in
theorem spend_any (u : Un) (n : Int) (w : World) : Calls Try.prog 19 #[uv u, .int .i64 n] w fun e w' => e = .returned (.tuple #[uv (spendU u n), .bool (spendB u n)]) ∧ Below w.heap.size w w' := by
  obtain ⟨hB0, hX0, hY0⟩ := two_new w u zU
  have HB0 := Lib.hid hB0; have HX0 := Lib.hid hX0; have HY0 := Lib.hid hY0
  have H1 := Lib.hid (fun V => lives_any u V)
  have H2 := Lib.hid (fun (v : Un) V => dead_any v V)
  obtain ⟨z0, z1, z2, z3, z4, z5, z6, z7, z8, z9⟩ := HX0.out.at
  clear hB0 hX0 hY0
  go_enter Try.func19, Try.ntmps19
  go_wp2_with (fail)
  generalize (w.alloc (oU u)).alloc (.cells #[.int .i64 0, .int .i64 0, .int .i64 0, .int .i64 0, .int .i64 0, .int .i64 0, .int .i64 0, .int .i64 0, .int .i64 0, .int .i64 0] 25) = w0 at *
  (with_reducible refine (H1.out _).mono ?_); rintro e w1 ⟨rfl, hB1⟩
  have HX1 := Lib.hid (HX0.out.of hB1 HX0.out.lt)
  have HY1 := Lib.hid (HY0.out.of hB1 HY0.out.lt)
  have HB1 := Lib.hid (below_more HB0.out hB1)
  have hF1 := frozOf' HX1.out
  have hG1 := frozOf' HY1.out
  have hyz := cellOf' HY1.out
  have hyl := HY1.out.lt
  have HR1 : Hid (Bx (putU w1 (w.heap.size + 1) u) (w.heap.size + 1) u) := Lib.hid (HY1.out.put u)
  have HS1 : Hid (Below w.heap.size w (putU w1 (w.heap.size + 1) u)) := Lib.hid (below_put HB1.out (by omega) u)
  clear hB1 z0 z1 z2 z3 z4 z5 z6 z7 z8 z9
  obtain ⟨z0, z1, z2, z3, z4, z5, z6, z7, z8, z9⟩ := HX1.out.at
  have HW := Lib.hid (fun V => within_any n 0 u.p V)
  have HE : Hid (spendB u n = (lvU u && wiB n 0 u.p)) := Lib.hid rfl
  cases hr : lvU u with
  | false =>
    rw [hr] at HE
    have HN := Lib.hid (spend_no HE.out)
    clear hr
    go_wp2
    obtain ⟨q0, q1, q2, q3, q4, q5, q6, q7, q8, q9⟩ := HR1.out.at
    refine bodyPost_ret (by simp [results, Try.results19, go_sem, q0, q1, q2, q3, q4, q5, q6, q7, q8, q9]; try rfl) rfl ?_
    exact ⟨ret_unitB HN.out.symm HE.out.symm, HS1.out⟩
  | true =>
    rw [hr] at HE
    have hr' : rtU u = true := by simp [lvU] at hr; exact hr.1
    have hin := (rt_iff u).1 hr'
    obtain ⟨_, _, _, _, ⟨hm0, hm1⟩, ⟨hh0, hh1⟩, ⟨hq0, hq1⟩, ⟨hp0, hp1⟩⟩ := hin
    clear hr hr'
    cases hn : wiB n 0 u.p with
    | false =>
      rw [hn] at HE HW
      have HN := Lib.hid (spend_no HE.out)
      clear hn
      go_wp2_with ((with_reducible refine (HW.out _).mono ?_); rintro e w3 ⟨rfl, rfl⟩)
      obtain ⟨q0, q1, q2, q3, q4, q5, q6, q7, q8, q9⟩ := HR1.out.at
      refine bodyPost_ret (by simp [results, Try.results19, go_sem, q0, q1, q2, q3, q4, q5, q6, q7, q8, q9]; try rfl) rfl ?_
      exact ⟨ret_unitB HN.out.symm HE.out.symm, HS1.out⟩
    | true =>
      rw [hn] at HE HW
      have HN := Lib.hid (spend_yes HE.out)
      obtain ⟨hn0, hn1⟩ : 0 ≤ n ∧ n ≤ u.p := by simpa [wiB] using hn
      have HX2 : Hid (Bx (w1.setCell ⟨w.heap.size, 5, none⟩ (.int .i64 (u.p - n))) w.heap.size { u with p := u.p - n }) := Lib.hid (HX1.out.set5 _)
      have HY2 : Hid (Bx (w1.setCell ⟨w.heap.size, 5, none⟩ (.int .i64 (u.p - n))) (w.heap.size + 1) zU) := Lib.hid (HY1.out.other (by omega) _ _)
      have HR2 : Hid (Bx (putU (w1.setCell ⟨w.heap.size, 5, none⟩ (.int .i64 (u.p - n))) (w.heap.size + 1) { u with p := u.p - n }) (w.heap.size + 1) { u with p := u.p - n }) := Lib.hid (HY2.out.put _)
      have HS2 : Hid (Below w.heap.size w (putU (w1.setCell ⟨w.heap.size, 5, none⟩ (.int .i64 (u.p - n))) (w.heap.size + 1) { u with p := u.p - n })) := Lib.hid (below_put (HB1.out.setCell (p := ⟨w.heap.size, 5, none⟩) (Nat.le_refl _) _) (by omega) _)
      clear hn HR1 HS1
      go_wp2_with ((with_reducible refine (HW.out _).mono ?_); rintro e w3 ⟨rfl, rfl⟩)
      obtain ⟨q0, q1, q2, q3, q4, q5, q6, q7, q8, q9⟩ := HR2.out.at
      refine bodyPost_ret (by simp [results, Try.results19, go_sem, q0, q1, q2, q3, q4, q5, q6, q7, q8, q9]; try rfl) rfl ?_
      exact ⟨ret_unitB HN.out.symm HE.out.symm, HS2.out⟩
theorem raise_no {u : Un} (h : raiseB u = false) : raiseU u = u := by simp [raiseU, h]
theorem raise_yes {u : Un} (h : raiseB u = true) : raiseU u = { u with h := max 1 (u.m / 2) } := by simp [raiseU, h]
set_option maxRecDepth 20000 in
set_option maxHeartbeats 4000000 in
theorem raise_any (u : Un) (w : World) : Calls Try.prog 20 #[uv u] w fun e w' => e = .returned (.tuple #[uv (raiseU u), .bool (raiseB u)]) ∧ Below w.heap.size w w' := by
  obtain ⟨hB0, hX0, hY0⟩ := two_new w u zU
  have HB0 := Lib.hid hB0; have HX0 := Lib.hid hX0; have HY0 := Lib.hid hY0
  have H1 := Lib.hid (fun V => right_any u V)
  have H2 := Lib.hid (fun (v : Un) V => dead_any v V)
  obtain ⟨z0, z1, z2, z3, z4, z5, z6, z7, z8, z9⟩ := HX0.out.at
  clear hB0 hX0 hY0
  go_enter Try.func20, Try.ntmps20
  go_wp2_with (fail)
  generalize (w.alloc (oU u)).alloc (.cells #[.int .i64 0, .int .i64 0, .int .i64 0, .int .i64 0, .int .i64 0, .int .i64 0, .int .i64 0, .int .i64 0, .int .i64 0, .int .i64 0] 25) = w0 at *
  (with_reducible refine (H1.out _).mono ?_); rintro e w1 ⟨rfl, hB1⟩
  have HX1 := Lib.hid (HX0.out.of hB1 HX0.out.lt)
  have HY1 := Lib.hid (HY0.out.of hB1 HY0.out.lt)
  have HB1 := Lib.hid (below_more HB0.out hB1)
  have hF1 := frozOf' HX1.out
  have hG1 := frozOf' HY1.out
  have hyz := cellOf' HY1.out
  have hyl := HY1.out.lt
  have HR1 : Hid (Bx (putU w1 (w.heap.size + 1) u) (w.heap.size + 1) u) := Lib.hid (HY1.out.put u)
  have HS1 : Hid (Below w.heap.size w (putU w1 (w.heap.size + 1) u)) := Lib.hid (below_put HB1.out (by omega) u)
  clear hB1 z0 z1 z2 z3 z4 z5 z6 z7 z8 z9
  obtain ⟨z0, z1, z2, z3, z4, z5, z6, z7, z8, z9⟩ := HX1.out.at
  have HE : Hid (raiseB u = (rtU u && decide (u.h < 1))) := Lib.hid rfl
  cases hr : rtU u with
  | false =>
    rw [hr] at HE
    have HN := Lib.hid (raise_no HE.out)
    clear hr
    go_wp2
    obtain ⟨q0, q1, q2, q3, q4, q5, q6, q7, q8, q9⟩ := HR1.out.at
    refine bodyPost_ret (by simp [results, Try.results20, go_sem, q0, q1, q2, q3, q4, q5, q6, q7, q8, q9]; try rfl) rfl ?_
    exact ⟨ret_unitB HN.out.symm HE.out.symm, HS1.out⟩
  | true =>
    rw [hr] at HE
    have hin := (rt_iff u).1 hr
    obtain ⟨_, _, _, _, ⟨hm0, hm1⟩, ⟨hh0, hh1⟩, _, _⟩ := hin
    clear hr HR1 HS1
    go_wp2_with (fail)
    (with_reducible refine (H2.out u _).mono ?_); rintro e w2 ⟨rfl, hB2⟩
    have HX2 := Lib.hid (HX1.out.of hB2 HX1.out.lt)
    have HY2 := Lib.hid (HY1.out.of hB2 HY1.out.lt)
    have HB2 := Lib.hid (below_more HB1.out hB2)
    clear hB2 z0 z1 z2 z3 z4 z5 z6 z7 z8 z9 hF1 hG1 hyz hyl
    have hF2 := frozOf' HX2.out
    have hG2 := frozOf' HY2.out
    have hyz := cellOf' HY2.out
    have hyl := HY2.out.lt
    obtain ⟨z0, z1, z2, z3, z4, z5, z6, z7, z8, z9⟩ := HX2.out.at
    cases hd : decide (u.h < 1) with
    | false =>
      rw [hd] at HE
      have HN := Lib.hid (raise_no HE.out)
      have HR5 : Hid (Bx (putU w2 (w.heap.size + 1) u) (w.heap.size + 1) u) := Lib.hid (HY2.out.put _)
      have HS5 : Hid (Below w.heap.size w (putU w2 (w.heap.size + 1) u)) := Lib.hid (below_put HB2.out (by omega) _)
      go_wp2
      obtain ⟨q0, q1, q2, q3, q4, q5, q6, q7, q8, q9⟩ := HR5.out.at
      refine bodyPost_ret (by simp [results, Try.results20, go_sem, q0, q1, q2, q3, q4, q5, q6, q7, q8, q9]; try rfl) rfl ?_
      exact ⟨ret_unitB HN.out.symm HE.out.symm, HS5.out⟩
    | true =>
      rw [hd] at HE
      have HN := Lib.hid (raise_yes HE.out)
      have HP := Lib.hid (fun V => part_any u.m 1 2 V ⟨by omega, by omega⟩)
      have hP := part_half (m := u.m) (by omega) hm1
      rw [hP] at HP
      clear hP
      have hk : 0 ≤ u.m / 2 ∧ u.m / 2 ≤ 1000000 := by omega
      generalize u.m / 2 = k at *
      obtain ⟨hk0, hk1⟩ := hk
      have HM : Hid (hiI 1 k = max 1 k) := Lib.hid (by unfold hiI; split <;> omega)
      have hr : 1 ≤ max 1 k ∧ max 1 k ≤ 1000000 := by omega
      generalize max 1 k = r at *
      obtain ⟨hr0, hr1⟩ := hr
      have HX4 : Hid (Bx (w2.setCell ⟨w.heap.size, 3, none⟩ (.int .i64 r)) w.heap.size { u with h := r }) := Lib.hid (HX2.out.set3 _)
      have HY4 : Hid (Bx (w2.setCell ⟨w.heap.size, 3, none⟩ (.int .i64 r)) (w.heap.size + 1) zU) := Lib.hid (HY2.out.other (by omega) _ _)
      have HR5 : Hid (Bx (putU (w2.setCell ⟨w.heap.size, 3, none⟩ (.int .i64 r)) (w.heap.size + 1) { u with h := r }) (w.heap.size + 1) { u with h := r }) := Lib.hid (HY4.out.put _)
      have HS5 : Hid (Below w.heap.size w (putU (w2.setCell ⟨w.heap.size, 3, none⟩ (.int .i64 r)) (w.heap.size + 1) { u with h := r })) := Lib.hid (below_put (HB2.out.setCell (p := ⟨w.heap.size, 3, none⟩) (Nat.le_refl _) _) (by omega) _)
      go_wp2_with (first
        | ((with_reducible refine (HP.out _).mono ?_); rintro e w3 ⟨rfl, rfl⟩)
        | (with_reducible refine wpList_max rfl (.const (.int .i64 1)) (.tmp 15) 1 k r rfl (by simp [Act.eval]) (by simp [Act.eval]) HM.out ?_))
      obtain ⟨q0, q1, q2, q3, q4, q5, q6, q7, q8, q9⟩ := HR5.out.at
      refine bodyPost_ret (by simp [results, Try.results20, go_sem, q0, q1, q2, q3, q4, q5, q6, q7, q8, q9]; try rfl) rfl ?_
      exact ⟨ret_unitB HN.out.symm HE.out.symm, HS5.out⟩
end Go.Proofs.Ytegpbdffddpmhaa.Con
