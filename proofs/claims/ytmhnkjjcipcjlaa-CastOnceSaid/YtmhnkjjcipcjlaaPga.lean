/-
  Contracts of the program's there, wait, rightCast, Right, Free, Done and busy: for every Casting; only new memory is made.
-/
import Derived.Test.YtmhnkjjcipcjlaaCgb
namespace Go.Proofs.Ytmhnkjjcipcjlaa.Con
open Go.RowKit Go.Maps
set_option linter.unusedVariables false

/-- One that is there and may be so. -/
def rcB (c : Ca) : Bool := decide (1 ≤ c.ability) && decide (c.since ≤ c.untl)
theorem rc_iff (c : Ca) : rcB c = true ↔ c.ability ≠ 0 ∧ OneC c := by
  unfold rcB OneC
  simp only [Bool.and_eq_true, decide_eq_true_eq]
  constructor
  · rintro ⟨h1, h2⟩
    exact ⟨by omega, fun h => by omega, fun _ => ⟨h1, h2⟩⟩
  · rintro ⟨h1, _, h2⟩
    exact h2 h1
def rgB (s : Cg) : Bool := if s.next = zCa then decide (s.now = zCa) || rcB s.now else rcB s.now && rcB s.next && decide (s.next.since = s.now.untl)
theorem rg_iff (s : Cg) : rgB s = true ↔ RtG s := by
  unfold rgB RtG
  by_cases h : s.next = zCa
  · rw [if_pos h]
    simp only [Bool.or_eq_true, decide_eq_true_eq, rc_iff, h]
    constructor
    · rintro (k | k)
      · rw [k]; exact ⟨one_z, one_z, fun h => absurd rfl h⟩
      · exact ⟨k.2, one_z, fun h => absurd rfl h⟩
    · rintro ⟨k, _, _⟩
      by_cases e : s.now.ability = 0
      · exact .inl (k.1 e)
      · exact .inr ⟨e, k⟩
  · rw [if_neg h]
    simp only [Bool.and_eq_true, decide_eq_true_eq, rc_iff]
    constructor
    · rintro ⟨⟨k1, k2⟩, k3⟩
      exact ⟨k1.2, k2.2, fun _ => ⟨k1.1, k3⟩⟩
    · rintro ⟨k1, k2, k3⟩
      have e : s.next.ability ≠ 0 := fun g => h (k2.1 g)
      exact ⟨⟨⟨(k3 e).1, k1⟩, e, k2⟩, (k3 e).2⟩
set_option maxRecDepth 20000 in
theorem pthere_any (c : Ca) (w : World) : Calls Try.prog 14 #[cav c] w fun e w' => e = .returned (.bool (!decide (c.ability = 0))) ∧ Below w.heap.size w w' := by
  have HB0 := Lib.hid (below_box w (oCa c))
  obtain ⟨z0, z1, z2, z3⟩ := (Cx.new w c).at
  go_enter Try.func14, Try.ntmps14
  go_wp2
  go_ret
  exact ⟨by first | rfl | simp, HB0.out⟩
set_option maxRecDepth 20000 in
theorem pwait_any (c : Ca) (fc : Fits c.since) (w : World) : Calls Try.prog 16 #[cav c] w fun e w' => e = .returned (.int .i64 (held (c.since + 3))) ∧ Below w.heap.size w w' := by
  have HB0 := Lib.hid (below_box w (oCa c))
  have HA := Lib.hid (fun V => add_any c.since 3 V fc ⟨by omega, by omega⟩)
  clear fc
  obtain ⟨z0, z1, z2, z3⟩ := (Cx.new w c).at
  go_enter Try.func16, Try.ntmps16
  go_wp2_with (first | ((with_reducible refine (HA.out _).mono ?_); rintro e w1 ⟨rfl, rfl⟩) | fail)
  go_ret
  exact ⟨by first | rfl | simp, HB0.out⟩
set_option maxRecDepth 20000 in
theorem prc_any (c : Ca) (w : World) : Calls Try.prog 17 #[cav c] w fun e w' => e = .returned (.bool (rcB c)) ∧ Below w.heap.size w w' := by
  have HB0 := Lib.hid (below_box w (oCa c))
  have HO : Hid (rcB c = (decide (1 ≤ c.ability) && decide (c.since ≤ c.untl))) := Lib.hid rfl
  generalize rcB c = rb at HO ⊢
  obtain ⟨z0, z1, z2, z3⟩ := (Cx.new w c).at
  by_cases h1 : 1 ≤ c.ability
  · have h1' : decide (1 ≤ c.ability) = true := by simpa using h1
    go_enter Try.func17, Try.ntmps17
    go_wp2
    go_ret
    exact ⟨ret_bool (by rw [HO.out]; simp_all), HB0.out⟩
  · have h1' : decide (1 ≤ c.ability) = false := by simpa using h1
    go_enter Try.func17, Try.ntmps17
    go_wp2
    go_ret
    exact ⟨ret_bool (by rw [HO.out]; first | done | rw [h1', Bool.false_and]), HB0.out⟩
set_option maxRecDepth 20000 in
set_option maxHeartbeats 2000000 in
theorem pfree_any (s : Cg) (t : Int) (w : World) : Calls Try.prog 7 #[cgv s, .int .i64 t] w fun e w' => e = .returned (.bool (decide (s.now.ability = 0) && decide (s.wait ≤ t))) ∧ Below w.heap.size w w' := by
  have HB0 := Lib.hid (below_box w (oCg s))
  have HX0 := Lib.hid (Gx.new w s)
  have HT := Lib.hid (fun (c : Ca) V => pthere_any c V)
  obtain ⟨z0, z1, z2, z3, z4, z5, z6, z7, z8⟩ := HX0.out.at
  go_enter Try.func7, Try.ntmps7
  go_wp2_with (fail)
  generalize w.alloc (oCg s) = w0 at *
  (with_reducible refine (HT.out s.now _).mono ?_); rintro e w1 ⟨rfl, hB1⟩
  have HX1 := Lib.hid (HX0.out.of hB1 HX0.out.lt)
  have HB1 := Lib.hid (below_step HB0.out hB1)
  clear hB1 z0 z1 z2 z3 z4 z5 z6 z7 z8
  obtain ⟨z0, z1, z2, z3, z4, z5, z6, z7, z8⟩ := HX1.out.at
  by_cases h0 : s.now.ability = 0
  · have h0' : decide (s.now.ability = 0) = true := by simpa using h0
    rw [h0']
    go_wp2
    go_ret
    exact ⟨ret_bool (by simp [h0]), HB1.out⟩
  · have h0' : decide (s.now.ability = 0) = false := by simpa using h0
    rw [h0']
    go_wp2
    go_ret
    exact ⟨ret_bool (by simp [h0]), HB1.out⟩
set_option maxRecDepth 20000 in
set_option maxHeartbeats 2000000 in
theorem pdone_any (s : Cg) (w : World) : Calls Try.prog 11 #[cgv s] w fun e w' => e = .returned (.int .i64 (dnG s)) ∧ Below w.heap.size w w' := by
  have HB0 := Lib.hid (below_box w (oCg s))
  have HX0 := Lib.hid (Gx.new w s)
  have HT := Lib.hid (fun (c : Ca) V => pthere_any c V)
  have HD : Hid (dnG s = if s.next.ability = 0 then (if s.now.ability = 0 then s.wait else s.now.untl) else s.next.untl) := Lib.hid rfl
  generalize dnG s = dn at HD ⊢
  obtain ⟨z0, z1, z2, z3, z4, z5, z6, z7, z8⟩ := HX0.out.at
  go_enter Try.func11, Try.ntmps11
  go_wp2_with (fail)
  generalize w.alloc (oCg s) = w0 at *
  (with_reducible refine (HT.out s.next _).mono ?_); rintro e w1 ⟨rfl, hB1⟩
  have HX1 := Lib.hid (HX0.out.of hB1 HX0.out.lt)
  have HB1 := Lib.hid (below_step HB0.out hB1)
  clear hB1 z0 z1 z2 z3 z4 z5 z6 z7 z8
  obtain ⟨z0, z1, z2, z3, z4, z5, z6, z7, z8⟩ := HX1.out.at
  by_cases h0 : s.next.ability = 0
  · have h0' : decide (s.next.ability = 0) = true := by simpa using h0
    rw [if_pos h0] at HD
    go_wp2_with (fail)
    (with_reducible refine (HT.out s.now _).mono ?_); rintro e w2 ⟨rfl, hB2⟩
    have HX2 := Lib.hid (HX1.out.of hB2 HX1.out.lt)
    have HB2 := Lib.hid (below_step HB1.out hB2)
    clear hB2 z0 z1 z2 z3 z4 z5 z6 z7 z8
    obtain ⟨z0, z1, z2, z3, z4, z5, z6, z7, z8⟩ := HX2.out.at
    by_cases h1 : s.now.ability = 0
    · have h1' : decide (s.now.ability = 0) = true := by simpa using h1
      rw [if_pos h1] at HD
      go_wp2
      go_ret
      exact ⟨by rw [HD.out]; rfl, HB2.out⟩
    · have h1' : decide (s.now.ability = 0) = false := by simpa using h1
      rw [if_neg h1] at HD
      go_wp2
      go_ret
      exact ⟨by rw [HD.out]; rfl, HB2.out⟩
  · have h0' : decide (s.next.ability = 0) = false := by simpa using h0
    rw [if_neg h0] at HD
    go_wp2
    go_ret
    exact ⟨by rw [HD.out]; rfl, HB1.out⟩
/-- Too early, or too late. -/
def bsyB (s : Cg) (t : Int) : Bool := if s.now.ability = 0 then decide (held (t + 2) < s.wait) else !decide (s.next.ability = 0) || decide (held (t + 2) < s.now.untl) || decide (s.now.untl < s.wait)
set_option maxRecDepth 20000 in
set_option maxHeartbeats 2000000 in
theorem pbusy_any (s : Cg) (t : Int) (ft : Fits t) (w : World) : Calls Try.prog 13 #[cgv s, .int .i64 t] w fun e w' => e = .returned (.bool (bsyB s t)) ∧ Below w.heap.size w w' := by
  have HB0 := Lib.hid (below_box w (oCg s))
  have HX0 := Lib.hid (Gx.new w s)
  have HT := Lib.hid (fun (c : Ca) V => pthere_any c V)
  have HA := Lib.hid (fun V => add_any t 2 V ft ⟨by omega, by omega⟩)
  clear ft
  have HD : Hid (bsyB s t = if s.now.ability = 0 then decide (held (t + 2) < s.wait) else !decide (s.next.ability = 0) || decide (held (t + 2) < s.now.untl) || decide (s.now.untl < s.wait)) := Lib.hid rfl
  generalize bsyB s t = bb at HD ⊢
  obtain ⟨z0, z1, z2, z3, z4, z5, z6, z7, z8⟩ := HX0.out.at
  go_enter Try.func13, Try.ntmps13
  go_wp2_with (first | ((with_reducible refine (HA.out _).mono ?_); rintro e w1 ⟨rfl, rfl⟩) | fail)
  generalize w.alloc (oCg s) = w0 at *
  generalize held (t + 2) = soon at HD ⊢
  (with_reducible refine (HT.out s.now _).mono ?_); rintro e w1 ⟨rfl, hB1⟩
  have HX1 := Lib.hid (HX0.out.of hB1 HX0.out.lt)
  have HB1 := Lib.hid (below_step HB0.out hB1)
  clear hB1 z0 z1 z2 z3 z4 z5 z6 z7 z8
  obtain ⟨z0, z1, z2, z3, z4, z5, z6, z7, z8⟩ := HX1.out.at
  by_cases h0 : s.now.ability = 0
  · have h0' : decide (s.now.ability = 0) = true := by simpa using h0
    rw [if_pos h0] at HD
    go_wp2
    go_ret
    exact ⟨ret_bool (by rw [HD.out]), HB1.out⟩
  · have h0' : decide (s.now.ability = 0) = false := by simpa using h0
    rw [if_neg h0] at HD
    go_wp2_with (fail)
    (with_reducible refine (HT.out s.next _).mono ?_); rintro e w2 ⟨rfl, hB2⟩
    have HX2 := Lib.hid (HX1.out.of hB2 HX1.out.lt)
    have HB2 := Lib.hid (below_step HB1.out hB2)
    clear hB2 z0 z1 z2 z3 z4 z5 z6 z7 z8
    obtain ⟨z0, z1, z2, z3, z4, z5, z6, z7, z8⟩ := HX2.out.at
    cases h1 : decide (s.next.ability = 0) with
    | false =>
      rw [h1] at HD
      go_wp2
      go_ret
      exact ⟨ret_bool (by rw [HD.out]; rfl), HB2.out⟩
    | true =>
      rw [h1] at HD
      cases h2 : decide (soon < s.now.untl) with
      | true =>
        rw [h2] at HD
        go_wp2
        go_ret
        exact ⟨ret_bool (by rw [HD.out]; rfl), HB2.out⟩
      | false =>
        rw [h2] at HD
        go_wp2
        go_ret
        exact ⟨ret_bool (by rw [HD.out]; try rfl), HB2.out⟩
set_option maxRecDepth 20000 in
set_option maxHeartbeats 4000000 in
theorem pright_any (s : Cg) (w : World) : Calls Try.prog 10 #[cgv s] w fun e w' => e = .returned (.bool (rgB s)) ∧ Below w.heap.size w w' := by
  have HB0 : Hid (Below w.heap.size w ((w.alloc (oCg s)).alloc (oCa zCa))) := Lib.hid ((below_box w (oCg s)).alloc (by simp) _)
  have HX0 : Hid (Gx ((w.alloc (oCg s)).alloc (oCa zCa)) w.heap.size s) := Lib.hid ((Gx.new w s).alloc _)
  have HY0 : Hid (Cx ((w.alloc (oCg s)).alloc (oCa zCa)) (w.heap.size + 1) zCa) := Lib.hid (by have := Cx.new (w.alloc (oCg s)) zCa; simpa using this)
  have HT := Lib.hid (fun (c : Ca) V => prc_any c V)
  have HD : Hid (rgB s = if s.next = zCa then decide (s.now = zCa) || rcB s.now else rcB s.now && rcB s.next && decide (s.next.since = s.now.untl)) := Lib.hid rfl
  generalize rgB s = rb at HD ⊢
  obtain ⟨z0, z1, z2, z3, z4, z5, z6, z7, z8⟩ := HX0.out.at
  have y0 := HY0.out.at.1
  have y1 := HY0.out.at.2.1
  have y2 := HY0.out.at.2.2.1
  have y3 := HY0.out.at.2.2.2
  have E1 : ∀ V, (binOp .eql 25 (cav s.next) (.agg #[.int .i64 0, .int .i64 0, .int .i64 0, .int .i64 0])).run Try.prog V = .ok (.bool (decide (s.next = zCa))) V := fun V => eql_ca s.next zCa V
  have E2 : ∀ V, (binOp .eql 25 (cav s.now) (.agg #[.int .i64 0, .int .i64 0, .int .i64 0, .int .i64 0])).run Try.prog V = .ok (.bool (decide (s.now = zCa))) V := fun V => eql_ca s.now zCa V
  go_enter Try.func10, Try.ntmps10
  by_cases h0 : s.next = zCa
  · have h0' : decide (s.next = zCa) = true := by simpa using h0
    rw [if_pos h0] at HD
    rw [h0'] at E1
    have HH := Lib.hid h0
    clear h0
    by_cases h1 : s.now = zCa
    · have h1' : decide (s.now = zCa) = true := by simpa using h1
      rw [h1'] at HD E2
      have HG := Lib.hid h1
      clear h1
      go_wp2
      go_ret
      exact ⟨ret_bool (by rw [HD.out]; rfl), HB0.out⟩
    · have h1' : decide (s.now = zCa) = false := by simpa using h1
      rw [h1'] at HD E2
      clear h1
      go_wp2_with (fail)
      (with_reducible refine (HT.out s.now _).mono ?_); rintro e w1 ⟨rfl, hB1⟩
      have HB1 := Lib.hid (below_step HB0.out hB1)
      clear hB1 z0 z1 z2 z3 z4 z5 z6 z7 z8
      go_wp2
      go_ret
      exact ⟨ret_bool (by rw [HD.out]; rfl), HB1.out⟩
  · have h0' : decide (s.next = zCa) = false := by simpa using h0
    rw [if_neg h0] at HD
    rw [h0'] at E1
    clear h0
    go_wp2_with (fail)
    (with_reducible refine (HT.out s.now _).mono ?_); rintro e w1 ⟨rfl, hB1⟩
    have HX1 := Lib.hid (HX0.out.of hB1 HX0.out.lt)
    have HB1 := Lib.hid (below_step HB0.out hB1)
    clear hB1 z0 z1 z2 z3 z4 z5 z6 z7 z8 y0 y1 y2 y3
    obtain ⟨z0, z1, z2, z3, z4, z5, z6, z7, z8⟩ := HX1.out.at
    cases h2 : rcB s.now with
    | false =>
      rw [h2] at HD
      go_wp2
      go_ret
      exact ⟨ret_bool (by rw [HD.out]; rfl), HB1.out⟩
    | true =>
      rw [h2] at HD
      go_wp2_with (fail)
      (with_reducible refine (HT.out s.next _).mono ?_); rintro e w2 ⟨rfl, hB2⟩
      have HX2 := Lib.hid (HX1.out.of hB2 HX1.out.lt)
      have HB2 := Lib.hid (below_step HB1.out hB2)
      clear hB2 z0 z1 z2 z3 z4 z5 z6 z7 z8
      obtain ⟨z0, z1, z2, z3, z4, z5, z6, z7, z8⟩ := HX2.out.at
      cases h3 : rcB s.next with
      | false =>
        rw [h3] at HD
        go_wp2
        go_ret
        exact ⟨ret_bool (by rw [HD.out]; rfl), HB2.out⟩
      | true =>
        rw [h3] at HD
        go_wp2
        go_ret
        exact ⟨ret_bool (by rw [HD.out]; simp; rfl), HB2.out⟩
end Go.Proofs.Ytmhnkjjcipcjlaa.Con
