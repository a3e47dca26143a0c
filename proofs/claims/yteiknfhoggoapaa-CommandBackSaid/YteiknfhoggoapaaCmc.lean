/-
  Contracts of the program's Right and the document's.
-/
import Derived.Test.YteiknfhoggoapaaCmb
namespace Go.Proofs.Yteiknfhoggoapaa.Con
open Go.RowKit Pm Mth
set_option linter.unusedVariables false

theorem cellOf' {w : World} {b : Nat} {cs : Array Value} {t : TypeId} {z : Nat × Nat} (h : w.heap[b]? = some (.cells cs t z)) (o : Nat) : w.cell? ⟨b, o, none⟩ = cs[o]? := by simp [World.cell?, h]
theorem lt_of_block {w : World} {b : Nat} {x : Obj} (h : w.heap[b]? = some x) : b < w.heap.size := (Array.getElem?_eq_some_iff.1 h).1
theorem frozOf' {w : World} {b : Nat} {cs : Array Value} {t : TypeId} (h : w.heap[b]? = some (.cells cs t (0, 0))) (o : Nat) : w.frozen? ⟨b, o, none⟩ = false := by simp [World.frozen?, h]
theorem size_setCells (b : Nat) : ∀ (vs : List Value) (o : Nat) (w : World), (w.setCells b o vs).heap.size = w.heap.size
  | [], _, _ => rfl
  | v :: r, o, w => by rw [World.setCells, size_setCells b r]; simp
theorem below_setCells (b : Nat) {B : Nat} {a : World} (hB : B ≤ b) : ∀ (vs : List Value) (o : Nat) (w : World), Below B a w → Below B a (w.setCells b o vs)
  | [], _, _, h => h
  | v :: r, o, _, h => below_setCells b hB r (o + 1) _ (h.setCell (p := ⟨b, o, none⟩) hB v)
/-- A command's box stands in w. -/
def Bx (w : World) (b : Nat) (c : Cm) : Prop := w.heap[b]? = some (oC c)
theorem Bx.of {w w' : World} {b B : Nat} {c : Cm} (h : Bx w b c) (hb : Below B w w') (hB : b < B) : Bx w' b c := (hb.block b hB).trans h
theorem Bx.at {w : World} {b : Nat} {c : Cm} (h : Bx w b c) : w.cell? ⟨b, 0, none⟩ = some (.int .i64 c.d) ∧ w.cell? ⟨b, 1, none⟩ = some (.string (strOfNums c.t)) ∧ w.cell? ⟨b, 2, none⟩ = some (.int .i64 c.a) ∧ w.cell? ⟨b, 3, none⟩ = some (.int .i64 c.b) :=
  ⟨cellOf' h 0, cellOf' h 1, cellOf' h 2, cellOf' h 3⟩

theorem emp_is (l : List Int) : (strOfNums l).toList.isEmpty = decide (l = []) := by
  rw [ByteArray.toList_eq, strOfNums_data]
  cases l <;> simp
theorem right_tw {c : Cm} (h : inB c.d = true) (h2 : twoB c.d = true) : rtB c = decide (c.t = []) := by
  simp only [inB, Bool.and_eq_true, decide_eq_true_eq] at h
  simp [rtB, h2, h.1, h.2, two_one h2]
theorem right_no {c : Cm} (h : inB c.d = false) : rtB c = false := by
  simp only [inB] at h
  simp [rtB, h]
theorem right_ab {c : Cm} (h2 : twoB c.d = false) (h3 : ¬ (c.a = 0 ∧ c.b = 0)) : rtB c = false := by
  have : (decide (c.a = 0) && decide (c.b = 0)) = false := by simpa using h3
  simp [rtB, h2, this]
theorem right_one {c : Cm} (h : c.d = 1) (ha : c.a = 0) (hb : c.b = 0) : rtB c = namB c.t := by
  simp [rtB, h, ha, hb]
theorem right_else {c : Cm} (h : inB c.d = true) (h1 : c.d ≠ 1) (ha : c.a = 0) (hb : c.b = 0) : rtB c = decide (c.t = []) := by
  simp only [inB, Bool.and_eq_true, decide_eq_true_eq] at h
  simp [rtB, h1, ha, hb, h.1, h.2]
set_option maxRecDepth 20000 in
set_option maxHeartbeats 1000000 in
theorem right_any (c : Cm) (hf : FC c) (hl : (c.t.length : Int) ≤ 10000000) (w : World) :
    Calls Try.prog 9 #[cv c] w fun e w' => e = .returned (.bool (rtB c)) ∧ Below w.heap.size w w' := by
  obtain ⟨d, t, a, b⟩ := c
  obtain ⟨⟨hd0, hd1⟩, ht, ⟨ha0, ha1⟩, ⟨hb0, hb1⟩⟩ := hf
  simp only at hd0 hd1 ht ha0 ha1 hb0 hb1 hl
  have HT := Lib.hid ht; clear ht
  have HP := Lib.hid (parts_any d · hd0 hd1)
  have HNm := Lib.hid (name_any t HT.out hl)
  have HB0 : Hid (Below w.heap.size w (w.alloc (oC ⟨d, t, a, b⟩))) := Lib.hid (by go_grown)
  have HX0 : Hid (Bx (w.alloc (oC ⟨d, t, a, b⟩)) w.heap.size ⟨d, t, a, b⟩) := Lib.hid (heap_alloc_new w _)
  have hsz : (w.alloc (oC ⟨d, t, a, b⟩)).heap.size = w.heap.size + 1 := by simp
  go_enter Try.func9, Try.ntmps9
  go_wp2_with (fail)
  generalize w.alloc (oC ⟨d, t, a, b⟩) = w0 at *
  have HSz := Lib.hid hsz; clear hsz
  (with_reducible refine (HP.out _).mono ?_); rintro e w1 ⟨rfl, hB1⟩
  have HX1 : Hid (Bx w1 w.heap.size ⟨d, t, a, b⟩) := Lib.hid (HX0.out.of hB1 (by have := HSz.out; omega))
  have HV1 : Hid (Below w.heap.size w (w1.alloc (.cells #[.bool (decide (d = 1)), .bool (twoB d)] 37))) := Lib.hid (HB0.out.trans ((hB1.alloc hB1.size _).mono (by have := HSz.out; omega)))
  have hlt : w.heap.size < w1.heap.size := by have := HSz.out; have := hB1.size; omega
  obtain ⟨z0, z1, z2, z3⟩ := HX1.out.at
  simp only at z0 z1 z2 z3
  clear hB1
  cases hi : inB d with
  | false =>
    have HR := Lib.hid (right_no (c := ⟨d, t, a, b⟩) hi)
    clear hi
    go_wp2
    go_ret
    exact ⟨Pk.ret_bool HR.out.symm, HV1.out⟩
  | true =>
    cases h2 : twoB d with
    | true =>
      have HR := Lib.hid (right_tw (c := ⟨d, t, a, b⟩) hi h2)
      have hd1 : decide (d = 1) = false := by simpa using two_one h2
      rw [hd1] at HV1 ⊢
      rw [h2] at HV1
      clear hi h2
      go_wp2
      go_ret
      exact ⟨Pk.ret_bool ((emp_is t).trans HR.out.symm), HV1.out⟩
    | false =>
      rw [h2] at HV1
      by_cases hab : a = 0 ∧ b = 0
      · obtain ⟨rfl, rfl⟩ := hab
        by_cases h1 : d = 1
        · have HR := Lib.hid (right_one (c := ⟨d, t, 0, 0⟩) h1 rfl rfl)
          have hd1 : decide (d = 1) = true := by simpa using h1
          rw [hd1] at HV1 ⊢
          clear hi h2 h1
          go_wp2_with ((with_reducible refine (HNm.out _).mono ?_); rintro e w3 ⟨rfl, rfl⟩)
          go_ret
          exact ⟨Pk.ret_bool HR.out.symm, HV1.out⟩
        · have HR := Lib.hid (right_else (c := ⟨d, t, 0, 0⟩) hi h1 rfl rfl)
          have hd1 : decide (d = 1) = false := by simpa using h1
          rw [hd1] at HV1 ⊢
          clear hi h2 h1
          go_wp2
          go_ret
          exact ⟨Pk.ret_bool ((emp_is t).trans HR.out.symm), HV1.out⟩
      · have HR := Lib.hid (right_ab (c := ⟨d, t, a, b⟩) h2 hab)
        clear hi h2
        by_cases ha : a = 0
        · have ha' : (a != 0) = false := by simpa using ha
          have hb' : (b != 0) = true := by
            have : b ≠ 0 := fun e => hab ⟨ha, e⟩
            simpa using this
          clear ha hab
          go_wp2
          go_ret
          exact ⟨Pk.ret_bool HR.out.symm, HV1.out⟩
        · have ha' : (a != 0) = true := by simpa using ha
          clear ha hab
          go_wp2
          go_ret
          exact ⟨Pk.ret_bool HR.out.symm, HV1.out⟩
set_option maxRecDepth 20000 in
set_option maxHeartbeats 1000000 in
theorem rright_any (c : Cm) (hf : FC c) (hl : (c.t.length : Int) ≤ 10000000) (w : World) :
    Calls Try.prog 10 #[cv c] w fun e w' => e = .returned (.bool (rtB c)) ∧ Below w.heap.size w w' := by
  obtain ⟨d, t, a, b⟩ := c
  obtain ⟨⟨hd0, hd1⟩, ht, ⟨ha0, ha1⟩, ⟨hb0, hb1⟩⟩ := hf
  simp only at hd0 hd1 ht ha0 ha1 hb0 hb1 hl
  have HT := Lib.hid ht; clear ht
  have HP := Lib.hid (two_any d · hd0 hd1)
  have HNm := Lib.hid (rname_any t HT.out hl)
  have HB0 : Hid (Below w.heap.size w (w.alloc (oC ⟨d, t, a, b⟩))) := Lib.hid (by go_grown)
  have HX0 : Hid (Bx (w.alloc (oC ⟨d, t, a, b⟩)) w.heap.size ⟨d, t, a, b⟩) := Lib.hid (heap_alloc_new w _)
  obtain ⟨z0, z1, z2, z3⟩ := HX0.out.at
  simp only at z0 z1 z2 z3
  by_cases hlo : d < 1
  · have HR := Lib.hid (right_no (c := ⟨d, t, a, b⟩) (by simp [inB]; omega))
    go_enter Try.func10, Try.ntmps10
    go_wp2
    go_ret
    exact ⟨Pk.ret_bool HR.out.symm, HB0.out⟩
  have hlo' : decide (d < 1) = false := by simpa using hlo
  by_cases hhi : 7 < d
  · have HR := Lib.hid (right_no (c := ⟨d, t, a, b⟩) (by simp [inB]; omega))
    go_enter Try.func10, Try.ntmps10
    go_wp2
    go_ret
    exact ⟨Pk.ret_bool HR.out.symm, HB0.out⟩
  have hhi' : decide (7 < d) = false := by simpa using hhi
  have hi : inB d = true := by simp [inB]; omega
  cases h2 : twoB d with
  | true =>
    have HR := Lib.hid (right_tw (c := ⟨d, t, a, b⟩) hi h2)
    have hd1' : (d == 1) = false := by simpa using two_one h2
    rw [h2] at HP
    clear hi h2 hlo hhi
    go_enter Try.func10, Try.ntmps10
    go_wp2_with ((with_reducible refine (HP.out _).mono ?_); rintro e w3 ⟨rfl, rfl⟩)
    go_ret
    exact ⟨Pk.ret_bool ((emp_is t).trans HR.out.symm), HB0.out⟩
  | false =>
    rw [h2] at HP
    by_cases hab : a = 0 ∧ b = 0
    · obtain ⟨rfl, rfl⟩ := hab
      by_cases h1 : d = 1
      · have HR := Lib.hid (right_one (c := ⟨d, t, 0, 0⟩) h1 rfl rfl)
        have hd1' : (d == 1) = true := by simpa using h1
        clear hi h2 hlo hhi h1
        go_enter Try.func10, Try.ntmps10
        go_wp2_with (first
          | ((with_reducible refine (HP.out _).mono ?_); rintro e w3 ⟨rfl, rfl⟩)
          | ((with_reducible refine (HNm.out _).mono ?_); rintro e w3 ⟨rfl, rfl⟩))
        go_ret
        exact ⟨Pk.ret_bool HR.out.symm, HB0.out⟩
      · have HR := Lib.hid (right_else (c := ⟨d, t, 0, 0⟩) hi h1 rfl rfl)
        have hd1' : (d == 1) = false := by simpa using h1
        clear hi h2 hlo hhi h1
        go_enter Try.func10, Try.ntmps10
        go_wp2_with ((with_reducible refine (HP.out _).mono ?_); rintro e w3 ⟨rfl, rfl⟩)
        go_ret
        exact ⟨Pk.ret_bool ((emp_is t).trans HR.out.symm), HB0.out⟩
    · have HR := Lib.hid (right_ab (c := ⟨d, t, a, b⟩) h2 hab)
      clear hi h2 hlo hhi
      by_cases ha : a = 0
      · have ha' : (a != 0) = false := by simpa using ha
        have hb' : (b != 0) = true := by
          have : b ≠ 0 := fun e => hab ⟨ha, e⟩
          simpa using this
        clear ha hab
        go_enter Try.func10, Try.ntmps10
        go_wp2_with ((with_reducible refine (HP.out _).mono ?_); rintro e w3 ⟨rfl, rfl⟩)
        go_ret
        exact ⟨Pk.ret_bool HR.out.symm, HB0.out⟩
      · have ha' : (a != 0) = true := by simpa using ha
        clear ha hab
        go_enter Try.func10, Try.ntmps10
        go_wp2_with ((with_reducible refine (HP.out _).mono ?_); rintro e w3 ⟨rfl, rfl⟩)
        go_ret
        exact ⟨Pk.ret_bool HR.out.symm, HB0.out⟩
end Go.Proofs.Yteiknfhoggoapaa.Con
