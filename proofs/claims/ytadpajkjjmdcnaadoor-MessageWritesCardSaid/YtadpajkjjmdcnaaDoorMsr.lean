/-
  Contracts of Right, the program's and the document's.
-/
import Derived.Test.YtadpajkjjmdcnaaDoorMso
namespace Go.Proofs.YtadpajkjjmdcnaaDoor.Con
open Go.RowKit Pm Mth
set_option linter.unusedVariables false

theorem right_out {m : Ms} (h : isD m.d = false) : rtM m = false := by simp [rtM, h]
theorem right_len {m : Ms} (h : m.l.length ≠ szN m.d) : rtM m = false := by simp [rtM, h]
theorem right_tx {m : Ms} (h : isD m.d = true) (h2 : m.l.length = szN m.d) : rtM m = txB m.d m.t := by simp [rtM, h, h2]
set_option maxRecDepth 20000 in
set_option maxHeartbeats 1000000 in
theorem right_any (m : Ms) (A : Option Addr) (c : Nat) (hf : FM m) (hn : (m.l.length : Int) ≤ 10000000) (hl : (m.t.length : Int) ≤ 10000000) (w : World) (hS : Sz w) :
    Calls Tryd.prog 12 #[mv m A c] w fun e w' => e = .returned (.bool (rtM m)) ∧ Below w.heap.size w w' := by
  obtain ⟨d, l, t⟩ := m
  obtain ⟨⟨hd0, hd1⟩, _, ht⟩ := hf
  simp only at hd0 hd1 ht hn hl
  have HT := Lib.hid ht; clear ht
  have HB0 : Hid (Below w.heap.size w (w.alloc (oM ⟨d, l, t⟩ A c))) := Lib.hid (by go_grown)
  have HX0 : Hid (Bx (w.alloc (oM ⟨d, l, t⟩ A c)) w.heap.size ⟨d, l, t⟩ A c) := Lib.hid (heap_alloc_new w _)
  have HS0 : Hid (Sz (w.alloc (oM ⟨d, l, t⟩ A c))) := Lib.hid (hS.keep HB0.out hS.pos)
  have HP := Lib.hid (size_any d _ HS0.out hd0 hd1)
  have HM := Lib.hid (fun V => may_any d t V hd0 hd1 HT.out hl)
  obtain ⟨z0, z1, z2⟩ := HX0.out.at
  simp only at z0 z1 z2
  cases hi : isD d with
  | false =>
    have HR := Lib.hid (right_out (m := ⟨d, l, t⟩) hi)
    rw [hi] at HP
    clear hi hS
    go_enter Tryd.func12, Tryd.ntmps12
    go_wp2_with ((with_reducible refine HP.out.mono ?_); rintro e w3 ⟨rfl, rfl⟩)
    go_ret
    exact ⟨Pk.ret_bool HR.out.symm, HB0.out⟩
  | true =>
    rw [hi] at HP
    by_cases hL : l.length = szN d
    · have HR := Lib.hid (right_tx (m := ⟨d, l, t⟩) hi hL)
      have hL' : ((l.length : Int) == (szN d : Int)) = true := by simp [hL]
      have hL2 : (l.length == szN d) = true := by simpa using hL
      clear hi hL hS
      go_enter Tryd.func12, Tryd.ntmps12
      go_wp2_with (first
        | ((with_reducible refine HP.out.mono ?_); rintro e w3 ⟨rfl, rfl⟩)
        | ((with_reducible refine (HM.out _).mono ?_); rintro e w3 ⟨rfl, rfl⟩))
      go_ret
      exact ⟨Pk.ret_bool HR.out.symm, HB0.out⟩
    · have HR := Lib.hid (right_len (m := ⟨d, l, t⟩) hL)
      have hL' : ((l.length : Int) == (szN d : Int)) = false := by simp; omega
      have hL2 : (l.length == szN d) = false := by simpa using hL
      clear hi hL hS
      go_enter Tryd.func12, Tryd.ntmps12
      go_wp2_with ((with_reducible refine HP.out.mono ?_); rintro e w3 ⟨rfl, rfl⟩)
      go_ret
      exact ⟨Pk.ret_bool HR.out.symm, HB0.out⟩
theorem right_em {m : Ms} (h : isD m.d = true) (h2 : m.l.length = szN m.d) (h3 : m.t = []) : rtM m = true := by simp [rtM, h, h2, txB, h3]
theorem right_four {m : Ms} (h : isD m.d = true) (h2 : m.l.length = szN m.d) (h3 : m.t ≠ []) (h4 : m.d = 4) : rtM m = namB m.t := by simp [rtM, h2, txB, h3, h4]; simp [isD]
theorem right_non {m : Ms} (h3 : m.t ≠ []) (h4 : m.d ≠ 4) : rtM m = false := by simp [rtM, txB, h3, h4]
set_option maxRecDepth 20000 in
set_option maxHeartbeats 1000000 in
theorem rright_any (m : Ms) (A : Option Addr) (c : Nat) (hf : FM m) (hn : (m.l.length : Int) ≤ 10000000) (hl : (m.t.length : Int) ≤ 10000000) (w : World) :
    Calls Tryd.prog 13 #[mv m A c] w fun e w' => e = .returned (.bool (rtM m)) ∧ Below w.heap.size w w' := by
  obtain ⟨d, l, t⟩ := m
  obtain ⟨⟨hd0, hd1⟩, _, ht⟩ := hf
  simp only at hd0 hd1 ht hn hl
  have HT := Lib.hid ht; clear ht
  have HB0 : Hid (Below w.heap.size w (w.alloc (oM ⟨d, l, t⟩ A c))) := Lib.hid (by go_grown)
  have HX0 : Hid (Bx (w.alloc (oM ⟨d, l, t⟩ A c)) w.heap.size ⟨d, l, t⟩ A c) := Lib.hid (heap_alloc_new w _)
  have HP := Lib.hid (fun V => rsize_any d V hd0 hd1)
  have HM := Lib.hid (fun V => rname_any t HT.out hl V)
  obtain ⟨z0, z1, z2⟩ := HX0.out.at
  simp only at z0 z1 z2
  cases hi : isD d with
  | false =>
    have HR := Lib.hid (right_out (m := ⟨d, l, t⟩) hi)
    rw [hi] at HP
    clear hi
    go_enter Tryd.func13, Tryd.ntmps13
    go_wp2_with (first
      | ((with_reducible refine (HP.out _).mono ?_); rintro e w3 ⟨rfl, rfl⟩)
      | ((with_reducible refine (HM.out _).mono ?_); rintro e w3 ⟨rfl, rfl⟩))
    go_ret
    exact ⟨Pk.ret_bool HR.out.symm, HB0.out⟩
  | true =>
    rw [hi] at HP
    by_cases hL : l.length = szN d
    · have hL' : ((l.length : Int) == (szN d : Int)) = true := by simp [hL]
      have hL2 : (l.length == szN d) = true := by simpa using hL
      by_cases ht : t = []
      · have hE2 : (strOfNums t).toList.isEmpty = true := by rw [emp_is]; simpa using ht
        have HR := Lib.hid (right_em (m := ⟨d, l, t⟩) hi hL ht)
        clear hi hL ht
        go_enter Tryd.func13, Tryd.ntmps13
        go_wp2_with (first
          | ((with_reducible refine (HP.out _).mono ?_); rintro e w3 ⟨rfl, rfl⟩)
          | ((with_reducible refine (HM.out _).mono ?_); rintro e w3 ⟨rfl, rfl⟩))
        go_ret
        exact ⟨Pk.ret_bool HR.out.symm, HB0.out⟩
      have hE2 : (strOfNums t).toList.isEmpty = false := by rw [emp_is]; simpa using ht
      by_cases h4 : d = 4
      · have HR := Lib.hid (right_four (m := ⟨d, l, t⟩) hi hL ht h4)
        have h4' : (d == 4) = true := by simpa using h4
        clear hi hL ht h4
        go_enter Tryd.func13, Tryd.ntmps13
        go_wp2_with (first
          | ((with_reducible refine (HP.out _).mono ?_); rintro e w3 ⟨rfl, rfl⟩)
          | ((with_reducible refine (HM.out _).mono ?_); rintro e w3 ⟨rfl, rfl⟩))
        go_ret
        exact ⟨Pk.ret_bool HR.out.symm, HB0.out⟩
      · have HR := Lib.hid (right_non (m := ⟨d, l, t⟩) ht h4)
        have h4' : (d == 4) = false := by simpa using h4
        clear hi hL ht h4
        go_enter Tryd.func13, Tryd.ntmps13
        go_wp2_with (first
          | ((with_reducible refine (HP.out _).mono ?_); rintro e w3 ⟨rfl, rfl⟩)
          | ((with_reducible refine (HM.out _).mono ?_); rintro e w3 ⟨rfl, rfl⟩))
        go_ret
        exact ⟨Pk.ret_bool HR.out.symm, HB0.out⟩
    · have HR := Lib.hid (right_len (m := ⟨d, l, t⟩) hL)
      have hL' : ((l.length : Int) == (szN d : Int)) = false := by simp; omega
      have hL2 : (l.length == szN d) = false := by simpa using hL
      clear hi hL
      go_enter Tryd.func13, Tryd.ntmps13
      go_wp2_with (first
        | ((with_reducible refine (HP.out _).mono ?_); rintro e w3 ⟨rfl, rfl⟩)
        | ((with_reducible refine (HM.out _).mono ?_); rintro e w3 ⟨rfl, rfl⟩))
      go_ret
      exact ⟨Pk.ret_bool HR.out.symm, HB0.out⟩
end Go.Proofs.YtadpajkjjmdcnaaDoor.Con
