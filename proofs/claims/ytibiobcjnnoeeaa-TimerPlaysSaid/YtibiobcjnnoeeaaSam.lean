/-
  The contract of the document's Same: two rows of timers.
-/
import Derived.Test.YtibiobcjnnoeeaaTag
import Derived.BigQuiet
namespace Go.Proofs.Ytibiobcjnnoeeaa.Con
open Go.RowKit Tmr Go.Maps

theorem tm_ext {s t : Tm} (h1 : s.due = t.due) (h2 : s.tag = t.tag) (h3 : s.id = t.id) : s = t := by
  cases s; cases t; simp at *; exact ⟨h1, h2, h3⟩
theorem eq_take {a b : List Tm} {k : Nat} (hn : a.length = b.length) (hk : k < a.length) (h : a.take k = b.take k) (he : g a k = g b k) : a.take (k + 1) = b.take (k + 1) := by
  rw [take_g hk, take_g (hn ▸ hk), h, he]
theorem below_drewN (w : World) (k : Nat) : Below w.heap.size w (w.drewN k) := ⟨rfl, rfl, rfl, Nat.le_refl _, fun _ _ => rfl⟩
theorem same_len {w : World} {A A' : Option Addr} {a b : List Tm} {c c' : Nat} (hn : a.length ≠ b.length) : Calls Try.prog 16 #[.slice A a.length c, .slice A' b.length c'] w fun e w' => e = .returned (.bool false) ∧ w = w' := by
  have h1 : ((a.length : Int) != (b.length : Int)) = true := by simp; omega
  have h2 : ¬ (a.length : Int) = b.length := by omega
  go_enter Try.func16, Try.ntmps16
  go_wp2
  go_ret
  exact ⟨rfl, rfl⟩
set_option maxHeartbeats 2000000 in
theorem same_go {w : World} {B B' : Nat} {A A' : Option Addr} {a b : List Tm} {c c' : Nat} (ha : RT w B A a) (hb : RT w B' A' b) (hn : a.length = b.length) (hl : (a.length : Int) ≤ 5000) (x : Bool) (hx : decide (a = b) = x) : Calls Try.prog 16 #[.slice A a.length c, .slice A' b.length c'] w fun e w' => e = .returned (.bool x) ∧ ∃ k, w' = w.drewN k := by
  have HA := Lib.hid ha; have HB := Lib.hid hb; have HX := Lib.hid hx; have HN := Lib.hid hn
  have hn1 : ((a.length : Int) != (b.length : Int)) = false := by simp; omega
  clear ha hb hx hn
  go_enter Try.func16, Try.ntmps16
  go_wp2
  go_loopg [5] a.length (fun m s5 wr => ∃ (k q : Nat), k ≤ a.length ∧ m = a.length - k ∧ s5 = .int .i64 (k : Int) ∧ Hid (wr = w.drewN q) ∧ Hid (a.take k = b.take k))
  case atStart => exact ⟨0, 0, by omega, rfl, rfl, Lib.hid rfl, Lib.hid (by simp)⟩
  case round =>
    obtain ⟨k, q, hk, rfl, rfl, HW, HE⟩ := hrel
    by_cases hkl : k < a.length
    · have hkl' : (k : Int) < a.length := by omega
      have hkb' : (k : Int) < b.length := by have := HN.out; omega
      have hkb : k < b.length := by omega
      obtain ⟨p, hA, hpl, e1, e2, e3⟩ := HA.out.at' hkl
      obtain ⟨p', hA', hpl', d1, d2, d3⟩ := HB.out.at' hkb
      subst hA; subst hA'
      have HG : Hid (a ≠ b ∨ g a k = g b k) := Lib.hid (by
        by_cases h : a = b
        · right; rw [h]
        · left; exact h)
      have HEq : Hid (g a k = g b k → a.take (k + 1) = b.take (k + 1)) := Lib.hid (fun h => eq_take HN.out hkl HE.out h)
      generalize g a k = s at e1 e2 e3 HG HEq
      generalize g b k = t at d1 d2 d3 HG HEq
      have c1 : wr.cell? ⟨p, k * 3, none⟩ = some (.int .i64 s.due) := by rw [HW.out]; exact e1
      have c2 : wr.cell? ⟨p, k * 3 + 1, none⟩ = some (.int .i64 s.tag) := by rw [HW.out]; exact e2
      have c3 : wr.cell? ⟨p, k * 3 + 2, none⟩ = some (.int .i64 s.id) := by rw [HW.out]; exact e3
      have f1 : wr.cell? ⟨p', k * 3, none⟩ = some (.int .i64 t.due) := by rw [HW.out]; exact d1
      have f2 : wr.cell? ⟨p', k * 3 + 1, none⟩ = some (.int .i64 t.tag) := by rw [HW.out]; exact d2
      have f3 : wr.cell? ⟨p', k * 3 + 2, none⟩ = some (.int .i64 t.id) := by rw [HW.out]; exact d3
      clear e1 e2 e3 d1 d2 d3
      by_cases hst : s = t
      · subst hst
        have HEq' := Lib.hid (HEq.out rfl)
        clear HEq HG
        go_wp2
        go_quiet (fail)
        go_wp2
        go_roundg (a.length - (k + 1))
        case measure => omega
        case rel => exact ⟨k + 1, q + nq, by omega, rfl, by go_num, Lib.hid (by rw [HW.out, World.drewN_drewN]), HEq'⟩
      · have HF : Hid (x = false) := Lib.hid (by
          rcases HG.out with h | h
          · rw [← HX.out]; simp [h]
          · exact absurd h hst)
        by_cases q1 : s.due = t.due
        · by_cases q2 : s.tag = t.tag
          · have q3 : s.id ≠ t.id := fun h => hst (tm_ext q1 q2 h)
            have r1 : (s.due == t.due) = true := by simpa using q1
            have r2 : (s.tag == t.tag) = true := by simpa using q2
            have r3 : (s.id == t.id) = false := by simpa using q3
            clear q1 q2 q3 hst HEq HG
            go_wp2
            go_quiet (fail)
            go_wp2
            go_ret
            exact ⟨by rw [HF.out]; rfl, _, by rw [HW.out, World.drewN_drewN]⟩
          · have r1 : (s.due == t.due) = true := by simpa using q1
            have r2 : (s.tag == t.tag) = false := by simpa using q2
            clear q1 q2 hst HEq HG
            go_wp2
            go_quiet (fail)
            go_wp2
            go_ret
            exact ⟨by rw [HF.out]; rfl, _, by rw [HW.out, World.drewN_drewN]⟩
        · have r1 : (s.due == t.due) = false := by simpa using q1
          clear q1 hst HEq HG
          go_wp2
          go_quiet (fail)
          go_wp2
          go_ret
          exact ⟨by rw [HF.out]; rfl, _, by rw [HW.out, World.drewN_drewN]⟩
    · have hkl' : ¬ (k : Int) < a.length := by omega
      have HT : Hid (x = true) := Lib.hid (by
        have := HE.out
        rw [List.take_of_length_le (by omega), List.take_of_length_le (by have := HN.out; omega)] at this
        rw [← HX.out, this]; simp)
      go_wp2
      go_ret
      exact ⟨by rw [HT.out]; rfl, q, HW.out⟩
end Go.Proofs.Ytibiobcjnnoeeaa.Con
