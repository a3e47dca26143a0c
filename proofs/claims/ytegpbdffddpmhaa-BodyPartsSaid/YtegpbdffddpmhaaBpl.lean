/-
  Plain: what is hurt and healed by as much is as it was, unless it died; hurts in two parts are one.
-/
import Derived.Test.YtegpbdffddpmhaaBdu
namespace Go.Proofs.Ytegpbdffddpmhaa.Con
open Go.RowKit
theorem rt_hurt {u : Un} (n : Int) (h : rtU u = true) : rtU (hurtU u n) = true := by
  have h1 := (rt_iff u).1 h
  obtain ⟨a1, a2, a3, a4, a5, a6, a7, a8⟩ := h1
  have hc := clamp_low (n := n) a6.1
  rw [rt_iff]
  simp only [hurtU, h, if_true]
  generalize clampI n 0 u.h = d at *
  refine ⟨a1, a2, ?_, a4, a5, by omega, a7, a8⟩
  split <;> omega
/-- How much a hurt is. -/
theorem hurt_much {u : Un} {n : Int} (h : rtU u = true) (hn : 0 ≤ n) : hurtN u n = min n u.h ∧ (hurtU u n).h = u.h - min n u.h := by
  have h1 := (rt_iff u).1 h
  have hc := clamp_min hn h1.2.2.2.2.2.1.1
  simp [hurtU, hurtN, h, hc]
theorem hurt_in {u : Un} {n : Int} (h : rtU u = true) (hn : 0 ≤ n) : 0 ≤ hurtN u n ∧ hurtN u n ≤ 1000000 := by
  have h1 := (rt_iff u).1 h
  rw [(hurt_much h hn).1]
  omega
theorem back_live {u : Un} {n : Int} (h : rtU u = true) (hn : 0 ≤ n) (hd : decide ((hurtU u n).h < 1) = false) : healU (hurtU u n) (hurtN u n) = u ∧ healN (hurtU u n) (hurtN u n) = hurtN u n := by
  have h1 := (rt_iff u).1 h
  have hm := hurt_much h hn
  have hr := rt_hurt n h
  have hl : lvU (hurtU u n) = true := by simp [lvU, hr, hd]
  have hd' : ¬ (hurtU u n).h < 1 := by simpa using hd
  have e1 : hurtU u n = { u with h := u.h - min n u.h } := by
    have hc := clamp_min hn h1.2.2.2.2.2.1.1
    simp only [hurtU, h, if_true, hc]
    rw [if_neg (by rw [hm.2] at hd'; exact hd')]
  have e2 : clampI (min n u.h) 0 (u.m - (u.h - min n u.h)) = min n u.h := by
    rw [clamp_min (by omega) (by omega)]
    omega
  simp only [healU, healN, hl, if_true]
  rw [e1, hm.1]
  simp only
  rw [e2]
  refine ⟨?_, rfl⟩
  ext <;> simp
theorem back_dead {u : Un} {n j : Int} (hd : decide ((hurtU u n).h < 1) = true) : healU (hurtU u n) j = hurtU u n := by
  simp [healU, lvU, hd]
theorem add_hurts {u : Un} {n m : Int} (h : rtU u = true) (hn : 0 ≤ n) (hm : 0 ≤ m) : hurtU (hurtU u n) m = hurtU u (held (n + m)) ∧ hurtN u n + hurtN (hurtU u n) m = hurtN u (held (n + m)) := by
  have h1 := (rt_iff u).1 h
  have hr := rt_hurt n h
  have hs : 0 ≤ held (n + m) := by unfold held; split <;> (try split) <;> omega
  have hq : min (held (n + m)) u.h = min (n + m) u.h := by unfold held; split <;> (try split) <;> omega
  have m1 := hurt_much h hn
  have m2 := hurt_much hr hm
  have m3 := hurt_much h hs
  constructor
  · have c1 := clamp_min hn h1.2.2.2.2.2.1.1
    have c2 := clamp_min hm (b := (hurtU u n).h) (by have := (rt_iff _).1 hr; exact this.2.2.2.2.2.1.1)
    have c3 := clamp_min hs h1.2.2.2.2.2.1.1
    rw [hq] at c3
    rw [m1.2] at c2
    have e1 : hurtU u n = { u with h := u.h - min n u.h, c := if u.h - min n u.h < 1 then 0 else u.c } := by simp only [hurtU, h, if_true, c1]
    have e2 : hurtU u (held (n + m)) = { u with h := u.h - min (n + m) u.h, c := if u.h - min (n + m) u.h < 1 then 0 else u.c } := by simp only [hurtU, h, if_true, c3]
    have e3 : hurtU (hurtU u n) m = { hurtU u n with h := (hurtU u n).h - clampI m 0 (hurtU u n).h, c := if (hurtU u n).h - clampI m 0 (hurtU u n).h < 1 then 0 else (hurtU u n).c } := by
      show (if rtU (hurtU u n) then _ else _) = _
      rw [if_pos hr]
    rw [e3, m1.2, c2, e2, e1]
    have e4 : u.h - min n u.h - min m (u.h - min n u.h) = u.h - min (n + m) u.h := by omega
    simp only
    rw [e4]
    ext <;> simp only
    split
    · rfl
    · rw [if_neg (by omega)]
  · rw [m1.1, m2.1, m3.1, m1.2, hq]
    omega
end Go.Proofs.Ytegpbdffddpmhaa.Con
