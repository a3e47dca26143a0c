/-
  Contract of the document's own Same, of two rows that are alike.
-/
import Derived.Test.YtmdnjkiciaidiaaCda
namespace Go.Proofs.Ytmdnjkiciaidiaa.Con
open Go.RowKit Go.Maps

theorem pl_at {p q : List Co} (h : p.map Co.pl = q.map Co.pl) {k : Nat} {x : Co} (hx : p[k]? = some x) : ∃ ya yc, q[k]? = some ⟨x.id, ya, x.bk, yc⟩ := by
  have e : (q.map Co.pl)[k]? = some x.pl := by rw [← h, List.getElem?_map, hx]; rfl
  rw [List.getElem?_map] at e
  cases hq : q[k]? with
  | none => rw [hq] at e; simp at e
  | some y =>
    rw [hq] at e
    obtain ⟨yi, ya, yb, yc⟩ := y
    injection e with e
    injection e with e1 e2
    subst e1; subst e2
    exact ⟨ya, yc, rfl⟩

set_option maxRecDepth 20000 in
set_option maxHeartbeats 4000000 in
theorem rsame_co {w : World} {B B' : Nat} {A A' : Option Addr} {p q : List Co} {n c c' : Nat} (hn : p.length = n) (hpq : p.map Co.pl = q.map Co.pl) (hl : (n : Int) ≤ 1000000) (hbk : ∀ x ∈ p, x.bk.length ≤ 1000) (hr : KRc w B A p) (hr' : KRc w B' A' q) (hB : B ≤ w.heap.size) (hB' : B' ≤ w.heap.size) :
    Calls Try.prog 14 #[.slice A n c, .slice A' n c'] w fun e w' => e = .returned (.bool true) ∧ Below w.heap.size w w' := by
  subst hn
  have HR := Lib.hid hr; have HR' := Lib.hid hr'; have HB := Lib.hid hB; have HB' := Lib.hid hB'; have HBK := Lib.hid hbk; have HPQ := Lib.hid hpq
  clear hr hr' hB hB' hbk hpq
  go_enter Try.func14, Try.ntmps14
  go_wp2
  go_loopg [5] p.length (fun gh s5 wr => ∃ k : Nat, k ≤ p.length ∧ gh = p.length - k ∧ s5 = .int .i64 k ∧ Hid (Below w.heap.size w wr))
  case atStart => exact ⟨0, by omega, rfl, rfl, Lib.hid (Below.refl _ _)⟩
  case round =>
    obtain ⟨k, hk, rfl, rfl, HW⟩ := hrel
    by_cases hlt : k < p.length
    · obtain ⟨x, hx⟩ : ∃ x, p[k]? = some x := ⟨_, List.getElem?_eq_getElem hlt⟩
      obtain ⟨ya, yc, hy⟩ := pl_at HPQ.out hx
      obtain ⟨b, off, hAA, hpl, d0, d1⟩ := rowCo HR.out hx HW.out HB.out
      obtain ⟨b', off', hAA', hpl', e0, e1⟩ := rowCo HR'.out hy HW.out HB'.out
      subst hAA; subst hAA'
      have hlt' : (k : Int) < p.length := by omega
      have HXk := Lib.hid hx; have HYk := Lib.hid hy
      have HI := Lib.hid (HR.out.inner hx); have HI' := Lib.hid (HR'.out.inner hy)
      have hbx := HBK.out x (List.mem_of_getElem? hx)
      clear hx hy
      obtain ⟨xi, xa, xb, xc⟩ := x
      simp only at d0 d1 e0 e1 HI HI' hbx HYk
      go_wp2
      go_quiet (fail)
      go_wp2
      clear d0 d1 e0 e1 hpl hpl'
      go_loopg [6] xb.length (fun gh s6 wr => ∃ j : Nat, j ≤ xb.length ∧ gh = xb.length - j ∧ s6 = .int .i64 j ∧ Hid (Below w.heap.size w wr))
      case atStart => exact ⟨0, by omega, rfl, rfl, Lib.hid (below_drewN HW.out _)⟩
      case round =>
        obtain ⟨j, hj, rfl, rfl, HV⟩ := hrel
        obtain ⟨b1, off1, hAA, hpl, d0, d1⟩ := rowCo HR.out HXk.out HV.out HB.out
        injection hAA with hAA; injection hAA with q1 q2
        subst q1; subst q2
        obtain ⟨b2, off2, hAA, hpl', e0, e1⟩ := rowCo HR'.out HYk.out HV.out HB'.out
        injection hAA with hAA; injection hAA with q3 q4
        subst q3; subst q4
        simp only at d0 d1 e0 e1
        by_cases hjt : j < xb.length
        · obtain ⟨y, hy⟩ : ∃ y, xb[j]? = some y := ⟨_, List.getElem?_eq_getElem hjt⟩
          obtain ⟨b3, off3, hA3, hp3, f0⟩ := rowNu HI.out hy HV.out HB.out
          obtain ⟨b4, off4, hA4, hp4, f1⟩ := rowNu HI'.out hy HV.out HB'.out
          subst hA3; subst hA4
          have hjt' : (j : Int) < xb.length := by omega
          clear hy
          go_wp2
          go_quiet (fail)
          go_wp2
          go_roundg (xb.length - (j + 1))
          case measure => omega
          case rel => exact ⟨j + 1, by omega, rfl, by go_num, Lib.hid (below_drewN HV.out _)⟩
        · have hjt' : decide ((j : Int) < xb.length) = false := by simp; omega
          have hjn : j = xb.length := by omega
          subst hjn
          go_wp2
          go_roundg (p.length - (k + 1))
          case measure => omega
          case rel => exact ⟨k + 1, by omega, rfl, by go_num, HV⟩
    · have hlt' : decide ((k : Int) < p.length) = false := by simp; omega
      go_wp2
      go_ret
      exact ⟨rfl, HW.out⟩
end Go.Proofs.Ytmdnjkiciaidiaa.Con
