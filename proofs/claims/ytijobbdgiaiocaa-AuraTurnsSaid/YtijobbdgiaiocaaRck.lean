/-
  Contract of the document's own first: whether there is a place at which something is not right, or beyond the most.
-/
import Derived.Test.YtijobbdgiaiocaaRcj
import Derived.Deep.QuietTactic
import Derived.BigQuiet
namespace Go.Proofs.Ytijobbdgiaiocaa.Con
open Go.RowKit Go.Maps

/-- Place j is right: not marked, its number above the one before. -/
def okAt (bad : List Bool) (ids : List Int) (j : Nat) : Prop := bad[j]? = some false ∧ 1 ≤ ids.getD j 0 ∧ (0 < j → ids.getD (j - 1) 0 < ids.getD j 0)
def Good (bad : List Bool) (ids : List Int) : Prop := (bad.length : Int) ≤ 64 ∧ ∀ j, j < bad.length → okAt bad ids j
theorem ret_int1 {k : IntKind} {a b : Int} (h : a = b) : Ending.returned (.int k a) = .returned (.int k b) := by rw [h]
theorem rowBo1 {w W : World} {B B' : Nat} {A : Option Addr} {l : List Bool} (hr : RB w B A l) {k : Nat} {x : Bool} (hx : l[k]? = some x) (hb : Below B' w W) (hB : B ≤ B') :
    ∃ p off, A = some ⟨p, off, none⟩ ∧ p < B ∧ W.cell? ⟨p, off + k, none⟩ = some (.bool x) := by
  rcases hr with rfl | ⟨p, off, hA, hlt, hc⟩
  · simp at hx
  · exact ⟨p, off, hA, hlt, (World.cell?_of_block (w := w) (hb.block p (by omega))).trans (hc k x hx)⟩
theorem rowI1 {w W : World} {B B' : Nat} {A : Option Addr} {l : List Int} (hr : RW nu w B A l) (hn : l ≠ []) (hb : Below B' w W) (hB : B ≤ B') :
    ∃ p off, A = some ⟨p, off, none⟩ ∧ p < B ∧ ∀ (k : Nat) x, l[k]? = some x → W.cell? ⟨p, off + k, none⟩ = some (.int .i64 x) := by
  rcases hr with rfl | ⟨p, off, hA, hlt, hc⟩
  · exact absurd rfl hn
  · refine ⟨p, off, hA, hlt, fun k x hx => (World.cell?_of_block (w := w) (hb.block p (by omega))).trans ?_⟩
    have := hc k x hx 0 _ rfl
    simpa [nu] using this
theorem getD_of {l : List Int} {k : Nat} {x : Int} (h : l[k]? = some x) : l.getD k 0 = x := by simp [List.getD, h]
theorem ok_next {bad : List Bool} {ids : List Int} {k : Nat} (h : ∀ j, j < k → okAt bad ids j) (hk : okAt bad ids k) : ∀ j, j < k + 1 → okAt bad ids j := by
  intro j hj
  by_cases e : j = k
  · subst e; exact hk
  · exact h j (by omega)
theorem not_good {bad : List Bool} {ids : List Int} {x : Bool} (hx : x = true ↔ Good bad ids) {k : Nat} (hk : k < bad.length) (h : ¬ okAt bad ids k) : x = false := by
  cases x with
  | false => rfl
  | true => exact absurd ((hx.1 rfl).2 k hk) h
set_option maxRecDepth 20000 in
set_option maxHeartbeats 16000000 in
theorem first_any {w : World} {B : Nat} (A1 A2 : Option Addr) (c1 c2 : Nat) (bad : List Bool) (ids : List Int) (hn : ids.length = bad.length) (hl : (bad.length : Int) ≤ 1000000) (h1 : RB w B A1 bad) (h2 : RW nu w B A2 ids) (hB : B ≤ w.heap.size) (x : Bool) (hx : x = true ↔ Good bad ids) :
    Calls Try.prog 72 #[.slice A1 bad.length c1, .slice A2 ids.length c2] w fun e w' => (∃ p : Int, e = .returned (.int .i64 p) ∧ decide (p ≥ 0) = !x) ∧ Below w.heap.size w w' := by
  have HN := Lib.hid hn; have H1 := Lib.hid h1; have H2 := Lib.hid h2; have HB := Lib.hid hB; have HX := Lib.hid hx; have HL := Lib.hid hl
  clear hn h1 h2 hB hx
  go_enter Try.func72, Try.ntmps72
  go_wp2_with (fail)
  go_loopg [5] bad.length (fun m s5 wr => ∃ (k : Nat), k ≤ bad.length ∧ (k : Int) ≤ 64 ∧ m = bad.length - k ∧ s5 = .int .i64 (k : Int) ∧ Hid (Below w.heap.size w wr) ∧ Hid (∀ j, j < k → okAt bad ids j))
  case atStart => exact ⟨0, by omega, by omega, rfl, rfl, Lib.hid (Below.refl _ _), Lib.hid (by intro j hj; omega)⟩
  case round =>
    obtain ⟨k, hk, hk64, rfl, rfl, HW, HK⟩ := hrel
    by_cases hlt : k < bad.length
    · have hkl' : (k : Int) < bad.length := by omega
      have hkl2 : (k : Int) < ids.length := by have := HN.out; omega
      by_cases hlt2 : (k : Int) < 64
      · obtain ⟨b, hb⟩ : ∃ b, bad[k]? = some b := ⟨_, List.getElem?_eq_getElem hlt⟩
        obtain ⟨y, hy⟩ : ∃ y, ids[k]? = some y := ⟨_, List.getElem?_eq_getElem (by rw [HN.out]; exact hlt)⟩
        obtain ⟨p, off, hA, hpl, q0⟩ := rowBo1 H1.out hb HW.out HB.out
        obtain ⟨p2, off2, hA2, hpl2, hq⟩ := rowI1 H2.out (by intro h; rw [h] at hy; simp at hy) HW.out HB.out
        have q1 := hq k y hy
        have HQ := Lib.hid hq
        have hpw : p < wr.heap.size := Nat.lt_of_lt_of_le hpl (Nat.le_trans HB.out HW.out.size)
        have hpw2 : p2 < wr.heap.size := Nat.lt_of_lt_of_le hpl2 (Nat.le_trans HB.out HW.out.size)
        have HBk := Lib.hid hb; have HYk := Lib.hid hy; have HD := Lib.hid (getD_of hy)
        have HE1 := Lib.hid hA; have HE2 := Lib.hid hA2
        clear hb hy hq hA hA2
        have HFr : Hid (A1 = some ⟨p, off, none⟩ ∧ A2 = some ⟨p2, off2, none⟩) := Lib.hid ⟨HE1.out, HE2.out⟩
        clear HE1 HE2
        go_wp2_with (fail)
        rw [HFr.out.1, HFr.out.2]
        cases b with
        | true =>
          go_quiet (fail)
          go_wp2
          go_ret
          have hxf := not_good HX.out hlt (by intro h; have := h.1; rw [HBk.out] at this; cases this)
          exact ⟨⟨_, rfl, by subst hxf; simp⟩, below_drewN HW.out _⟩
        | false =>
          by_cases j1 : y < 1
          · have j1' : decide (y < 1) = true := by simpa using j1
            have HJ1 := Lib.hid j1; clear j1
            go_quiet (fail)
            go_wp2
            go_ret
            have hxf := not_good HX.out hlt (by intro h; have := h.2.1; rw [HD.out] at this; have := HJ1.out; omega)
            exact ⟨⟨_, rfl, by subst hxf; simp⟩, below_drewN HW.out _⟩
          · have j1' : decide (y < 1) = false := by simpa using j1
            have HJ1 : Hid (1 ≤ y) := Lib.hid (by omega)
            clear j1
            by_cases k0 : k = 0
            · have k0' : decide (0 < k) = false := by simp; omega
              have HK0 := Lib.hid k0; clear k0
              go_quiet (fail)
              go_wp2
              rw [← HFr.out.1, ← HFr.out.2]
              go_roundg (bad.length - (k + 1))
              case measure => omega
              case rel => exact ⟨k + 1, by omega, by omega, rfl, by go_num, Lib.hid (below_drewN HW.out _), Lib.hid (ok_next HK.out ⟨HBk.out, by rw [HD.out]; exact HJ1.out, by intro h; have := HK0.out; omega⟩)⟩
            · obtain ⟨j, hj⟩ : ∃ j, k = j + 1 := ⟨k - 1, by omega⟩
              have k0' : decide (0 < k) = true := by simp; omega
              have HJk := Lib.hid hj
              have hjl : (j : Int) < ids.length := by omega
              have e1 : ((k : Int) - 1) = (j : Int) := by omega
              obtain ⟨z, hz⟩ : ∃ z, ids[j]? = some z := ⟨_, List.getElem?_eq_getElem (by rw [HN.out]; omega)⟩
              have q2 := HQ.out j z hz
              have HZ := Lib.hid (getD_of hz); clear hz
              have s1 : IntKind.i64.wrap ((k : Int) - 1) = (j : Int) := by rw [e1]; exact IntWalk.i64_in _ (by omega)
              clear hj e1 k0
              by_cases j2 : y ≤ z
              · have j2' : decide (y ≤ z) = true := by simpa using j2
                have HJ2 := Lib.hid j2; clear j2
                go_quiet (fail)
                go_wp2
                go_ret
                have hxf := not_good HX.out hlt (by intro h; have := h.2.2 (by have := HJk.out; omega); rw [HD.out, show k - 1 = j by have := HJk.out; omega, HZ.out] at this; have := HJ2.out; omega)
                exact ⟨⟨_, rfl, by subst hxf; simp⟩, below_drewN HW.out _⟩
              · have j2' : decide (y ≤ z) = false := by simpa using j2
                have HJ2 : Hid (z < y) := Lib.hid (by omega)
                clear j2
                go_quiet (fail)
                go_wp2
                rw [← HFr.out.1, ← HFr.out.2]
                go_roundg (bad.length - (k + 1))
                case measure => omega
                case rel => exact ⟨k + 1, by omega, by omega, rfl, by go_num, Lib.hid (below_drewN HW.out _), Lib.hid (ok_next HK.out ⟨HBk.out, by rw [HD.out]; exact HJ1.out, by intro h; rw [HD.out, show k - 1 = j by have := HJk.out; omega, HZ.out]; exact HJ2.out⟩)⟩
      · have hlt2' : decide ((k : Int) < 64) = false := by simp; omega
        have t1 : decide ((bad.length : Int) > 64) = true := by simp; omega
        go_wp2
        go_ret
        have hxf : x = false := by
          cases x with
          | false => rfl
          | true => exact absurd (HX.out.1 rfl).1 (by omega)
        exact ⟨⟨_, rfl, by subst hxf; rfl⟩, HW.out⟩
    · have hkl' : decide ((k : Int) < bad.length) = false := by simp; omega
      have t1 : decide ((bad.length : Int) > 64) = false := by simp; omega
      go_wp2
      go_ret
      have hxt : x = true := HX.out.2 ⟨by omega, fun j hj => HK.out j (by omega)⟩
      exact ⟨⟨_, rfl, by subst hxt; rfl⟩, HW.out⟩
end Go.Proofs.Ytijobbdgiaiocaa.Con
