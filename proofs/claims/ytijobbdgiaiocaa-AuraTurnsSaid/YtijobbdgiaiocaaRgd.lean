/-
  Contracts of the document's own Right, In and Wall of grids.
-/
import Derived.Test.YtijobbdgiaiocaaGrd
namespace Go.Proofs.Ytijobbdgiaiocaa.Con
open Go.RowKit

theorem rright_any (W H : Int) (A : Option Addr) (n c : Nat) (w : World) :
    Calls Try.prog 103 #[gv W H A n c] w fun e w' => e = .returned (.bool (rightB W H n)) ∧ Below w.heap.size w w' := by
  have hb := box1 w W H A n c
  by_cases a1 : 1 ≤ W
  · by_cases a2 : W ≤ 256
    · by_cases a3 : 1 ≤ H
      · by_cases a4 : H ≤ 256
        · have b3 := area_in ⟨a1, a2⟩ ⟨a3, a4⟩
          go_enter Try.func103, Try.ntmps103
          go_wp2
          go_ret
          exact ⟨by simp [rightB, sideB, a1, a2, a3, a4]; rw [Bool.eq_iff_iff]; simp, hb⟩
        · have a4' : decide (H ≤ 256) = false := by simpa using a4
          go_enter Try.func103, Try.ntmps103
          go_wp2
          go_ret
          exact ⟨by simp [rightB, sideB, a4'], hb⟩
      · have a3' : decide (1 ≤ H) = false := by simpa using a3
        go_enter Try.func103, Try.ntmps103
        go_wp2
        go_ret
        exact ⟨by simp [rightB, sideB, a3'], hb⟩
    · have a2' : decide (W ≤ 256) = false := by simpa using a2
      go_enter Try.func103, Try.ntmps103
      go_wp2
      go_ret
      exact ⟨by simp [rightB, sideB, a2'], hb⟩
  · have a1' : decide (1 ≤ W) = false := by simpa using a1
    go_enter Try.func103, Try.ntmps103
    go_wp2
    go_ret
    exact ⟨by simp [rightB, sideB, a1'], hb⟩


theorem rin_any (W H : Int) (A : Option Addr) (n c : Nat) (x y : Int) (w : World) :
    Calls Try.prog 90 #[gv W H A n c, pv x y] w fun e w' => e = .returned (.bool (inB W H n x y)) ∧ Below w.heap.size w w' := by
  have hb := boxgp w W H A n c x y
  cases hR : rightB W H n with
  | false =>
    have HR := Lib.hid hR
    go_enter Try.func90, Try.ntmps90
    go_wp2_with (first | ((with_reducible refine (rright_any _ _ _ _ _ _).mono ?_); rintro e w1 ⟨rfl, hB⟩; have hg := fun o => hB.cell (p := ⟨w.heap.size, o, none⟩) (by simp <;> omega); have hp := fun o => hB.cell (p := ⟨w.heap.size + 1, o, none⟩) (by simp <;> omega)))
    go_ret
    exact ⟨by unfold inB; rw [HR.out]; rfl, hb.trans (hB.mono (by simp; omega))⟩
  | true =>
    have HR := Lib.hid hR
    by_cases x1 : 0 ≤ x
    · by_cases x2 : x < W
      · by_cases y1 : 0 ≤ y
        · by_cases y2 : y < H
          · go_enter Try.func90, Try.ntmps90
            go_wp2_with (first | ((with_reducible refine (rright_any _ _ _ _ _ _).mono ?_); rintro e w1 ⟨rfl, hB⟩; have hg := fun o => hB.cell (p := ⟨w.heap.size, o, none⟩) (by simp <;> omega); have hp := fun o => hB.cell (p := ⟨w.heap.size + 1, o, none⟩) (by simp <;> omega)))
            go_ret
            exact ⟨by unfold inB; rw [HR.out]; simp [x1, x2, y1, y2], hb.trans (hB.mono (by simp; omega))⟩
          · have y2' : decide (y < H) = false := by simpa using y2
            go_enter Try.func90, Try.ntmps90
            go_wp2_with (first | ((with_reducible refine (rright_any _ _ _ _ _ _).mono ?_); rintro e w1 ⟨rfl, hB⟩; have hg := fun o => hB.cell (p := ⟨w.heap.size, o, none⟩) (by simp <;> omega); have hp := fun o => hB.cell (p := ⟨w.heap.size + 1, o, none⟩) (by simp <;> omega)))
            go_ret
            exact ⟨by unfold inB; rw [y2']; simp, hb.trans (hB.mono (by simp; omega))⟩
        · have y1' : decide (0 ≤ y) = false := by simpa using y1
          go_enter Try.func90, Try.ntmps90
          go_wp2_with (first | ((with_reducible refine (rright_any _ _ _ _ _ _).mono ?_); rintro e w1 ⟨rfl, hB⟩; have hg := fun o => hB.cell (p := ⟨w.heap.size, o, none⟩) (by simp <;> omega); have hp := fun o => hB.cell (p := ⟨w.heap.size + 1, o, none⟩) (by simp <;> omega)))
          go_ret
          exact ⟨by unfold inB; rw [y1']; simp, hb.trans (hB.mono (by simp; omega))⟩
      · have x2' : decide (x < W) = false := by simpa using x2
        go_enter Try.func90, Try.ntmps90
        go_wp2_with (first | ((with_reducible refine (rright_any _ _ _ _ _ _).mono ?_); rintro e w1 ⟨rfl, hB⟩; have hg := fun o => hB.cell (p := ⟨w.heap.size, o, none⟩) (by simp <;> omega); have hp := fun o => hB.cell (p := ⟨w.heap.size + 1, o, none⟩) (by simp <;> omega)))
        go_ret
        exact ⟨by unfold inB; rw [x2']; simp, hb.trans (hB.mono (by simp; omega))⟩
    · have x1' : decide (0 ≤ x) = false := by simpa using x1
      go_enter Try.func90, Try.ntmps90
      go_wp2_with (first | ((with_reducible refine (rright_any _ _ _ _ _ _).mono ?_); rintro e w1 ⟨rfl, hB⟩; have hg := fun o => hB.cell (p := ⟨w.heap.size, o, none⟩) (by simp <;> omega); have hp := fun o => hB.cell (p := ⟨w.heap.size + 1, o, none⟩) (by simp <;> omega)))
      go_ret
      exact ⟨by unfold inB; rw [x1']; simp, hb.trans (hB.mono (by simp; omega))⟩



theorem rwall_any (W H : Int) (A : Option Addr) (l : List Bool) (c : Nat) (x y : Int) (w : World) (B : Nat) (hl : RB w B A l) (hB0 : B ≤ w.heap.size) :
    Calls Try.prog 75 #[gv W H A l.length c, pv x y] w fun e w' => e = .returned (.bool (wallB W H l x y)) ∧ Below w.heap.size w w' := by
  have hb := boxgp w W H A l.length c x y
  cases hI : inB W H l.length x y with
  | false =>
    have HI := Lib.hid hI
    go_enter Try.func75, Try.ntmps75
    go_wp2_with (first | ((with_reducible refine (rin_any _ _ _ _ _ _ _ _).mono ?_); rintro e w1 ⟨rfl, hB⟩; have hg := fun o => hB.cell (p := ⟨w.heap.size, o, none⟩) (by simp <;> omega); have hp := fun o => hB.cell (p := ⟨w.heap.size + 1, o, none⟩) (by simp <;> omega)))
    go_ret
    exact ⟨by unfold wallB; rw [HI.out]; rfl, hb.trans (hB.mono (by simp; omega))⟩
  | true =>
    have HI := Lib.hid hI
    obtain ⟨i0, i1, i2, i3, i4, i5, i6, i7, i8, i9⟩ := at_in hI
    obtain ⟨b, off, rfl, hlt, hcell⟩ := wall_at hl i0 i1
    generalize hv : l.getD (y * W + x).toNat false = v at hcell
    have HV := Lib.hid hv; clear hv
    have HL := Lib.hid hl; clear hl
    have i1' : (y * W + x) < (l.length : Int) := i1
    go_enter Try.func75, Try.ntmps75
    go_wp2_with (first | ((with_reducible refine (rin_any _ _ _ _ _ _ _ _).mono ?_); rintro e w1 ⟨rfl, hB⟩; have hg := fun o => hB.cell (p := ⟨w.heap.size, o, none⟩) (by simp <;> omega); have hp := fun o => hB.cell (p := ⟨w.heap.size + 1, o, none⟩) (by simp <;> omega); have hq := ((hb.trans (hB.mono (by simp <;> omega))).cell (p := ⟨b, off + (y * W + x).toNat, none⟩) (by simp <;> omega)).trans hcell))
    go_ret
    exact ⟨by unfold wallB; rw [HI.out, HV.out]; rfl, hb.trans (hB.mono (by simp; omega))⟩

end Go.Proofs.Ytijobbdgiaiocaa.Con
