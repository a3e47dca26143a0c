/-
  Contracts of Right, In and Wall, the program's and the document's, and of Few: for every grid whose walls read as a list, and every tile; only new memory is made.
-/
import Derived.Test.YtijobbdgiaiocaaSml
import Derived.Shelf.Abstract
namespace Go.Proofs.Ytijobbdgiaiocaa.Con
open Go.RowKit

/-- A tile as a value. -/
abbrev pv (x y : Int) : Value := .agg #[.int .i64 x, .int .i64 y]
/-- A grid as a value. -/
abbrev gv (W H : Int) (A : Option Addr) (n c : Nat) : Value := .agg #[.int .i64 W, .int .i64 H, .slice A n c]

/-- A row of truths reads as the list, from blocks below B. -/
def RB (w : World) (B : Nat) (A : Option Addr) (l : List Bool) : Prop := l = [] ∨ ∃ b off, A = some ⟨b, off, none⟩ ∧ b < B ∧ ∀ k x, l[k]? = some x → w.cell? ⟨b, off + k, none⟩ = some (.bool x)
theorem RB.below {w w' : World} {B B' : Nat} {A : Option Addr} {l : List Bool} (h : RB w B A l) (hb : Below B' w w') (hB : B ≤ B') : RB w' B A l := by
  rcases h with rfl | ⟨b, off, hA, hlt, hc⟩
  · exact .inl rfl
  · exact .inr ⟨b, off, hA, hlt, fun k x hx => (World.cell?_of_block (w := w) (hb.block b (by omega))).trans (hc k x hx)⟩

def rightB (W H : Int) (n : Nat) : Bool := (sideB W && sideB H) && decide ((n : Int) = W * H)
def inB (W H : Int) (n : Nat) (x y : Int) : Bool := (((rightB W H n && decide (0 ≤ x)) && decide (x < W)) && decide (0 ≤ y)) && decide (y < H)
def wallB (W H : Int) (l : List Bool) (x y : Int) : Bool := !inB W H l.length x y || l.getD (y * W + x).toNat false

theorem side_in {n : Int} (h : sideB n = true) : 1 ≤ n ∧ n ≤ 256 := by unfold sideB at h; simp at h; exact h
theorem area_in {W H : Int} (h1 : 1 ≤ W ∧ W ≤ 256) (h2 : 1 ≤ H ∧ H ≤ 256) : 1 ≤ W * H ∧ W * H ≤ 65536 := by
  have e1 : W * H ≤ 256 * 256 := Int.mul_le_mul h1.2 h2.2 (by omega) (by omega)
  have e2 : 0 < W * H := Int.mul_pos (by omega) (by omega)
  omega

theorem box1 (w : World) (W H : Int) (A : Option Addr) (n c : Nat) : Below w.heap.size w (w.alloc (.cells #[.int .i64 W, .int .i64 H, .slice A n c] 27)) := (Below.refl _ w).alloc (Nat.le_refl _) _
theorem boxgp (w : World) (W H : Int) (A : Option Addr) (n c : Nat) (x y : Int) : Below w.heap.size w ((w.alloc (.cells #[.int .i64 W, .int .i64 H, .slice A n c] 27)).alloc (.cells #[.int .i64 x, .int .i64 y] 29)) := (box1 w W H A n c).alloc (by simp) _

theorem right_any (W H : Int) (A : Option Addr) (n c : Nat) (w : World) :
    Calls Try.prog 86 #[gv W H A n c] w fun e w' => e = .returned (.bool (rightB W H n)) ∧ Below w.heap.size w w' := by
  have hb := box1 w W H A n c
  cases hW : sideB W with
  | false =>
    have HW := Lib.hid hW
    go_enter Try.func86, Try.ntmps86
    go_wp2_with (first | ((with_reducible refine (isSide_any W _).mono ?_); rintro e w' ⟨rfl, rfl⟩))
    go_ret
    exact ⟨by unfold rightB; rw [HW.out]; rfl, hb⟩
  | true =>
    cases hH : sideB H with
    | false =>
      have HW := Lib.hid hW
      have HH := Lib.hid hH
      go_enter Try.func86, Try.ntmps86
      go_wp2_with (first | ((with_reducible refine (isSide_any W _).mono ?_); rintro e w' ⟨rfl, rfl⟩) | ((with_reducible refine (isSide_any H _).mono ?_); rintro e w' ⟨rfl, rfl⟩))
      go_ret
      exact ⟨by unfold rightB; rw [HW.out, HH.out]; rfl, hb⟩
    | true =>
      have b1 := side_in hW
      have b2 := side_in hH
      have b3 := area_in b1 b2
      have HW := Lib.hid hW
      have HH := Lib.hid hH
      go_enter Try.func86, Try.ntmps86
      go_wp2_with (first | ((with_reducible refine (isSide_any W _).mono ?_); rintro e w' ⟨rfl, rfl⟩) | ((with_reducible refine (isSide_any H _).mono ?_); rintro e w' ⟨rfl, rfl⟩))
      go_ret
      exact ⟨by unfold rightB; rw [HW.out, HH.out]; rfl, hb⟩

theorem in_any (W H : Int) (A : Option Addr) (n c : Nat) (x y : Int) (w : World) :
    Calls Try.prog 101 #[gv W H A n c, pv x y] w fun e w' => e = .returned (.bool (inB W H n x y)) ∧ Below w.heap.size w w' := by
  have hb := boxgp w W H A n c x y
  cases hR : rightB W H n with
  | false =>
    have HR := Lib.hid hR
    go_enter Try.func101, Try.ntmps101
    go_wp2_with (first | ((with_reducible refine (right_any _ _ _ _ _ _).mono ?_); rintro e w1 ⟨rfl, hB⟩; have hg := fun o => hB.cell (p := ⟨w.heap.size, o, none⟩) (by simp <;> omega); have hp := fun o => hB.cell (p := ⟨w.heap.size + 1, o, none⟩) (by simp <;> omega)))
    go_ret
    exact ⟨by unfold inB; rw [HR.out]; rfl, hb.trans (hB.mono (by simp; omega))⟩
  | true =>
    have HR := Lib.hid hR
    by_cases x1 : 0 ≤ x
    · by_cases x2 : x < W
      · by_cases y1 : 0 ≤ y
        · by_cases y2 : y < H
          · go_enter Try.func101, Try.ntmps101
            go_wp2_with (first | ((with_reducible refine (right_any _ _ _ _ _ _).mono ?_); rintro e w1 ⟨rfl, hB⟩; have hg := fun o => hB.cell (p := ⟨w.heap.size, o, none⟩) (by simp <;> omega); have hp := fun o => hB.cell (p := ⟨w.heap.size + 1, o, none⟩) (by simp <;> omega)))
            go_ret
            exact ⟨by unfold inB; rw [HR.out]; simp [x1, x2, y1, y2], hb.trans (hB.mono (by simp; omega))⟩
          · have y2' : decide (y < H) = false := by simpa using y2
            go_enter Try.func101, Try.ntmps101
            go_wp2_with (first | ((with_reducible refine (right_any _ _ _ _ _ _).mono ?_); rintro e w1 ⟨rfl, hB⟩; have hg := fun o => hB.cell (p := ⟨w.heap.size, o, none⟩) (by simp <;> omega); have hp := fun o => hB.cell (p := ⟨w.heap.size + 1, o, none⟩) (by simp <;> omega)))
            go_ret
            exact ⟨by unfold inB; rw [y2']; simp, hb.trans (hB.mono (by simp; omega))⟩
        · have y1' : decide (0 ≤ y) = false := by simpa using y1
          go_enter Try.func101, Try.ntmps101
          go_wp2_with (first | ((with_reducible refine (right_any _ _ _ _ _ _).mono ?_); rintro e w1 ⟨rfl, hB⟩; have hg := fun o => hB.cell (p := ⟨w.heap.size, o, none⟩) (by simp <;> omega); have hp := fun o => hB.cell (p := ⟨w.heap.size + 1, o, none⟩) (by simp <;> omega)))
          go_ret
          exact ⟨by unfold inB; rw [y1']; simp, hb.trans (hB.mono (by simp; omega))⟩
      · have x2' : decide (x < W) = false := by simpa using x2
        go_enter Try.func101, Try.ntmps101
        go_wp2_with (first | ((with_reducible refine (right_any _ _ _ _ _ _).mono ?_); rintro e w1 ⟨rfl, hB⟩; have hg := fun o => hB.cell (p := ⟨w.heap.size, o, none⟩) (by simp <;> omega); have hp := fun o => hB.cell (p := ⟨w.heap.size + 1, o, none⟩) (by simp <;> omega)))
        go_ret
        exact ⟨by unfold inB; rw [x2']; simp, hb.trans (hB.mono (by simp; omega))⟩
    · have x1' : decide (0 ≤ x) = false := by simpa using x1
      go_enter Try.func101, Try.ntmps101
      go_wp2_with (first | ((with_reducible refine (right_any _ _ _ _ _ _).mono ?_); rintro e w1 ⟨rfl, hB⟩; have hg := fun o => hB.cell (p := ⟨w.heap.size, o, none⟩) (by simp <;> omega); have hp := fun o => hB.cell (p := ⟨w.heap.size + 1, o, none⟩) (by simp <;> omega)))
      go_ret
      exact ⟨by unfold inB; rw [x1']; simp, hb.trans (hB.mono (by simp; omega))⟩

theorem at_in {W H : Int} {n : Nat} {x y : Int} (h : inB W H n x y = true) : 0 ≤ y * W + x ∧ y * W + x < n ∧ 0 ≤ y * W ∧ y * W ≤ 65536 ∧ 0 ≤ x ∧ x < W ∧ W ≤ 256 ∧ 0 ≤ y ∧ y < H ∧ H ≤ 256 := by
  unfold inB rightB at h
  simp only [Bool.and_eq_true, decide_eq_true_eq] at h
  obtain ⟨⟨⟨⟨⟨⟨h1, h2⟩, h3⟩, h4⟩, h5⟩, h6⟩, h7⟩ := h
  have b1 := side_in h1
  have b2 := side_in h2
  have e1 : 0 ≤ y * W := Int.mul_nonneg h6 (by omega)
  have e2 : (y + 1) * W ≤ H * W := Int.mul_le_mul_of_nonneg_right (by omega) (by omega)
  have e3 := area_in b1 b2
  rw [Int.add_mul, Int.mul_comm H W] at e2
  omega

theorem wall_at {w : World} {B : Nat} {A : Option Addr} {l : List Bool} (h : RB w B A l) {i : Int} (h0 : 0 ≤ i) (h1 : i < (l.length : Int)) : ∃ b off, A = some ⟨b, off, none⟩ ∧ b < B ∧ w.cell? ⟨b, off + i.toNat, none⟩ = some (.bool (l.getD i.toNat false)) := by
  rcases h with rfl | ⟨b, off, hA, hlt, hc⟩
  · simp at h1; omega
  · exact ⟨b, off, hA, hlt, hc _ _ (by rw [List.getD_eq_getElem?_getD, List.getElem?_eq_getElem (by omega)]; rfl)⟩

theorem wall_any (W H : Int) (A : Option Addr) (l : List Bool) (c : Nat) (x y : Int) (w : World) (B : Nat) (hl : RB w B A l) (hB0 : B ≤ w.heap.size) :
    Calls Try.prog 87 #[gv W H A l.length c, pv x y] w fun e w' => e = .returned (.bool (wallB W H l x y)) ∧ Below w.heap.size w w' := by
  have hb := boxgp w W H A l.length c x y
  cases hI : inB W H l.length x y with
  | false =>
    have HI := Lib.hid hI
    go_enter Try.func87, Try.ntmps87
    go_wp2_with (first | ((with_reducible refine (in_any _ _ _ _ _ _ _ _).mono ?_); rintro e w1 ⟨rfl, hB⟩; have hg := fun o => hB.cell (p := ⟨w.heap.size, o, none⟩) (by simp <;> omega); have hp := fun o => hB.cell (p := ⟨w.heap.size + 1, o, none⟩) (by simp <;> omega)))
    go_ret
    exact ⟨by unfold wallB; rw [HI.out]; rfl, hb.trans (hB.mono (by simp; omega))⟩
  | true =>
    have HI := Lib.hid hI
    obtain ⟨i0, i1, i2, i3, i4, i5, i6, i7, i8, i9⟩ := at_in hI
    obtain ⟨b, off, rfl, hlt, hcell⟩ := wall_at hl i0 i1
    generalize hv : l.getD (y * W + x).toNat false = v at hcell
    have HV := Lib.hid hv; clear hv
    have HL := Lib.hid hl; clear hl
    have i1' : (y * W + x) < (l.length : Int) := i1
    go_enter Try.func87, Try.ntmps87
    go_wp2_with (first | ((with_reducible refine (in_any _ _ _ _ _ _ _ _).mono ?_); rintro e w1 ⟨rfl, hB⟩; have hg := fun o => hB.cell (p := ⟨w.heap.size, o, none⟩) (by simp <;> omega); have hp := fun o => hB.cell (p := ⟨w.heap.size + 1, o, none⟩) (by simp <;> omega); have hq := ((hb.trans (hB.mono (by simp <;> omega))).cell (p := ⟨b, off + (y * W + x).toNat, none⟩) (by simp <;> omega)).trans hcell))
    go_ret
    exact ⟨by unfold wallB; rw [HI.out, HV.out]; rfl, hb.trans (hB.mono (by simp; omega))⟩
end Go.Proofs.Ytijobbdgiaiocaa.Con
