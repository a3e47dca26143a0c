/-
  The contracts of sides and of what it hands back: on which side of the straight line between two tiles of a map a tile lies; only new memory is made, and the closure only reads.
-/
import Derived.Test.YtiggpmennomplaaLin
namespace Go.Proofs.Ytiggpmennomplaa.Con
open Go.RowKit Go.Shelf Lin
attribute [local go_sem] Oper.semAt_some

abbrev pt (b : Nat) : Value := .pointer (some ⟨b, 0, none⟩)
/-- Two tiles, the second not above the first, within a map. -/
structure Geo (ax ay bx by' : Int) : Prop where
  a1 : 0 ≤ ax ∧ ax ≤ 256
  a2 : 0 ≤ ay ∧ ay ≤ 256
  b1 : 0 ≤ bx ∧ bx ≤ 256
  b2 : 0 ≤ by' ∧ by' ≤ 256
  up : ay ≤ by'

/-- The four boxes of the closure. -/
structure Sd4 (V : World) (h a c m : Nat) (ax ay bx by' : Int) : Prop where
  h : Boxed V h 3 (.int .i64 (by' - ay))
  a : BoxP V a ax ay
  c : Boxed V c 3 (.int .i64 (bx - ax))
  m : Boxed V m 3 (.int .i64 (most ax ay bx by'))

theorem prod_in {a b : Int} (ha : -512 ≤ a ∧ a ≤ 512) (hb : -512 ≤ b ∧ b ≤ 512) : -262144 ≤ a * b ∧ a * b ≤ 262144 := by
  have h1 : (a * b).natAbs ≤ 512 * 512 := by rw [Int.natAbs_mul]; exact Nat.mul_le_mul (by omega) (by omega)
  omega

set_option maxRecDepth 100000 in
theorem side_any {ax ay bx by' : Int} (g : Geo ax ay bx by') (x y : Int) (hx : -1 ≤ x ∧ x ≤ 256) (hy : 0 ≤ y ∧ y ≤ 256) (h a c m : Nat) (w : World) (hs : Sd4 w h a c m ax ay bx by') :
    Calls Try.prog 57 #[.int .i64 x, .int .i64 y, pt h, pt a, pt c, pt m] w fun e w' => e = .returned (.int .i64 (sd ax ay bx by' x y)) ∧ w' = w := by
  obtain ⟨⟨a1, a1'⟩, ⟨a2, a2'⟩, ⟨b1, b1'⟩, ⟨b2, b2'⟩, up⟩ := g
  have p1 := prod_in (a := by' - ay) (b := x - ax) (by omega) (by omega)
  have p2 := prod_in (a := bx - ax) (b := y - ay) (by omega) (by omega)
  have hm : 0 ≤ most ax ay bx by' ∧ most ax ay bx by' ≤ 1024 := by unfold most ab; split <;> split <;> omega
  have c1 := hs.h.cell
  have c2 := hs.a.cell0
  have c3 := hs.a.cell1
  have c4 := hs.c.cell
  have c5 := hs.m.cell
  have ho : 2 * ((by' - ay) * (x - ax) - (bx - ax) * (y - ay)) = off ax ay bx by' x y := rfl
  by_cases t1 : off ax ay bx by' x y < - most ax ay bx by'
  · have e : sd ax ay bx by' x y = -1 := by unfold sd; rw [if_pos t1]
    have E := Lib.hid e; clear e
    rw [← ho] at t1
    clear ho
    generalize most ax ay bx by' = M at c5 hm t1
    go_enter Try.func57, Try.ntmps57
    go_wp2
    go_ret
    exact ⟨by rw [E.out]; rfl, rfl⟩
  · have t1' : decide (off ax ay bx by' x y < - most ax ay bx by') = false := by simpa using t1
    by_cases t2 : most ax ay bx by' < off ax ay bx by' x y
    · have e : sd ax ay bx by' x y = 1 := by unfold sd; rw [if_neg t1, if_pos t2]
      have E := Lib.hid e; clear e
      rw [← ho] at t1 t1' t2
      clear ho
      generalize most ax ay bx by' = M at c5 hm t1 t1' t2
      go_enter Try.func57, Try.ntmps57
      go_wp2
      go_ret
      exact ⟨by rw [E.out]; rfl, rfl⟩
    · have e : sd ax ay bx by' x y = 0 := by unfold sd; rw [if_neg t1, if_neg t2]
      have E := Lib.hid e; clear e
      have t2' : decide (most ax ay bx by' < off ax ay bx by' x y) = false := by simpa using t2
      rw [← ho] at t1 t1' t2 t2'
      clear ho
      generalize most ax ay bx by' = M at c5 hm t1 t1' t2 t2'
      go_enter Try.func57, Try.ntmps57
      go_wp2
      go_ret
      exact ⟨by rw [E.out]; rfl, rfl⟩

abbrev V5 (w : World) (x y x' y' u1 u2 u3 : Int) : World :=
  (((((w.alloc (.cells #[.int .i64 x, .int .i64 y] 26)).alloc (.cells #[.int .i64 x', .int .i64 y'] 26)).alloc (.cells #[.int .i64 u1] 3)).alloc (.cells #[.int .i64 u2] 3)).alloc (.cells #[.int .i64 u3] 3))
abbrev W5 (w : World) (x y x' y' u1 u2 u3 : Int) : World := (V5 w x y x' y' u1 u2 u3).drew
theorem w5_a (w : World) (x y x' y' u1 u2 u3 : Int) : BoxP (W5 w x y x' y' u1 u2 u3) w.heap.size x y := by
  have h : BoxP (V5 w x y x' y' u1 u2 u3) w.heap.size x y := old_at (old_at (old_at (old_at (new_at _ _ rfl))))
  exact h
theorem w5_1 (w : World) (x y x' y' u1 u2 u3 : Int) : Boxed (W5 w x y x' y' u1 u2 u3) (w.heap.size + 1 + 1) 3 (.int .i64 u1) := by
  have h : Boxed (V5 w x y x' y' u1 u2 u3) (w.heap.size + 1 + 1) 3 (.int .i64 u1) := old_at (old_at (new_at _ _ (by simp)))
  exact h
theorem w5_2 (w : World) (x y x' y' u1 u2 u3 : Int) : Boxed (W5 w x y x' y' u1 u2 u3) (w.heap.size + 1 + 1 + 1) 3 (.int .i64 u2) := by
  have h : Boxed (V5 w x y x' y' u1 u2 u3) (w.heap.size + 1 + 1 + 1) 3 (.int .i64 u2) := old_at (new_at _ _ (by simp))
  exact h
theorem w5_3 (w : World) (x y x' y' u1 u2 u3 : Int) : Boxed (W5 w x y x' y' u1 u2 u3) (w.heap.size + 1 + 1 + 1 + 1) 3 (.int .i64 u3) := by
  have h : Boxed (V5 w x y x' y' u1 u2 u3) (w.heap.size + 1 + 1 + 1 + 1) 3 (.int .i64 u3) := new_at _ _ (by simp)
  exact h
theorem w5_below (w : World) (x y x' y' u1 u2 u3 : Int) : Below w.heap.size w (W5 w x y x' y' u1 u2 u3) :=
  ((((((Below.refl _ w).alloc (Nat.le_refl _) _).alloc (by simp) _).alloc (by simp; omega) _).alloc (by simp; omega) _).alloc (by simp; omega) _).drew

/-- What sides hands back: a closure over four boxes. -/
def SideAns (ax ay bx by' : Int) (w : World) (e : Ending) (w' : World) : Prop :=
  ∃ h a c m, e = .returned (.func (.func 57) #[] #[pt h, pt a, pt c, pt m]) ∧ (w.heap.size ≤ h ∧ w.heap.size ≤ a ∧ w.heap.size ≤ c ∧ w.heap.size ≤ m) ∧ Sd4 w' h a c m ax ay bx by' ∧ Below w.heap.size w w'

set_option maxRecDepth 100000 in
set_option maxHeartbeats 2000000 in
theorem sides_any {ax ay bx by' : Int} (g : Geo ax ay bx by') (w : World) : Calls Try.prog 45 #[pv ax ay, pv bx by'] w (SideAns ax ay bx by' w) := by
  have gm : most ax ay bx by' = (if bx - ax < 0 then -(bx - ax) else bx - ax) + (by' - ay) := by unfold most ab; rw [if_neg (show ¬ by' - ay < 0 by have := g.up; omega)]
  have GM := Lib.hid gm; clear gm
  obtain ⟨⟨a1, a1'⟩, ⟨a2, a2'⟩, ⟨b1, b1'⟩, ⟨b2, b2'⟩, up⟩ := g
  go_enter Try.func45, Try.ntmps45
  go_wp2
  go_region
  all_goals
    by_cases hs : bx - ax < 0
    · have e : most ax ay bx by' = -(bx - ax) + (by' - ay) := by rw [GM.out, if_pos hs]
      have E := Lib.hid e; clear e
      go_wp2
      go_ret
      first
        | exact ⟨_, _, _, _, rfl, by omega, ⟨w5_2 .., w5_a .., w5_1 .., by rw [E.out]; exact w5_3 ..⟩, w5_below ..⟩
        | exact ⟨_, _, _, _, rfl, by omega, ⟨w5_1 .., w5_a .., w5_2 .., by rw [E.out]; exact w5_3 ..⟩, w5_below ..⟩
    · have e : most ax ay bx by' = (bx - ax) + (by' - ay) := by rw [GM.out, if_neg hs]
      have E := Lib.hid e; clear e
      have hs2 : -(bx - ax) ≤ bx - ax := by omega
      go_wp2
      go_ret
      first
        | exact ⟨_, _, _, _, rfl, by omega, ⟨w5_2 .., w5_a .., w5_1 .., by rw [E.out]; exact w5_3 ..⟩, w5_below ..⟩
        | exact ⟨_, _, _, _, rfl, by omega, ⟨w5_1 .., w5_a .., w5_2 .., by rw [E.out]; exact w5_3 ..⟩, w5_below ..⟩
end Go.Proofs.Ytiggpmennomplaa.Con
