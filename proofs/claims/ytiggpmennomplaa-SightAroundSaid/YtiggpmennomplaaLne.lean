/-
  The contract of line: for every two tiles of a map: what it hands back: a closure over nine boxes, the two tiles swapped where the second lay above the first; only new memory is made.
-/
import Derived.Test.YtiggpmennomplaaSid
import Derived.Laws.EntriesVeiled
namespace Go.Proofs.Ytiggpmennomplaa.Con
open Go.RowKit Go.Shelf Lin
attribute [local go_sem] Oper.semAt_some

/-- The nine boxes of a line's iterator. -/
structure LB where
  a : Nat
  b : Nat
  l : Nat
  s : Nat
  r : Nat
  h : Nat
  p : Nat
  c : Nat
  m : Nat
def LB.within (q : LB) (s0 s1 : Nat) : Prop :=
  ((s0 ≤ q.a ∧ q.a < s1) ∧ (s0 ≤ q.b ∧ q.b < s1) ∧ (s0 ≤ q.l ∧ q.l < s1) ∧ (s0 ≤ q.s ∧ q.s < s1) ∧ (s0 ≤ q.r ∧ q.r < s1)) ∧ ((s0 ≤ q.h ∧ q.h < s1) ∧ (s0 ≤ q.p ∧ q.p < s1) ∧ (s0 ≤ q.c ∧ q.c < s1) ∧ (s0 ≤ q.m ∧ q.m < s1))
/-- As they lie. -/
structure LineM (V : World) (q : LB) (ax ay bx by' : Int) : Prop where
  a : BoxP V q.a ax ay
  b : BoxP V q.b bx by'
  l : Boxed V q.l 3 (.int .i64 (lo ax bx))
  r : Boxed V q.r 3 (.int .i64 (hi ax bx))
  s : Boxed V q.s 50 (.func (.func 57) #[] #[pt q.h, pt q.p, pt q.c, pt q.m])
  four : Sd4 V q.h q.p q.c q.m ax ay bx by'
/-- What a round keeps: what lay below n₀, and the blocks from s0 to s1. -/
def KS (n₀ s0 s1 : Nat) (V V' : World) : Prop := Below n₀ V V' ∧ ∀ k, s0 ≤ k → k < s1 → V'.heap[k]? = V.heap[k]?
theorem KS.trans {n₀ s0 s1 : Nat} {A B C : World} (h : KS n₀ s0 s1 A B) (k : KS n₀ s0 s1 B C) : KS n₀ s0 s1 A C := ⟨h.1.trans k.1, fun i h0 h1 => (k.2 i h0 h1).trans (h.2 i h0 h1)⟩
theorem KS.of_below {n₀ s0 s1 : Nat} {A B : World} (h : Below A.heap.size A B) (hn : n₀ ≤ A.heap.size) (hs : s1 ≤ A.heap.size) : KS n₀ s0 s1 A B := ⟨h.mono hn, fun k _ h1 => h.block k (by omega)⟩
theorem KS.putObj {n₀ s0 s1 m : Nat} (hn : n₀ ≤ m) (hs : s1 ≤ m) (W : World) (l : Nat) (o' : Obj) (hl : m ≤ l) : KS n₀ s0 s1 W (W.putObj l o') :=
  ⟨⟨rfl, rfl, rfl, by simp, fun k hk => World.putObj_heap_other (by omega)⟩, fun k _ h1 => World.putObj_heap_other (by omega)⟩
theorem LineM.kept {V V' : World} {q : LB} {ax ay bx by' : Int} {s0 s1 : Nat} (h : LineM V q ax ay bx by') (hq : q.within s0 s1) (hk : ∀ k, s0 ≤ k → k < s1 → V'.heap[k]? = V.heap[k]?) : LineM V' q ax ay bx by' := by
  obtain ⟨⟨⟨q1, q2⟩, ⟨q3, q4⟩, ⟨q5, q6⟩, ⟨q7, q8⟩, q9, q10⟩, ⟨q11, q12⟩, ⟨q13, q14⟩, ⟨q15, q16⟩, q17, q18⟩ := hq
  exact ⟨(hk _ q1 q2).trans h.a, (hk _ q3 q4).trans h.b, (hk _ q5 q6).trans h.l, (hk _ q9 q10).trans h.r, (hk _ q7 q8).trans h.s, (hk _ q11 q12).trans h.four.h, (hk _ q13 q14).trans h.four.a, (hk _ q15 q16).trans h.four.c, (hk _ q17 q18).trans h.four.m⟩

/-- What line hands back. -/
def LineAns (ax ay bx by' : Int) (w : World) (e : Ending) (w' : World) : Prop :=
  ∃ q : LB, e = .returned (.func (.func 46) #[] #[pt q.a, pt q.b, pt q.l, pt q.s, pt q.r]) ∧ q.within w.heap.size w'.heap.size ∧ LineM w' q ax ay bx by' ∧ Below w.heap.size w w'

theorem line_fin {w V w2 : World} {ax ay bx by' : Int} {l r h p c m : Nat} (hA : BoxP V w.heap.size ax ay) (hB : BoxP V (w.heap.size + 1) bx by') (hL : Boxed V l 3 (.int .i64 (lo ax bx))) (hR : Boxed V r 3 (.int .i64 (hi ax bx)))
    (hb : Below w.heap.size w V) (hl : w.heap.size ≤ l) (hr : w.heap.size ≤ r) (hs : V.heap.size ≤ h ∧ V.heap.size ≤ p ∧ V.heap.size ≤ c ∧ V.heap.size ≤ m) (h4 : Sd4 w2 h p c m ax ay bx by') (hB2 : Below V.heap.size V w2) :
    LineAns ax ay bx by' w (.returned (.func (.func 46) #[] #[pt w.heap.size, pt (w.heap.size + 1), pt l, pt w2.heap.size, pt r])) (w2.alloc (.cells #[.func (.func 57) #[] #[pt h, pt p, pt c, pt m]] 50)) := by
  have s1 := hb.size
  have s2 := hB2.size
  have e1 := hA.lt
  have e2 := hB.lt
  have e3 := hL.lt
  have e4 := hR.lt
  have e5 := h4.h.lt
  have e6 := h4.a.lt
  have e7 := h4.c.lt
  have e8 := h4.m.lt
  refine ⟨⟨w.heap.size, w.heap.size + 1, l, w2.heap.size, r, h, p, c, m⟩, rfl, ?_, ?_, (hb.trans (hB2.mono s1)).alloc (by omega) _⟩
  · unfold LB.within; simp only [World.size_alloc]; omega
  · exact ⟨(hA.kept (hB2.block _ hA.lt)).alloc _, (hB.kept (hB2.block _ hB.lt)).alloc _, old_at ((hB2.block _ hL.lt).trans hL), old_at ((hB2.block _ hR.lt).trans hR), new_at _ _ rfl, old_at h4.h, h4.a.alloc _, old_at h4.c, old_at h4.m⟩

abbrev V4 (w : World) (x y x' y' u1 u2 : Int) : World :=
  ((((w.alloc (.cells #[.int .i64 x, .int .i64 y] 26)).alloc (.cells #[.int .i64 x', .int .i64 y'] 26)).alloc (.cells #[.int .i64 u1] 3)).alloc (.cells #[.int .i64 u2] 3))
abbrev W4 (w : World) (x y x' y' u1 u2 : Int) : World := (V4 w x y x' y' u1 u2).drew
theorem w4_a (w : World) (x y x' y' u1 u2 : Int) : BoxP (W4 w x y x' y' u1 u2) w.heap.size x y := by
  have h : BoxP (V4 w x y x' y' u1 u2) w.heap.size x y := old_at (old_at (old_at (new_at _ _ rfl)))
  exact h
theorem w4_b (w : World) (x y x' y' u1 u2 : Int) : BoxP (W4 w x y x' y' u1 u2) (w.heap.size + 1) x' y' := by
  have h : BoxP (V4 w x y x' y' u1 u2) (w.heap.size + 1) x' y' := old_at (old_at (new_at _ _ (by simp)))
  exact h
theorem w4_1 (w : World) (x y x' y' u1 u2 : Int) : Boxed (W4 w x y x' y' u1 u2) (w.heap.size + 1 + 1) 3 (.int .i64 u1) := by
  have h : Boxed (V4 w x y x' y' u1 u2) (w.heap.size + 1 + 1) 3 (.int .i64 u1) := old_at (new_at _ _ (by simp))
  exact h
theorem w4_2 (w : World) (x y x' y' u1 u2 : Int) : Boxed (W4 w x y x' y' u1 u2) (w.heap.size + 1 + 1 + 1) 3 (.int .i64 u2) := by
  have h : Boxed (V4 w x y x' y' u1 u2) (w.heap.size + 1 + 1 + 1) 3 (.int .i64 u2) := new_at _ _ (by simp)
  exact h
theorem w4_below (w : World) (x y x' y' u1 u2 : Int) : Below w.heap.size w (W4 w x y x' y' u1 u2) :=
  (((((Below.refl _ w).alloc (Nat.le_refl _) _).alloc (by simp) _).alloc (by simp; omega) _).alloc (by simp; omega) _).drew
theorem lo_le {a b : Int} (h : a ≤ b) : lo a b = a := by unfold lo; rw [if_pos h]
theorem lo_gt {a b : Int} (h : ¬ a ≤ b) : lo a b = b := by unfold lo; rw [if_neg h]
theorem hi_le {a b : Int} (h : a ≤ b) : hi a b = b := by unfold hi; rw [if_pos h]
theorem hi_gt {a b : Int} (h : ¬ a ≤ b) : hi a b = a := by unfold hi; rw [if_neg h]

set_option maxRecDepth 100000 in
set_option maxHeartbeats 4000000 in
theorem line_up {ax ay bx by' : Int} (g : Geo ax ay bx by') (w : World) : Calls Try.prog 29 #[pv ax ay, pv bx by'] w (LineAns ax ay bx by' w) := by
  have gy : decide (by' < ay) = false := by have := g.up; simp; omega
  have hsid : ∀ w : World, Calls Try.prog 45 #[pv ax ay, pv bx by'] w (SideAns ax ay bx by' w) := sides_any g
  have HSID := Lib.hid hsid; clear hsid
  obtain ⟨⟨a1, a1'⟩, ⟨a2, a2'⟩, ⟨b1, b1'⟩, ⟨b2, b2'⟩, up⟩ := g
  by_cases hx : ax ≤ bx
  · have el := lo_le hx
    have er := hi_le hx
    have em : (if ax < bx then bx else ax) = bx := by split <;> omega
    have EL := Lib.hid el; clear el
    have ER := Lib.hid er; clear er
    have EM := Lib.hid em; clear em
    go_enter Try.func29, Try.ntmps29
    go_wp2
    go_region
    all_goals rw [EM.out]
    all_goals go_wp2_with (first
      | ((with_reducible refine (HSID.out _).mono ?_); rintro e w2 ⟨h, a, c, m, rfl, hb, hs, hB2⟩))
    all_goals go_ret
    all_goals first
      | exact line_fin (w4_a ..) (w4_b ..) (by rw [EL.out]; exact w4_1 ..) (by rw [ER.out]; exact w4_2 ..) (w4_below ..) (by omega) (by omega) hb hs hB2
      | exact line_fin (w4_a ..) (w4_b ..) (by rw [EL.out]; exact w4_2 ..) (by rw [ER.out]; exact w4_1 ..) (w4_below ..) (by omega) (by omega) hb hs hB2
  · have el := lo_gt hx
    have er := hi_gt hx
    have hx' : bx < ax := by omega
    have EL := Lib.hid el; clear el
    have ER := Lib.hid er; clear er
    go_enter Try.func29, Try.ntmps29
    go_wp2
    go_region
    all_goals go_wp2_with (first
      | ((with_reducible refine (HSID.out _).mono ?_); rintro e w2 ⟨h, a, c, m, rfl, hb, hs, hB2⟩))
    all_goals go_ret
    all_goals first
      | exact line_fin (w4_a ..) (w4_b ..) (by rw [EL.out]; exact w4_1 ..) (by rw [ER.out]; exact w4_2 ..) (w4_below ..) (by omega) (by omega) hb hs hB2
      | exact line_fin (w4_a ..) (w4_b ..) (by rw [EL.out]; exact w4_2 ..) (by rw [ER.out]; exact w4_1 ..) (w4_below ..) (by omega) (by omega) hb hs hB2

set_option maxRecDepth 100000 in
set_option maxHeartbeats 4000000 in
theorem line_down {ax ay bx by' : Int} (g : Geo ax ay bx by') (hd : ay < by') (w : World) : Calls Try.prog 29 #[pv bx by', pv ax ay] w (LineAns ax ay bx by' w) := by
  have hsid : ∀ w : World, Calls Try.prog 45 #[pv ax ay, pv bx by'] w (SideAns ax ay bx by' w) := sides_any g
  have HSID := Lib.hid hsid; clear hsid
  obtain ⟨⟨a1, a1'⟩, ⟨a2, a2'⟩, ⟨b1, b1'⟩, ⟨b2, b2'⟩, up⟩ := g
  by_cases hx : ax ≤ bx
  · have el := lo_le hx
    have er := hi_le hx
    have em : (if ax < bx then bx else ax) = bx := by split <;> omega
    have EL := Lib.hid el; clear el
    have ER := Lib.hid er; clear er
    have EM := Lib.hid em; clear em
    go_enter Try.func29, Try.ntmps29
    go_wp2
    go_region
    all_goals rw [EM.out]
    all_goals go_wp2_with (first
      | ((with_reducible refine (HSID.out _).mono ?_); rintro e w2 ⟨h, a, c, m, rfl, hb, hs, hB2⟩))
    all_goals go_ret
    all_goals first
      | exact line_fin (w4_a ..) (w4_b ..) (by rw [EL.out]; exact w4_1 ..) (by rw [ER.out]; exact w4_2 ..) (w4_below ..) (by omega) (by omega) hb hs hB2
      | exact line_fin (w4_a ..) (w4_b ..) (by rw [EL.out]; exact w4_2 ..) (by rw [ER.out]; exact w4_1 ..) (w4_below ..) (by omega) (by omega) hb hs hB2
  · have el := lo_gt hx
    have er := hi_gt hx
    have hx' : bx < ax := by omega
    have EL := Lib.hid el; clear el
    have ER := Lib.hid er; clear er
    go_enter Try.func29, Try.ntmps29
    go_wp2
    go_region
    all_goals go_wp2_with (first
      | ((with_reducible refine (HSID.out _).mono ?_); rintro e w2 ⟨h, a, c, m, rfl, hb, hs, hB2⟩))
    all_goals go_ret
    all_goals first
      | exact line_fin (w4_a ..) (w4_b ..) (by rw [EL.out]; exact w4_1 ..) (by rw [ER.out]; exact w4_2 ..) (w4_below ..) (by omega) (by omega) hb hs hB2
      | exact line_fin (w4_a ..) (w4_b ..) (by rw [EL.out]; exact w4_2 ..) (by rw [ER.out]; exact w4_1 ..) (w4_below ..) (by omega) (by omega) hb hs hB2

/-- The tiles of a map, told in the order in which line goes over them. -/
theorem line_any {ax ay bx by' : Int} (h1 : 0 ≤ ax ∧ ax ≤ 256) (h2 : 0 ≤ ay ∧ ay ≤ 256) (h3 : 0 ≤ bx ∧ bx ≤ 256) (h4 : 0 ≤ by' ∧ by' ≤ 256) :
    ∃ px py qx qy, Geo px py qx qy ∧ lineL px py qx qy = lineL ax ay bx by' ∧ ∀ w : World, Calls Try.prog 29 #[pv ax ay, pv bx by'] w (LineAns px py qx qy w) := by
  by_cases h : by' < ay
  · exact ⟨bx, by', ax, ay, ⟨h3, h4, h1, h2, by omega⟩, lineL_comm .., fun w => line_down ⟨h3, h4, h1, h2, by omega⟩ (by omega) w⟩
  · exact ⟨ax, ay, bx, by', ⟨h1, h2, h3, h4, by omega⟩, rfl, fun w => line_up ⟨h1, h2, h3, h4, by omega⟩ w⟩
end Go.Proofs.Ytiggpmennomplaa.Con
