/-
  The laws' small case comes out right.
-/
import Derived.Test.YtafglhgpkmnnlaaSht
namespace Go.Proofs.Ytafglhgpkmnnlaa.Con
open Go.RowKit Go.Maps

theorem small_take : takeI [(⟨1, 5⟩ : Sh), ⟨2, 10⟩] 8 = ([⟨2, 7⟩], 0, [1]) := by decide
theorem s_take (V : World) (g : Nat) (hr : RW sh V (g + 1) (some ⟨g, 0, none⟩) [(⟨1, 5⟩ : Sh), ⟨2, 10⟩]) (hg : g + 1 ≤ V.heap.size) :
    Calls Try.prog 7 #[.slice (some ⟨g, 0, none⟩) 2 2, .int .i64 8] V fun e w' => (∃ A1 c1 A2 c2, e = .returned (.tuple #[.slice A1 1 c1, .int .i64 0, .slice A2 1 c2]) ∧ Hid (Two sh nu V w' V.heap.size (.slice A1 1 c1) (.slice A2 1 c2) [⟨2, 7⟩] [1])) := by
  refine (take_any _ 2 _ 2 (g + 1) 8 V rfl hr (by intro x hx; simp at hx; rcases hx with rfl | rfl <;> exact ⟨⟨by simp, by simp⟩, ⟨by simp, by simp⟩, trivial⟩) hg (by omega) ⟨by omega, by omega⟩).mono ?_
  rintro e w' ⟨A1, c1, L, m, A2, c2, G, rfl, h1, h2⟩
  have h3 := h1.out
  rw [small_take] at h3
  injection h3 with e1 e2
  injection e2 with e2 e3
  subst e1; subst e2; subst e3
  exact ⟨A1, c1, A2, c2, rfl, h2⟩
theorem s_more (V : World) : Calls Try.prog 15 #[.int .i64 50, .int .i64 (-20)] V fun e w' => e = .returned (.int .i64 40) ∧ V = w' := more_any 50 (-20) ⟨by omega, by omega⟩ V
theorem s_all (V : World) (g B : Nat) (hr : RW nu V B (some ⟨g, 0, none⟩) [50, -50]) : Calls Try.prog 13 #[.int .i64 100, .slice (some ⟨g, 0, none⟩) 2 2] V fun e w' => e = .returned (.int .i64 75) ∧ V = w' :=
  all_any 100 _ 2 [50, -50] B V hr (by intro x hx; simp at hx; rcases hx with rfl | rfl <;> exact ⟨by omega, by omega⟩) (by simp)
theorem s_left (V : World) (A : Option Addr) (c B : Nat) (hr : RW sh V B A [⟨2, 7⟩]) (hB : B ≤ V.heap.size) : Calls Try.prog 11 #[.slice A 1 c] V fun e w' => e = .returned (.int .i64 7) ∧ Below V.heap.size V w' :=
  left_any A c [⟨2, 7⟩] 1 B V rfl hr (by intro x hx; simp at hx; subst hx; exact ⟨⟨by simp, by simp⟩, ⟨by simp, by simp⟩, trivial⟩) hB (by omega)

/-- What lies there behind Take. -/
structure SX (w V : World) (A1 A2 : Option Addr) : Prop where
  b : Below w.heap.size w V
  s : RW sh V V.heap.size A1 [⟨2, 7⟩]
  g : RW nu V V.heap.size A2 [1]
theorem SX.of {w V V' : World} {A1 A2 : Option Addr} (h : SX w V A1 A2) (hb : Below V.heap.size V V') : SX w V' A1 A2 :=
  ⟨below_more h.b hb h.b.size, (h.s.below hb (Nat.le_refl _)).more hb.size, (h.g.below hb (Nat.le_refl _)).more hb.size⟩
theorem SX.start {w V V' : World} {A1 A2 : Option Addr} {c1 c2 : Nat} (h : Two sh nu V V' V.heap.size (.slice A1 1 c1) (.slice A2 1 c2) [⟨2, 7⟩] [1]) (hb : Below w.heap.size w V) : SX w V' A1 A2 := by
  obtain ⟨A, c, e, hr, _⟩ := h.a.shape
  injection e with e
  subst e
  obtain ⟨A', c', e', hr', _⟩ := h.b.shape
  injection e' with e'
  subst e'
  exact ⟨below_more hb h.below hb.size, hr, hr'⟩

set_option maxHeartbeats 4000000 in
theorem small_any (w : World) : Calls Try.prog 6 #[] w fun e w' => e = .returned (.bool true) ∧ Below w.heap.size w w' := by
  have HB0 : Hid (Below w.heap.size w (w.alloc (.cells #[.int .i64 1, .int .i64 5, .int .i64 2, .int .i64 10] 31))) := Lib.hid (below_box _ _)
  have HR0 : Hid (RW sh (w.alloc (.cells #[.int .i64 1, .int .i64 5, .int .i64 2, .int .i64 10] 31)) (w.heap.size + 1) (some ⟨w.heap.size, 0, none⟩) [⟨1, 5⟩, ⟨2, 10⟩]) := Lib.hid (rw_at sh _ _ _ _ _ rfl rfl rfl)
  go_enter Try.func6, Try.ntmps6
  go_wp2_with (first
    | ((with_reducible refine (s_take _ w.heap.size HR0.out (by simp)).mono ?_); rintro e w1 ⟨A1, c1, A2, c2, rfl, HT⟩; have HX1 := Lib.hid (SX.start HT.out HB0.out); have HX1a := Lib.hid (HX1.out.of (below_box w1 (.cells #[.int .i64 2, .int .i64 7] 31))); have HR1 : Hid (RW sh (w1.alloc (.cells #[.int .i64 2, .int .i64 7] 31)) (w1.heap.size + 1) (some ⟨w1.heap.size, 0, none⟩) [⟨2, 7⟩]) := Lib.hid (rw_at sh _ _ _ _ _ rfl rfl rfl); clear HT)
    | ((with_reducible refine (same_shB _ _ _ _ 1 _ _ [⟨2, 7⟩] _ rfl HX1a.out.s HR1.out (by omega)).mono ?_); rintro e w2 ⟨rfl, hB2⟩; have HX2 := Lib.hid (HX1a.out.of hB2); have HX2a := Lib.hid (HX2.out.of (below_box w2 (.cells #[.int .i64 1] 3))); have HR2 : Hid (RW nu (w2.alloc (.cells #[.int .i64 1] 3)) (w2.heap.size + 1) (some ⟨w2.heap.size, 0, none⟩) [1]) := Lib.hid (rw_at nu _ _ _ _ _ rfl rfl rfl); clear hB2)
    | ((with_reducible refine (same_nuB _ _ _ _ 1 _ _ [1] _ rfl HX2a.out.g HR2.out (by omega)).mono ?_); rintro e w3 ⟨rfl, hB3⟩; have HX3 := Lib.hid (HX2a.out.of hB3); have HX3a := Lib.hid (HX3.out.of (below_box w3 (.cells #[.int .i64 50, .int .i64 (-50)] 3))); have HR3 : Hid (RW nu (w3.alloc (.cells #[.int .i64 50, .int .i64 (-50)] 3)) (w3.heap.size + 1) (some ⟨w3.heap.size, 0, none⟩) [50, -50]) := Lib.hid (rw_at nu _ _ _ _ _ rfl rfl rfl); clear hB3)
    | ((with_reducible refine (s_more _).mono ?_); rintro e w4 ⟨rfl, rfl⟩)
    | ((with_reducible refine (s_all _ _ _ HR3.out).mono ?_); rintro e w5 ⟨rfl, rfl⟩)
    | ((with_reducible refine (s_left _ _ _ _ HX3a.out.s (Nat.le_refl _)).mono ?_); rintro e w6 ⟨rfl, hB6⟩; have HX6 := Lib.hid (HX3a.out.of hB6)))
  go_ret
  exact ⟨rfl, HX6.out.b⟩
end Go.Proofs.Ytafglhgpkmnnlaa.Con
