/-
  The law's own small case: it comes out right, and only new memory is made.
-/
import Derived.Test.YtccfoeokadggaaaArd
import Derived.Laws.MakeOwn
namespace Go.Proofs.Ytccfoeokadggaaa.Con
open Go.RowKit Go.Shelf Wlk

theorem sv1 : sqr 0 0 3 4 = 25 := by decide
theorem sv2 : stp 0 0 3 4 = 4 := by decide
theorem sv3 : nearB 0 0 3 4 5 = true := by decide
theorem sv4 : tow 6 2 open12 0 0 5 1 3 = (3, 1) := by decide
theorem sv5 : inB 6 2 12 0 0 = true := by decide
theorem sv6 : inB 6 2 12 3 4 = false := by decide

theorem info4 : (Try.prog.info? 4).map (fun i => (i.zero, i.size, i.bytes)) = some (some (.bool false), 1, 1) := by kernel_rfl
abbrev falses : Array Value := #[.bool false, .bool false, .bool false, .bool false, .bool false, .bool false, .bool false, .bool false, .bool false, .bool false, .bool false, .bool false]
theorem made12 : madeCells #[Value.bool false] 12 = falses := by kernel_rfl
theorem make12 (w : World) : (Instr.makeSlice 27 (.int .i64 12) (.int .i64 12)).run Try.prog w = .ok (.slice (some ⟨w.heap.size, 0, none⟩) 12 12) (w.alloc (.cells falses 4)) := by
  obtain ⟨i0, hi0, hz0, hz1, hz2⟩ := info_parts info4
  have hr := run_make (P := Try.prog) w 27 4 i0 _ Try.underlying27 hi0 hz0 .i64 .i64 12 12 (by omega) (by omega) (by rw [hz2]; omega) (by omega)
  have e : (Value.bool false).cells = #[Value.bool false] := rfl
  rw [hz1, e] at hr
  rw [← made12]
  simpa using hr
theorem rb12 {w V : World} {B : Nat} {fr : Nat × Nat} (h : V.heap[w.heap.size]? = some (.cells falses 4 fr)) (hB : w.heap.size < B) : RB V B (some ⟨w.heap.size, 0, none⟩) open12 := by
  refine .inr ⟨w.heap.size, 0, rfl, hB, fun k x hx => ?_⟩
  have hx' : falses[k]? = some (.bool x) := by
    have h12 : k < 12 := by
      have := (List.getElem?_eq_some_iff.1 hx).1
      exact this
    have hxf : x = false := by
      have := List.mem_of_getElem? hx
      exact List.eq_of_mem_replicate this
    subst hxf
    match k, h12 with
    | 0, _ => rfl
    | 1, _ => rfl
    | 2, _ => rfl
    | 3, _ => rfl
    | 4, _ => rfl
    | 5, _ => rfl
    | 6, _ => rfl
    | 7, _ => rfl
    | 8, _ => rfl
    | 9, _ => rfl
    | 10, _ => rfl
    | 11, _ => rfl
  simp only [World.cell?, Nat.zero_add, h]
  exact hx'

/-- What the small case holds in memory. -/
structure SAt (w V : World) : Prop where
  walls : V.heap[w.heap.size]? = some (.cells falses 4 (0, 0))
  grid : V.heap[w.heap.size + 1]? = some (.cells #[.int .i64 6, .int .i64 2, .slice (some ⟨w.heap.size, 0, none⟩) 12 12] 29 (0, 0))
  a : BoxP V (w.heap.size + 1 + 1) 0 0
  b : BoxP V (w.heap.size + 1 + 1 + 1) 3 4
  below : Below w.heap.size w V
theorem SAt.of {w V V' : World} (h : SAt w V) (hb : Below V.heap.size V V') : SAt w V' :=
  ⟨(hb.block _ (Array.getElem?_eq_some_iff.1 h.walls).1).trans h.walls, (hb.block _ (Array.getElem?_eq_some_iff.1 h.grid).1).trans h.grid, h.a.kept (hb.block _ h.a.lt), h.b.kept (hb.block _ h.b.lt), h.below.trans (hb.mono h.below.size)⟩
theorem SAt.rb {w V : World} (h : SAt w V) : RB V V.heap.size (some ⟨w.heap.size, 0, none⟩) open12 := rb12 h.walls (Array.getElem?_eq_some_iff.1 h.walls).1
theorem SAt.g0 {w V : World} (h : SAt w V) : V.cell? ⟨w.heap.size + 1, 0, none⟩ = some (.int .i64 6) := by simp [World.cell?, h.grid]
theorem SAt.g1 {w V : World} (h : SAt w V) : V.cell? ⟨w.heap.size + 1, 1, none⟩ = some (.int .i64 2) := by simp [World.cell?, h.grid]
theorem SAt.g2 {w V : World} (h : SAt w V) : V.cell? ⟨w.heap.size + 1, 2, none⟩ = some (.slice (some ⟨w.heap.size, 0, none⟩) 12 12) := by simp [World.cell?, h.grid]
abbrev sopen (w : World) : World := (((w.alloc (.cells falses 4)).alloc (.cells #[.int .i64 6, .int .i64 2, .slice (some ⟨w.heap.size, 0, none⟩) 12 12] 29)).alloc (.cells #[.int .i64 0, .int .i64 0] 23)).alloc (.cells #[.int .i64 3, .int .i64 4] 23)
theorem SAt.start (w : World) : SAt w (sopen w) :=
  ⟨old_at (old_at (old_at (new_at _ _ rfl))), old_at (old_at (new_at _ _ (by simp))), old_at (new_at _ _ (by simp)), new_at _ _ (by simp),
    ((((Below.refl _ w).alloc (Nat.le_refl _) _).alloc (by simp) _).alloc (by simp; omega) _).alloc (by simp; omega) _⟩
theorem f0 {n : Int} (h : 0 ≤ n ∧ n ≤ 100) : Fits n := by unfold Fits; omega

set_option maxRecDepth 100000 in
set_option maxHeartbeats 4000000 in
theorem small_any (w : World) : Calls Try.prog 7 #[] w fun e w' => e = .returned (.bool true) ∧ Below w.heap.size w w' := by
  have hmk := make12 w
  have HS0 := Lib.hid (SAt.start w)
  have c1 : ∀ w : World, Calls Try.prog 8 #[pv 0 0, pv 3 4] w fun e w' => e = .returned (.int .i64 25) ∧ Below w.heap.size w w' := fun w => by have := square_any 0 0 3 4 w (f0 (by omega)) (f0 (by omega)) (f0 (by omega)) (f0 (by omega)); rwa [sv1] at this
  have c2 : ∀ w : World, Calls Try.prog 10 #[pv 0 0, pv 3 4] w fun e w' => e = .returned (.int .i64 4) ∧ Below w.heap.size w w' := fun w => by have := steps_any 0 0 3 4 w (f0 (by omega)) (f0 (by omega)) (f0 (by omega)) (f0 (by omega)); rwa [sv2] at this
  have c3 : ∀ w : World, Calls Try.prog 12 #[pv 0 0, pv 3 4, .int .i64 5] w fun e w' => e = .returned (.bool true) ∧ Below w.heap.size w w' := fun w => by have := near_any 0 0 3 4 5 w (f0 (by omega)) (f0 (by omega)) (f0 (by omega)) (f0 (by omega)) (f0 (by omega)); rwa [sv3] at this
  have c4 : ∀ (A : Option Addr) (w : World), RB w w.heap.size A open12 → Calls Try.prog 15 #[gv 6 2 A 12 12, pv 0 0, pv 5 1, .int .i64 3] w fun e w' => e = .returned (pv 3 1) ∧ Below w.heap.size w w' := fun A w h => by have := toward_any 6 2 A open12 12 0 0 5 1 3 w w.heap.size h (Nat.le_refl _) (f0 (by omega)); rwa [sv4] at this
  have c6 : ∀ (A : Option Addr) (w : World), Calls Try.prog 17 #[gv 6 2 A 12 12, pv 0 0] w fun e w' => e = .returned (.bool true) ∧ Below w.heap.size w w' := fun A w => by have := in_any 6 2 A 12 12 0 0 w; rwa [sv5] at this
  have c7 : ∀ (A : Option Addr) (w : World), Calls Try.prog 17 #[gv 6 2 A 12 12, pv 3 4] w fun e w' => e = .returned (.bool false) ∧ Below w.heap.size w w' := fun A w => by have := in_any 6 2 A 12 12 3 4 w; rwa [sv6] at this
  have C1 := Lib.hid c1; have C2 := Lib.hid c2; have C3 := Lib.hid c3; have C4 := Lib.hid c4; have C6 := Lib.hid c6; have C7 := Lib.hid c7
  clear c1 c2 c3 c4 c6 c7
  go_enter Try.func7, Try.ntmps7
  go_wp2_with (first
    | ((with_reducible refine (C1.out _).mono ?_); rintro e w1 ⟨rfl, hB1⟩; have HS1 := Lib.hid (HS0.out.of hB1); have x1_0 := HS1.out.a.cell0; have x1_1 := HS1.out.a.cell1; have x1_2 := HS1.out.b.cell0; have x1_3 := HS1.out.b.cell1)
    | ((with_reducible refine (C2.out _).mono ?_); rintro e w2 ⟨rfl, hB2⟩; have HS2 := Lib.hid (HS1.out.of hB2); have x2_0 := HS2.out.a.cell0; have x2_1 := HS2.out.a.cell1; have x2_2 := HS2.out.b.cell0; have x2_3 := HS2.out.b.cell1)
    | ((with_reducible refine (C3.out _).mono ?_); rintro e w3 ⟨rfl, hB3⟩; have HS3 := Lib.hid (HS2.out.of hB3); have x3_0 := HS3.out.a.cell0; have x3_1 := HS3.out.a.cell1; have x3_2 := HS3.out.g0; have x3_3 := HS3.out.g1; have x3_4 := HS3.out.g2)
    | ((with_reducible refine (C4.out _ _ HS3.out.rb).mono ?_); rintro e w4 ⟨rfl, hB4⟩; have HS4 := Lib.hid (HS3.out.of hB4); have x4_0 := HS4.out.a.cell0; have x4_1 := HS4.out.a.cell1; have x4_2 := HS4.out.g0; have x4_3 := HS4.out.g1; have x4_4 := HS4.out.g2)
    | ((with_reducible refine (around_small _ _ HS4.out.rb).mono ?_); rintro e w5 ⟨⟨A', c', rfl⟩, hB5⟩; have HS5 := Lib.hid (HS4.out.of hB5); have x5_0 := HS5.out.a.cell0; have x5_1 := HS5.out.a.cell1; have x5_2 := HS5.out.g0; have x5_3 := HS5.out.g1; have x5_4 := HS5.out.g2)
    | ((with_reducible refine (C6.out _ _).mono ?_); rintro e w6 ⟨rfl, hB6⟩; have HS6 := Lib.hid (HS5.out.of hB6); have x6_0 := HS6.out.b.cell0; have x6_1 := HS6.out.b.cell1; have x6_2 := HS6.out.g0; have x6_3 := HS6.out.g1; have x6_4 := HS6.out.g2)
    | ((with_reducible refine (C7.out _ _).mono ?_); rintro e w7 ⟨rfl, hB7⟩; have HS7 := Lib.hid (HS6.out.of hB7)))
  go_ret
  exact ⟨rfl, HS7.out.below⟩
end Go.Proofs.Ytccfoeokadggaaa.Con
