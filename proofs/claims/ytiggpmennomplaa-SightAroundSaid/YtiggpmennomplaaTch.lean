/-
  Contracts of the document's side and touches: for every two tiles of a map and every tile of it: whether the line touches it; only new memory is made.
-/
import Derived.Test.YtiggpmennomplaaSid
import Derived.Test.YtiggpmennomplaaLct
import Derived.Deep.LoopGhost
namespace Go.Proofs.Ytiggpmennomplaa.Con
open Go.RowKit Go.Shelf Lin

/-- On which side a point lies that is given in halves. -/
def rs (ax ay bx by' x y : Int) : Int := (bx - ax) * (y - 2 * ay) - (by' - ay) * (x - 2 * ax)
theorem prod_big {a b : Int} (ha : -512 ≤ a ∧ a ≤ 512) (hb : -2048 ≤ b ∧ b ≤ 2048) : -1048576 ≤ a * b ∧ a * b ≤ 1048576 := by
  have h1 : a * b ≤ 512 * 2048 := by
    have := Int.mul_le_mul (show (a.natAbs : Int) ≤ 512 by omega) (show (b.natAbs : Int) ≤ 2048 by omega) (by omega) (by omega)
    have h2 := Int.natAbs_mul a b
    have h3 : ((a.natAbs * b.natAbs : Nat) : Int) = (a.natAbs : Int) * (b.natAbs : Int) := by simp
    omega
  have h2 : -(512 * 2048) ≤ a * b := by
    have := Int.mul_le_mul (show (a.natAbs : Int) ≤ 512 by omega) (show (b.natAbs : Int) ≤ 2048 by omega) (by omega) (by omega)
    have h2 := Int.natAbs_mul a b
    have h3 : ((a.natAbs * b.natAbs : Nat) : Int) = (a.natAbs : Int) * (b.natAbs : Int) := by simp
    omega
  omega

/-- Numbers of a map's tiles. -/
def On (x : Int) : Prop := 0 ≤ x ∧ x ≤ 256

set_option maxRecDepth 100000 in
theorem rside_any {ax ay bx by' x y : Int} (h1 : On ax) (h2 : On ay) (h3 : On bx) (h4 : On by') (hx : -1 ≤ x ∧ x ≤ 513) (hy : -1 ≤ y ∧ y ≤ 513) (w : World) :
    Calls Try.prog 48 #[pv ax ay, pv bx by', .int .i64 x, .int .i64 y] w fun e w' => e = .returned (.int .i64 (rs ax ay bx by' x y)) ∧ Below w.heap.size w w' := by
  unfold On at h1 h2 h3 h4
  have p1 := prod_big (a := bx - ax) (b := y - 2 * ay) (by omega) (by omega)
  have p2 := prod_big (a := by' - ay) (b := x - 2 * ax) (by omega) (by omega)
  have hb := box2 w ax ay bx by'
  go_enter Try.func48, Try.ntmps48
  go_wp2
  go_ret
  exact ⟨rfl, hb⟩

/-- A corner's side, and what is known of the first k. -/
def cr (i : Nat) (d : Int) : Int := if d = 0 then ((i % 2 : Nat) : Int) else ((i / 2 : Nat) : Int)
def sc (ax ay bx by' px py : Int) (i : Nat) : Int := rs ax ay bx by' (2 * px - 1 + 2 * ((i % 2 : Nat) : Int)) (2 * py - 1 + 2 * ((i / 2 : Nat) : Int))
def und (f : Nat → Int) : Nat → Bool
  | 0 => false
  | k + 1 => und f k || decide (f k ≤ 0)
def ovr (f : Nat → Int) : Nat → Bool
  | 0 => false
  | k + 1 => ovr f k || decide (f k ≥ 0)

/-- Three tiles in three boxes one behind another. -/
structure T3 (ax ay bx by' px py : Int) (s : Nat) (V : World) : Prop where
  a : BoxP V s ax ay
  b : BoxP V (s + 1) bx by'
  p : BoxP V (s + 1 + 1) px py
abbrev tri (ax ay bx by' px py : Int) (w : World) : World :=
  ((w.alloc (.cells #[.int .i64 ax, .int .i64 ay] 26)).alloc (.cells #[.int .i64 bx, .int .i64 by'] 26)).alloc (.cells #[.int .i64 px, .int .i64 py] 26)
theorem tri_t3 (ax ay bx by' px py : Int) (w : World) : T3 ax ay bx by' px py w.heap.size (tri ax ay bx by' px py w) := ⟨old_at (old_at (new_at _ _ rfl)), old_at (new_at _ _ (by simp)), new_at _ _ (by simp)⟩
theorem tri_below (ax ay bx by' px py : Int) (w : World) : Below w.heap.size w (tri ax ay bx by' px py w) := (((Below.refl _ w).alloc (Nat.le_refl _) _).alloc (by simp) _).alloc (by simp; omega) _
theorem T3.of {ax ay bx by' px py : Int} {s : Nat} {V V' : World} (h : T3 ax ay bx by' px py s V) (hb : Below V.heap.size V V') : T3 ax ay bx by' px py s V' := ⟨h.a.kept (hb.block _ h.a.lt), h.b.kept (hb.block _ h.b.lt), h.p.kept (hb.block _ h.p.lt)⟩
theorem T3.cells {ax ay bx by' px py : Int} {s : Nat} {V : World} (h : T3 ax ay bx by' px py s V) :
    V.cell? ⟨s, 0, none⟩ = some (.int .i64 ax) ∧ V.cell? ⟨s, 1, none⟩ = some (.int .i64 ay) ∧ V.cell? ⟨s + 1, 0, none⟩ = some (.int .i64 bx) ∧ V.cell? ⟨s + 1, 1, none⟩ = some (.int .i64 by') ∧ V.cell? ⟨s + 1 + 1, 0, none⟩ = some (.int .i64 px) ∧ V.cell? ⟨s + 1 + 1, 1, none⟩ = some (.int .i64 py) :=
  ⟨h.a.cell0, h.a.cell1, h.b.cell0, h.b.cell1, h.p.cell0, h.p.cell1⟩

set_option maxRecDepth 100000 in
set_option maxHeartbeats 4000000 in
theorem touches_in {ax ay bx by' px py : Int} (h1 : On ax) (h2 : On ay) (h3 : On bx) (h4 : On by') (h5 : On px) (h6 : On py) (w : World) :
    Calls Try.prog 31 #[pv ax ay, pv bx by', pv px py] w fun e w' => e = .returned (.bool (und (sc ax ay bx by' px py) 4 && ovr (sc ax ay bx by' px py) 4)) ∧ Below w.heap.size w w' := by
  have hb := tri_below ax ay bx by' px py w
  have ht := tri_t3 ax ay bx by' px py w
  have HB := Lib.hid hb; clear hb
  have HT := Lib.hid ht; clear ht
  generalize hf : sc ax ay bx by' px py = f
  have hs : ∀ (i : Nat) (X Y : Int) (V : World), i < 4 → X = 2 * px - 1 + 2 * ((i % 2 : Nat) : Int) → Y = 2 * py - 1 + 2 * ((i / 2 : Nat) : Int) → Calls Try.prog 48 #[pv ax ay, pv bx by', .int .i64 X, .int .i64 Y] V fun e w' => e = .returned (.int .i64 (f i)) ∧ Below V.heap.size V w' := by
    intro i X Y V hi hX hY
    rw [hX, hY, ← hf]
    unfold On at h5 h6
    exact rside_any h1 h2 h3 h4 (by omega) (by omega) V
  have HS := Lib.hid hs; clear hs hf h1 h2 h3 h4
  unfold On at h5 h6
  go_enter Try.func31, Try.ntmps31
  go_wp2
  go_loopg [7, 8, 9] 4 (fun m s7 s8 s9 wr => ∃ (k : Nat) (u v : Bool), k ≤ 4 ∧ m = 4 - k ∧ s7 = .bool u ∧ s8 = .bool v ∧ s9 = .int .i64 (k : Int) ∧ Hid (und f k = u) ∧ Hid (ovr f k = v) ∧ Hid (Below (tri ax ay bx by' px py w).heap.size (tri ax ay bx by' px py w) wr))
  case atStart => exact ⟨0, false, false, by omega, rfl, rfl, rfl, rfl, Lib.hid rfl, Lib.hid rfl, Lib.hid (Below.refl _ _)⟩
  case round =>
    obtain ⟨k, u, v, hk, rfl, rfl, rfl, rfl, HU, HV, HW⟩ := hrel
    have hk4 : k = 0 ∨ k = 1 ∨ k = 2 ∨ k = 3 ∨ k = 4 := by omega
    clear hk
    obtain ⟨c0, c1, c2, c3, c4, c5⟩ := (HT.out.of HW.out).cells
    rcases hk4 with rfl | rfl | rfl | rfl | rfl
    · have HU2 : Hid (und f 1 = (u || decide (f 0 ≤ 0))) := Lib.hid (by show (und f 0 || decide (f 0 ≤ 0)) = _; rw [HU.out])
      have HV2 : Hid (ovr f 1 = (v || decide (0 ≤ f 0))) := Lib.hid (by show (ovr f 0 || decide (f 0 ≥ 0)) = _; rw [HV.out])
      cases u <;> cases v
      all_goals
        go_wp2_with (first | ((with_reducible refine (HS.out 0 _ _ _ (by omega) (by omega) (by omega)).mono ?_); rintro e w1 ⟨rfl, hB⟩))
        go_roundg (4 - 1)
        · exact ⟨1, _, _, by omega, rfl, rfl, rfl, rfl, HU2, HV2, Lib.hid (HW.out.trans (hB.mono HW.out.size))⟩
        · omega
    · have HU2 : Hid (und f 2 = (u || decide (f 1 ≤ 0))) := Lib.hid (by show (und f 1 || decide (f 1 ≤ 0)) = _; rw [HU.out])
      have HV2 : Hid (ovr f 2 = (v || decide (0 ≤ f 1))) := Lib.hid (by show (ovr f 1 || decide (f 1 ≥ 0)) = _; rw [HV.out])
      cases u <;> cases v
      all_goals
        go_wp2_with (first | ((with_reducible refine (HS.out 1 _ _ _ (by omega) (by omega) (by omega)).mono ?_); rintro e w1 ⟨rfl, hB⟩))
        go_roundg (4 - 2)
        · exact ⟨2, _, _, by omega, rfl, rfl, rfl, rfl, HU2, HV2, Lib.hid (HW.out.trans (hB.mono HW.out.size))⟩
        · omega
    · have HU2 : Hid (und f 3 = (u || decide (f 2 ≤ 0))) := Lib.hid (by show (und f 2 || decide (f 2 ≤ 0)) = _; rw [HU.out])
      have HV2 : Hid (ovr f 3 = (v || decide (0 ≤ f 2))) := Lib.hid (by show (ovr f 2 || decide (f 2 ≥ 0)) = _; rw [HV.out])
      cases u <;> cases v
      all_goals
        go_wp2_with (first | ((with_reducible refine (HS.out 2 _ _ _ (by omega) (by omega) (by omega)).mono ?_); rintro e w1 ⟨rfl, hB⟩))
        go_roundg (4 - 3)
        · exact ⟨3, _, _, by omega, rfl, rfl, rfl, rfl, HU2, HV2, Lib.hid (HW.out.trans (hB.mono HW.out.size))⟩
        · omega
    · have HU2 : Hid (und f 4 = (u || decide (f 3 ≤ 0))) := Lib.hid (by show (und f 3 || decide (f 3 ≤ 0)) = _; rw [HU.out])
      have HV2 : Hid (ovr f 4 = (v || decide (0 ≤ f 3))) := Lib.hid (by show (ovr f 3 || decide (f 3 ≥ 0)) = _; rw [HV.out])
      cases u <;> cases v
      all_goals
        go_wp2_with (first | ((with_reducible refine (HS.out 3 _ _ _ (by omega) (by omega) (by omega)).mono ?_); rintro e w1 ⟨rfl, hB⟩))
        go_roundg (4 - 4)
        · exact ⟨4, _, _, by omega, rfl, rfl, rfl, rfl, HU2, HV2, Lib.hid (HW.out.trans (hB.mono HW.out.size))⟩
        · omega
    · cases u <;> cases v
      all_goals
        go_wp2
        go_ret
        exact ⟨by rw [HU.out, HV.out]; rfl, HB.out.trans (HW.out.mono HB.out.size)⟩

theorem touch_iff (ax ay bx by' px py : Int) : (und (sc ax ay bx by' px py) 4 && ovr (sc ax ay bx by' px py) 4) = decide (sd ax ay bx by' px py = 0) := by
  have e : ∀ i, i < 4 → sc ax ay bx by' px py i = - off ax ay bx by' px py + (2 * ((i / 2 : Nat) : Int) - 1) * (bx - ax) - (2 * ((i % 2 : Nat) : Int) - 1) * (by' - ay) := by
    intro i hi
    unfold sc rs off
    grind
  have e0 := e 0 (by omega)
  have e1 := e 1 (by omega)
  have e2 := e 2 (by omega)
  have e3 := e 3 (by omega)
  simp at e0 e1 e2 e3
  rw [Bool.eq_iff_iff, decide_eq_true_iff, sd_zero]
  simp only [und, ovr, Bool.and_eq_true, Bool.or_eq_true, Bool.false_or, decide_eq_true_eq]
  have hm : most ax ay bx by' = ab (bx - ax) + ab (by' - ay) := rfl
  unfold ab at hm
  rw [e0, e1, e2, e3]
  generalize off ax ay bx by' px py = o at *
  generalize most ax ay bx by' = m at *
  generalize bx - ax = p at *
  generalize by' - ay = q at *
  split at hm <;> split at hm <;> omega

theorem touches_any {ax ay bx by' px py : Int} (h1 : On ax) (h2 : On ay) (h3 : On bx) (h4 : On by') (h5 : On px) (h6 : On py) (w : World) :
    Calls Try.prog 31 #[pv ax ay, pv bx by', pv px py] w fun e w' => e = .returned (.bool (decide (sd ax ay bx by' px py = 0))) ∧ Below w.heap.size w w' := by
  rw [← touch_iff]
  exact touches_in h1 h2 h3 h4 h5 h6 w
end Go.Proofs.Ytiggpmennomplaa.Con
