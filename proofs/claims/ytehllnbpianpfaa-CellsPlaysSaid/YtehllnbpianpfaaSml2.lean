/-
  The laws' small case comes out right, whatever memory there was.
-/
import Derived.Test.YtehllnbpianpfaaSma
namespace Go.Proofs.Ytehllnbpianpfaa.Con
open Go.RowKit Cll Go.Maps

theorem fit_of {x : Int} (h1 : -1000000 ≤ x) (h2 : x ≤ 1000000) : Fits x := ⟨by omega, by omega⟩
theorem s_l1 : ins (del [] 1) ⟨1, 0, 0⟩ = [(⟨1, 0, 0⟩ : Un)] := by simp [ins, del]
theorem s_l2 : ins (del [(⟨1, 0, 0⟩ : Un)] 2) ⟨2, 9, 0⟩ = [(⟨1, 0, 0⟩ : Un), ⟨2, 9, 0⟩] := by simp [ins, del]
theorem s_l3 : del [(⟨1, 0, 0⟩ : Un), ⟨2, 9, 0⟩] 1 = [(⟨2, 9, 0⟩ : Un)] := by simp [del]
theorem s_l4 : del [(⟨2, 9, 0⟩ : Un)] 1 = [(⟨2, 9, 0⟩ : Un)] := by simp [del]
theorem s_d1 : dist 5 0 ⟨1, 0, 0⟩ = 25 := by simp [dist, sqr, far, held]
theorem s_d2 : dist 5 0 ⟨2, 9, 0⟩ = 16 := by simp [dist, sqr, far, held]
theorem s_best : Best [(⟨1, 0, 0⟩ : Un), ⟨2, 9, 0⟩] 5 0 0 (fun _ => true) true 16 2 := by
  refine ⟨fun h => (by cases h), fun _ => ⟨⟨⟨2, 9, 0⟩, by simp, rfl, by simp, rfl, s_d2⟩, fun t ht _ _ => ?_⟩⟩
  simp at ht
  rcases ht with rfl | rfl
  · left; rw [s_d1]; omega
  · right; exact ⟨s_d2.symm, Int.le_refl _⟩
theorem s_near : ids [(⟨1, 0, 0⟩ : Un), ⟨2, 9, 0⟩] (nr 1 0 2) = [1] := by
  simp [ids, nr, nearB, sqr, far, held]
theorem s_ids : ids [(⟨1, 0, 0⟩ : Un), ⟨2, 9, 0⟩] (fun _ => true) = [1, 2] := by simp [ids]
theorem xo_in {W w : World} {N xb : Nat} {L : List Un} (h : XO W w N xb L) (id x y : Int) (hf : Fits id) (hN : (N : Int) < 90000) (hb : (onB x && onB y) = true) (L' : List Un) (hL : ins (del L id) ⟨id, x, y⟩ = L') : Calls Try.prog 8 #[.pointer (some ⟨xb, 0, none⟩), .int .i64 id, pv x y] w fun e w' => e = .returned (.bool true) ∧ Hid (XO W w' (N + 2) xb L') :=
  xo_put h id x y hf hN true hb L' (by simpa using hL)
theorem xo_out {W w : World} {N xb : Nat} {L : List Un} (h : XO W w N xb L) (id x y : Int) (hf : Fits id) (hN : (N : Int) < 90000) (hb : (onB x && onB y) = false) : Calls Try.prog 8 #[.pointer (some ⟨xb, 0, none⟩), .int .i64 id, pv x y] w fun e w' => e = .returned (.bool false) ∧ Hid (XO W w' (N + 2) xb L) :=
  xo_put h id x y hf hN false hb L (by simp)
theorem s_r1 (V : World) : Mei.Rd .i64 (V.alloc (.cells #[.int .i64 1] 3)) (V.heap.size + 1) (some ⟨V.heap.size, 0, none⟩) [1] := Mei.rd_new V [1] _ _ rfl
theorem s_r2 (V : World) : Mei.Rd .i64 (V.alloc (.cells #[.int .i64 1, .int .i64 2] 3)) (V.heap.size + 1) (some ⟨V.heap.size, 0, none⟩) [1, 2] := Mei.rd_new V [1, 2] _ _ rfl
theorem s_b1 : (onB 0 && onB 0) = true := by decide
theorem s_b2 : (onB 9 && onB 0) = true := by decide
theorem s_b3 : (onB 256 && onB 0) = false := by decide
set_option maxHeartbeats 4000000 in
theorem small_any (w : World) : Calls Try.prog 6 #[] w fun e w' => e = .returned (.bool true) ∧ Below w.heap.size w w' := by
  have f0 : Fits 0 := fit_of (by omega) (by omega)
  have f1 : Fits 1 := fit_of (by omega) (by omega)
  have f2 : Fits 2 := fit_of (by omega) (by omega)
  have f3 : Fits 3 := fit_of (by omega) (by omega)
  have f5 : Fits 5 := fit_of (by omega) (by omega)
  have HB := Lib.hid (Below.refl w.heap.size w)
  go_enter Try.func6, Try.ntmps6
  go_wp2_with (first
    | ((with_reducible refine (xo_new w _ HB.out).mono ?_); rintro e w1 ⟨xb, rfl, HX0, HB0⟩; clear HB0)
    | ((with_reducible refine (xo_in HX0.out 1 0 0 f1 (by omega) s_b1 _ s_l1).mono ?_); rintro e w2 ⟨rfl, HX1⟩; clear HX0)
    | ((with_reducible refine (xo_in HX1.out 2 9 0 f2 (by omega) s_b2 _ s_l2).mono ?_); rintro e w3 ⟨rfl, HX2⟩; clear HX1)
    | ((with_reducible refine (xo_out HX2.out 3 256 0 f3 (by omega) s_b3).mono ?_); rintro e w4 ⟨rfl, HX3⟩; clear HX2)
    | ((with_reducible refine (xo_closest HX3.out 5 0 0 f5 f0 true 16 2 s_best).mono ?_); rintro e w5 ⟨rfl, HX4, HB4⟩; clear HX3 HB4)
    | ((with_reducible refine (xo_near HX4.out 1 0 2 f1 f0 f2 _ s_near 1 rfl).mono ?_); rintro e w6 ⟨A1, c1, rfl, HR1, HX5, HB5⟩; clear HX4 HB5)
    | ((with_reducible refine (Mei.same_any _ _ A1 _ 1 c1 _ [1] _ rfl (HR1.out.alloc (Nat.le_refl _) _) (s_r1 w6) (by omega)).mono ?_); rintro e w7 ⟨rfl, q7, hq7⟩; have HX6 := Lib.hid (hq7 ▸ (HX5.out.alloc _).drewN q7); clear HX5 HR1 hq7)
    | ((with_reducible refine (xo_ids HX6.out _ s_ids 2 rfl).mono ?_); rintro e w8 ⟨A2, c2, rfl, HR2, HX7, HB7⟩; clear HX6 HB7)
    | ((with_reducible refine (Mei.same_any _ _ A2 _ 2 c2 _ [1, 2] _ rfl (HR2.out.alloc (Nat.le_refl _) _) (s_r2 w8) (by omega)).mono ?_); rintro e w9 ⟨rfl, q9, hq9⟩; have HX8 := Lib.hid (hq9 ▸ (HX7.out.alloc _).drewN q9); clear HX7 HR2 hq9)
    | ((with_reducible refine (xo_drop HX8.out 1 f1 true rfl _ s_l3).mono ?_); rintro e w10 ⟨rfl, HX9⟩; clear HX8)
    | ((with_reducible refine (xo_drop HX9.out 1 f1 false rfl _ s_l4).mono ?_); rintro e w11 ⟨rfl, HX10⟩; clear HX9))
  go_ret
  exact ⟨rfl, HX10.out.bel⟩
end Go.Proofs.Ytehllnbpianpfaa.Con
