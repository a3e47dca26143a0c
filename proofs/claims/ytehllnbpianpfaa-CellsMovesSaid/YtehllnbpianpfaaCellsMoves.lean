/-
  Put again moves a unit: it is in one place only, and Drop takes it out of each: whatever number and whatever two tiles; no condition.
-/
import Derived.Test.YtehllnbpianpfaaSml2
import Derived.Test.YtehllnbpianpfaaXyk
import Derived.Test.YtehllnbpianpfaaOpen
import Derived.Deep.Cut
import Derived.WalkKit
import Derived.ProofKit
import Derived.OpenShut
namespace Go.Proofs.Ytehllnbpianpfaa.cellsMoves
open Go.ChangeShapes Go.WideShapes Go.ChangeAt Go.RowKit Con Cll Go.Maps
set_option linter.unusedVariables false

theorem own : ownKnob Try.prog.godebug = none := by kernel_rfl

theorem neq32 (a b c d : Int) (e : Bool) (he : decide (¬ (a = c ∧ b = d)) = e) (V : World) : (binOp .neq 32 (pv a b) (pv c d)).run Try.prog V = .ok (.bool e) V := by
  subst he
  by_cases h1 : a = c <;> by_cases h2 : b = d <;> simp [go_sem, Try.underlying32, h1, h2]
theorem eql32 (a b c d : Int) (e : Bool) (he : decide (a = c ∧ b = d) = e) (V : World) : (binOp .eql 32 (pv a b) (pv c d)).run Try.prog V = .ok (.bool e) V := by
  subst he
  by_cases h1 : a = c <;> by_cases h2 : b = d <;> simp [go_sem, Try.underlying32, h1, h2]
theorem far_self (a : Int) : far a a = 0 := by simp [far, held]
theorem near_self (x y r : Int) (hr : 0 ≤ r) : nearB x y x y r = true := by
  have : 0 ≤ held (r * r) := by
    have h := Int.mul_nonneg hr hr
    unfold held; split <;> (try split) <;> omega
  simp [nearB, sqr, far_self, held, hr]
  simpa [held] using this
theorem far_zero {a b : Int} (h : far a b = 0) : a = b := by
  unfold far held at h
  split at h <;> split at h <;> (try split at h) <;> omega
theorem near_zero {ax ay bx by' : Int} (h : nearB ax ay bx by' 0 = true) : ax = bx ∧ ay = by' := by
  have h0 : held (0 * 0) = 0 := by simp [held]
  simp only [nearB, h0, Bool.and_eq_true, decide_eq_true_eq] at h
  have a1 := far_nonneg ax bx
  have a2 := far_nonneg ay by'
  have q : ∀ x : Int, 0 ≤ x → 0 < x → 0 < held (x * x) := fun x hx hp => by
    have := Int.mul_pos hp hp
    unfold held; split <;> (try split) <;> omega
  have q0 : ∀ x : Int, 0 ≤ x → 0 ≤ held (x * x) := fun x hx => by
    have := Int.mul_nonneg hx hx
    unfold held; split <;> (try split) <;> omega
  have b1 := q0 _ a1
  have b2 := q0 _ a2
  have hs : held (far ax bx * far ax bx) + held (far ay by' * far ay by') ≤ 0 := by
    have := h.2
    unfold sqr at this
    generalize held (far ax bx * far ax bx) + held (far ay by' * far ay by') = s at *
    unfold held at this
    split at this <;> (try split at this) <;> omega
  refine ⟨far_zero ?_, far_zero ?_⟩
  · by_cases e : far ax bx = 0
    · exact e
    · have := q _ a1 (by omega); omega
  · by_cases e : far ay by' = 0
    · exact e
    · have := q _ a2 (by omega); omega
theorem one_near (id x y px py r : Int) (b : Bool) (h : nearB px py x y r = b) : ids [(⟨id, x, y⟩ : Un)] (nr px py r) = if b = true then [id] else [] := by
  subst h
  unfold ids nr
  cases h : nearB px py x y r <;> simp [h]
theorem put_in {W w : World} {N xb : Nat} {L : List Un} {K : List (Nat × Obj)} (h : XK W w N xb L K) (id x y : Int) (hf : Fits id) (hN : (N : Int) < 90000) (hb : (onB x && onB y) = true) (L' : List Un) (hL : ins (del L id) ⟨id, x, y⟩ = L') : Calls Try.prog 8 #[.pointer (some ⟨xb, 0, none⟩), .int .i64 id, pv x y] w fun e w' => e = .returned (.bool true) ∧ Hid (XK W w' (N + 2) xb L' K) := xk_put h id x y hf hN true hb L' (by simpa using hL)
theorem put_not {W w : World} {N xb : Nat} {L : List Un} {K : List (Nat × Obj)} (h : XK W w N xb L K) (id x y : Int) (hf : Fits id) (hN : (N : Int) < 90000) (hb : (onB x && onB y) = false) : Calls Try.prog 8 #[.pointer (some ⟨xb, 0, none⟩), .int .i64 id, pv x y] w fun e w' => e = .returned (.bool false) ∧ Hid (XK W w' (N + 2) xb L K) := xk_put h id x y hf hN false hb L (by simp)
theorem at_some {W w : World} {N xb : Nat} {L : List Un} {K : List (Nat × Obj)} (h : XK W w N xb L K) (id : Int) (hf : Fits id) (x y : Int) (ht : lk L id = some ⟨id, x, y⟩) : Calls Try.prog 12 #[.pointer (some ⟨xb, 0, none⟩), .int .i64 id] w fun e w' => e = .returned (.tuple #[pv x y, .bool true]) ∧ Hid (XK W w' N xb L K) ∧ Hid (Below w.heap.size w w') := xk_at h id hf x y true (by rw [ht]; exact ⟨rfl, rfl, rfl⟩)
theorem at_none {W w : World} {N xb : Nat} {L : List Un} {K : List (Nat × Obj)} (h : XK W w N xb L K) (id : Int) (hf : Fits id) (ht : lk L id = none) : Calls Try.prog 12 #[.pointer (some ⟨xb, 0, none⟩), .int .i64 id] w fun e w' => e = .returned (.tuple #[pv 0 0, .bool false]) ∧ Hid (XK W w' N xb L K) ∧ Hid (Below w.heap.size w w') := xk_at h id hf 0 0 false (by rw [ht]; exact ⟨rfl, rfl, rfl⟩)
/-- Behind the two boxes. -/
theorem two_boxes (W : World) (ax ay bx by' : Int) : Below W.heap.size W ((W.alloc (.cells #[.int .i64 ax, .int .i64 ay] 32)).alloc (.cells #[.int .i64 bx, .int .i64 by'] 32)) ∧ ((W.alloc (.cells #[.int .i64 ax, .int .i64 ay] 32)).alloc (.cells #[.int .i64 bx, .int .i64 by'] 32)).heap.size = W.heap.size + 2 ∧ ((W.alloc (.cells #[.int .i64 ax, .int .i64 ay] 32)).alloc (.cells #[.int .i64 bx, .int .i64 by'] 32)).heap[W.heap.size]? = some (.cells #[.int .i64 ax, .int .i64 ay] 32 (0, 0)) ∧ ((W.alloc (.cells #[.int .i64 ax, .int .i64 ay] 32)).alloc (.cells #[.int .i64 bx, .int .i64 by'] 32)).heap[W.heap.size + 1]? = some (.cells #[.int .i64 bx, .int .i64 by'] 32 (0, 0)) := by
  refine ⟨((Below.refl _ W).alloc (Nat.le_refl _) _).alloc (by simp) _, by simp, (Below.heap_alloc _ _ _ (by simp)).trans (heap_alloc_new W _), ?_⟩
  have := heap_alloc_new (W.alloc (.cells #[.int .i64 ax, .int .i64 ay] 32)) (.cells #[.int .i64 bx, .int .i64 by'] 32)
  simpa using this
theorem walk (W : World) (id : Int) (hid : Fits id) (ax ay : Int) (fax : Fits ax) (fay : Fits ay) (bx by' : Int) (fbx : Fits bx) (fby : Fits by') :
    Calls Try.prog 5 #[.int .i64 id, pv ax ay, pv bx by'] W fun e w' => e = .returned (.bool true) ∧ Below W.heap.size W w' := by
  obtain ⟨hb, hs, h0, h1⟩ := two_boxes W ax ay bx by'
  have HB := Lib.hid hb
  have HC : Hid (∀ V, Below (W.heap.size + 2) ((W.alloc (.cells #[.int .i64 ax, .int .i64 ay] 32)).alloc (.cells #[.int .i64 bx, .int .i64 by'] 32)) V → V.cell? ⟨W.heap.size, 0, none⟩ = some (.int .i64 ax) ∧ V.cell? ⟨W.heap.size, 1, none⟩ = some (.int .i64 ay) ∧ V.cell? ⟨W.heap.size + 1, 0, none⟩ = some (.int .i64 bx) ∧ V.cell? ⟨W.heap.size + 1, 1, none⟩ = some (.int .i64 by')) := Lib.hid (fun V hV => by
    have a := (hV.block _ (by omega)).trans h0
    have b := (hV.block _ (by omega)).trans h1
    exact ⟨(cell_of_row V _ 0 _ 32 (0, 0) a).trans rfl, (cell_of_row V _ 1 _ 32 (0, 0) a).trans rfl, (cell_of_row V _ 0 _ 32 (0, 0) b).trans rfl, (cell_of_row V _ 1 _ 32 (0, 0) b).trans rfl⟩)
  have HS := Lib.hid hs
  obtain ⟨one, hone⟩ : ∃ b, (onB ax && onB ay) = b := ⟨_, rfl⟩
  obtain ⟨two, htwo⟩ : ∃ b, (onB bx && onB by') = b := ⟨_, rfl⟩
  clear hb h0 h1 hs
  have HOne := Lib.hid hone; have HTwo := Lib.hid htwo
  clear hone htwo
  cases two with
  | true =>
    cases hz : nearB ax ay bx by' 0 with
    | true =>
      have heq : decide (ax = bx ∧ ay = by') = true := by simpa using near_zero hz
      cases one with
      | true =>
        have HL1 : Hid (ins (del [] id) ⟨id, ax, ay⟩ = ([⟨id, ax, ay⟩] : List Un)) := Lib.hid (by simp [ins, del])
        have HL2 : Hid (ins (del ([⟨id, ax, ay⟩] : List Un) id) ⟨id, bx, by'⟩ = ([⟨id, bx, by'⟩] : List Un)) := Lib.hid (by simp [ins, del])
        have HAt : Hid (lk ([⟨id, bx, by'⟩] : List Un) id = some ⟨id, bx, by'⟩) := Lib.hid (by simp [lk])
        have HN1 : Hid (ids ([⟨id, bx, by'⟩] : List Un) (nr bx by' 0) = [id]) := Lib.hid (by rw [one_near id bx by' bx by' 0 true (near_self _ _ _ (by omega))]; rfl)
        have HN2 : Hid (ids ([⟨id, bx, by'⟩] : List Un) (nr ax ay 0) = [id]) := Lib.hid (by rw [one_near id bx by' ax ay 0 true hz]; rfl)
        have hq := neq32 bx by' bx by' false (by simp)
        have he := eql32 ax ay bx by' true heq
        have HD : Hid (hasId ([⟨id, bx, by'⟩] : List Un) id = true) := Lib.hid (by simp [hasId])
        have HL3 : Hid (del ([⟨id, bx, by'⟩] : List Un) id = []) := Lib.hid (by simp [del])
        have HN3 : Hid (ids ([] : List Un) (nr bx by' 300) = []) := Lib.hid rfl
        have HN4 : Hid (ids ([] : List Un) (fun _ => true) = []) := Lib.hid rfl
        have f0 : Fits 0 := fit_of (by omega) (by omega)
        have f3 : Fits 300 := fit_of (by omega) (by omega)
        have HCx : Hid (∀ V, Below ((W.alloc (.cells #[.int .i64 ax, .int .i64 ay] 32)).alloc (.cells #[.int .i64 bx, .int .i64 by'] 32)).heap.size ((W.alloc (.cells #[.int .i64 ax, .int .i64 ay] 32)).alloc (.cells #[.int .i64 bx, .int .i64 by'] 32)) V → V.cell? ⟨W.heap.size, 0, none⟩ = some (.int .i64 ax) ∧ V.cell? ⟨W.heap.size, 1, none⟩ = some (.int .i64 ay) ∧ V.cell? ⟨W.heap.size + 1, 0, none⟩ = some (.int .i64 bx) ∧ V.cell? ⟨W.heap.size + 1, 1, none⟩ = some (.int .i64 by')) := Lib.hid (fun V hV => HC.out V (by rw [← HS.out]; exact hV))
        go_enter Try.func5, Try.ntmps5
        go_wp2_with (first
          | ((with_reducible refine (small_any _).mono ?_); rintro e w1 ⟨rfl, hB1⟩; have HB1 := Lib.hid hB1; clear hB1)
          | ((with_reducible refine (xo_new _ _ HB1.out).mono ?_); rintro e w2 ⟨xb, rfl, HX0, HB2⟩; have HX0k := Lib.hid HX0.out.xk; obtain ⟨c0, c1, c2, c3⟩ := HCx.out w2 HX0.out.bel; clear HX0 HB2)
          | ((with_reducible refine (put_in HX0k.out id ax ay hid (by omega) HOne.out [⟨id, ax, ay⟩] HL1.out).mono ?_); rintro e w3 ⟨rfl, HX1⟩; obtain ⟨d0, d1, d2, d3⟩ := HCx.out w3 HX1.out.bel; clear HX0k c0 c1 c2 c3)
          | ((with_reducible refine (put_in HX1.out id bx by' hid (by omega) HTwo.out [⟨id, bx, by'⟩] HL2.out).mono ?_); rintro e w4 ⟨rfl, HX2⟩; obtain ⟨e0, e1, e2, e3⟩ := HCx.out w4 HX2.out.bel; clear HX1 d0 d1 d2 d3)
          | ((with_reducible refine (at_some HX2.out id hid bx by' HAt.out).mono ?_); rintro e w5 ⟨rfl, HX3, HB5⟩; have HX4 := Lib.hid (HX3.out.new (.cells #[.int .i64 bx, .int .i64 by'] 32)); obtain ⟨g0, g1, g2, g3⟩ := HCx.out _ HX4.out.bel; clear HX2 e0 e1 e2 e3 HB5)
          | ((with_reducible refine (xk_near HX4.out bx by' 0 fbx fby f0 _ HN1.out 1 rfl).mono ?_); rintro e w6 ⟨A6, c6, rfl, _, HX5, HB6⟩; obtain ⟨i0, i1, i2, i3⟩ := HCx.out _ HX5.out.bel; have hq0 := HX5.out.obj (p := (w5.heap.size, (.cells #[.int .i64 bx, .int .i64 by'] 32))) (by simp); have k0 : w6.cell? ⟨w5.heap.size, 0, none⟩ = some (.int .i64 bx) := (cell_of_row w6 _ 0 _ 32 (0, 0) hq0).trans rfl; have k1 : w6.cell? ⟨w5.heap.size, 1, none⟩ = some (.int .i64 by') := (cell_of_row w6 _ 1 _ 32 (0, 0) hq0).trans rfl; clear HX4 HB6 g0 g1 g2 g3 hq0)
          | ((with_reducible refine (xk_near HX5.out ax ay 0 fax fay f0 _ HN2.out 1 rfl).mono ?_); rintro e w7 ⟨A7, c7, rfl, _, HX6, HB7⟩; clear HX5 HB7 i0 i1 i2 i3 k0 k1)
          | ((with_reducible refine (xk_drop HX6.out id hid true HD.out [] HL3.out).mono ?_); rintro e w8 ⟨rfl, HX7⟩; obtain ⟨j0, j1, j2, j3⟩ := HCx.out _ HX7.out.bel; have hq0 := HX7.out.obj (p := (w5.heap.size, (.cells #[.int .i64 bx, .int .i64 by'] 32))) (by simp); have k0 : w8.cell? ⟨w5.heap.size, 0, none⟩ = some (.int .i64 bx) := (cell_of_row w8 _ 0 _ 32 (0, 0) hq0).trans rfl; have k1 : w8.cell? ⟨w5.heap.size, 1, none⟩ = some (.int .i64 by') := (cell_of_row w8 _ 1 _ 32 (0, 0) hq0).trans rfl; clear HX6 hq0)
          | ((with_reducible refine (xk_near HX7.out bx by' 300 fbx fby f3 _ HN3.out 0 rfl).mono ?_); rintro e w9 ⟨A9, c9, rfl, _, HX8, HB9⟩; clear HX7 HB9 j0 j1 j2 j3 k0 k1)
          | ((with_reducible refine (xk_ids HX8.out _ HN4.out 0 rfl).mono ?_); rintro e w10 ⟨A10, c10, rfl, _, HF, HB10⟩; clear HX8 HB10))
        go_ret
        exact ⟨rfl, HB.out.trans (HF.out.bel.mono (by have := HS.out; omega))⟩
      | false =>
        have HL2 : Hid (ins (del ([] : List Un) id) ⟨id, bx, by'⟩ = ([⟨id, bx, by'⟩] : List Un)) := Lib.hid (by simp [ins, del])
        have HAt : Hid (lk ([⟨id, bx, by'⟩] : List Un) id = some ⟨id, bx, by'⟩) := Lib.hid (by simp [lk])
        have HN1 : Hid (ids ([⟨id, bx, by'⟩] : List Un) (nr bx by' 0) = [id]) := Lib.hid (by rw [one_near id bx by' bx by' 0 true (near_self _ _ _ (by omega))]; rfl)
        have HN2 : Hid (ids ([⟨id, bx, by'⟩] : List Un) (nr ax ay 0) = [id]) := Lib.hid (by rw [one_near id bx by' ax ay 0 true hz]; rfl)
        have hq := neq32 bx by' bx by' false (by simp)
        have he := eql32 ax ay bx by' true heq
        have HD : Hid (hasId ([⟨id, bx, by'⟩] : List Un) id = true) := Lib.hid (by simp [hasId])
        have HL3 : Hid (del ([⟨id, bx, by'⟩] : List Un) id = []) := Lib.hid (by simp [del])
        have HN3 : Hid (ids ([] : List Un) (nr bx by' 300) = []) := Lib.hid rfl
        have HN4 : Hid (ids ([] : List Un) (fun _ => true) = []) := Lib.hid rfl
        have f0 : Fits 0 := fit_of (by omega) (by omega)
        have f3 : Fits 300 := fit_of (by omega) (by omega)
        have HCx : Hid (∀ V, Below ((W.alloc (.cells #[.int .i64 ax, .int .i64 ay] 32)).alloc (.cells #[.int .i64 bx, .int .i64 by'] 32)).heap.size ((W.alloc (.cells #[.int .i64 ax, .int .i64 ay] 32)).alloc (.cells #[.int .i64 bx, .int .i64 by'] 32)) V → V.cell? ⟨W.heap.size, 0, none⟩ = some (.int .i64 ax) ∧ V.cell? ⟨W.heap.size, 1, none⟩ = some (.int .i64 ay) ∧ V.cell? ⟨W.heap.size + 1, 0, none⟩ = some (.int .i64 bx) ∧ V.cell? ⟨W.heap.size + 1, 1, none⟩ = some (.int .i64 by')) := Lib.hid (fun V hV => HC.out V (by rw [← HS.out]; exact hV))
        go_enter Try.func5, Try.ntmps5
        go_wp2_with (first
          | ((with_reducible refine (small_any _).mono ?_); rintro e w1 ⟨rfl, hB1⟩; have HB1 := Lib.hid hB1; clear hB1)
          | ((with_reducible refine (xo_new _ _ HB1.out).mono ?_); rintro e w2 ⟨xb, rfl, HX0, HB2⟩; have HX0k := Lib.hid HX0.out.xk; obtain ⟨c0, c1, c2, c3⟩ := HCx.out w2 HX0.out.bel; clear HX0 HB2)
          | ((with_reducible refine (put_not HX0k.out id ax ay hid (by omega) HOne.out).mono ?_); rintro e w3 ⟨rfl, HX1⟩; obtain ⟨d0, d1, d2, d3⟩ := HCx.out w3 HX1.out.bel; clear HX0k c0 c1 c2 c3)
          | ((with_reducible refine (put_in HX1.out id bx by' hid (by omega) HTwo.out [⟨id, bx, by'⟩] HL2.out).mono ?_); rintro e w4 ⟨rfl, HX2⟩; obtain ⟨e0, e1, e2, e3⟩ := HCx.out w4 HX2.out.bel; clear HX1 d0 d1 d2 d3)
          | ((with_reducible refine (at_some HX2.out id hid bx by' HAt.out).mono ?_); rintro e w5 ⟨rfl, HX3, HB5⟩; have HX4 := Lib.hid (HX3.out.new (.cells #[.int .i64 bx, .int .i64 by'] 32)); obtain ⟨g0, g1, g2, g3⟩ := HCx.out _ HX4.out.bel; clear HX2 e0 e1 e2 e3 HB5)
          | ((with_reducible refine (xk_near HX4.out bx by' 0 fbx fby f0 _ HN1.out 1 rfl).mono ?_); rintro e w6 ⟨A6, c6, rfl, _, HX5, HB6⟩; obtain ⟨i0, i1, i2, i3⟩ := HCx.out _ HX5.out.bel; have hq0 := HX5.out.obj (p := (w5.heap.size, (.cells #[.int .i64 bx, .int .i64 by'] 32))) (by simp); have k0 : w6.cell? ⟨w5.heap.size, 0, none⟩ = some (.int .i64 bx) := (cell_of_row w6 _ 0 _ 32 (0, 0) hq0).trans rfl; have k1 : w6.cell? ⟨w5.heap.size, 1, none⟩ = some (.int .i64 by') := (cell_of_row w6 _ 1 _ 32 (0, 0) hq0).trans rfl; clear HX4 HB6 g0 g1 g2 g3 hq0)
          | ((with_reducible refine (xk_near HX5.out ax ay 0 fax fay f0 _ HN2.out 1 rfl).mono ?_); rintro e w7 ⟨A7, c7, rfl, _, HX6, HB7⟩; clear HX5 HB7 i0 i1 i2 i3 k0 k1)
          | ((with_reducible refine (xk_drop HX6.out id hid true HD.out [] HL3.out).mono ?_); rintro e w8 ⟨rfl, HX7⟩; obtain ⟨j0, j1, j2, j3⟩ := HCx.out _ HX7.out.bel; have hq0 := HX7.out.obj (p := (w5.heap.size, (.cells #[.int .i64 bx, .int .i64 by'] 32))) (by simp); have k0 : w8.cell? ⟨w5.heap.size, 0, none⟩ = some (.int .i64 bx) := (cell_of_row w8 _ 0 _ 32 (0, 0) hq0).trans rfl; have k1 : w8.cell? ⟨w5.heap.size, 1, none⟩ = some (.int .i64 by') := (cell_of_row w8 _ 1 _ 32 (0, 0) hq0).trans rfl; clear HX6 hq0)
          | ((with_reducible refine (xk_near HX7.out bx by' 300 fbx fby f3 _ HN3.out 0 rfl).mono ?_); rintro e w9 ⟨A9, c9, rfl, _, HX8, HB9⟩; clear HX7 HB9 j0 j1 j2 j3 k0 k1)
          | ((with_reducible refine (xk_ids HX8.out _ HN4.out 0 rfl).mono ?_); rintro e w10 ⟨A10, c10, rfl, _, HF, HB10⟩; clear HX8 HB10))
        go_ret
        exact ⟨rfl, HB.out.trans (HF.out.bel.mono (by have := HS.out; omega))⟩
    | false =>
      have heq : decide (ax = bx ∧ ay = by') = false := by
        simp only [decide_eq_false_iff_not]
        rintro ⟨rfl, rfl⟩
        rw [near_self _ _ _ (by omega)] at hz
        cases hz
      cases one with
      | true =>
        have HL1 : Hid (ins (del [] id) ⟨id, ax, ay⟩ = ([⟨id, ax, ay⟩] : List Un)) := Lib.hid (by simp [ins, del])
        have HL2 : Hid (ins (del ([⟨id, ax, ay⟩] : List Un) id) ⟨id, bx, by'⟩ = ([⟨id, bx, by'⟩] : List Un)) := Lib.hid (by simp [ins, del])
        have HAt : Hid (lk ([⟨id, bx, by'⟩] : List Un) id = some ⟨id, bx, by'⟩) := Lib.hid (by simp [lk])
        have HN1 : Hid (ids ([⟨id, bx, by'⟩] : List Un) (nr bx by' 0) = [id]) := Lib.hid (by rw [one_near id bx by' bx by' 0 true (near_self _ _ _ (by omega))]; rfl)
        have HN2 : Hid (ids ([⟨id, bx, by'⟩] : List Un) (nr ax ay 0) = []) := Lib.hid (by rw [one_near id bx by' ax ay 0 false hz]; rfl)
        have hq := neq32 bx by' bx by' false (by simp)
        have he := eql32 ax ay bx by' false heq
        have HD : Hid (hasId ([⟨id, bx, by'⟩] : List Un) id = true) := Lib.hid (by simp [hasId])
        have HL3 : Hid (del ([⟨id, bx, by'⟩] : List Un) id = []) := Lib.hid (by simp [del])
        have HN3 : Hid (ids ([] : List Un) (nr bx by' 300) = []) := Lib.hid rfl
        have HN4 : Hid (ids ([] : List Un) (fun _ => true) = []) := Lib.hid rfl
        have f0 : Fits 0 := fit_of (by omega) (by omega)
        have f3 : Fits 300 := fit_of (by omega) (by omega)
        have HCx : Hid (∀ V, Below ((W.alloc (.cells #[.int .i64 ax, .int .i64 ay] 32)).alloc (.cells #[.int .i64 bx, .int .i64 by'] 32)).heap.size ((W.alloc (.cells #[.int .i64 ax, .int .i64 ay] 32)).alloc (.cells #[.int .i64 bx, .int .i64 by'] 32)) V → V.cell? ⟨W.heap.size, 0, none⟩ = some (.int .i64 ax) ∧ V.cell? ⟨W.heap.size, 1, none⟩ = some (.int .i64 ay) ∧ V.cell? ⟨W.heap.size + 1, 0, none⟩ = some (.int .i64 bx) ∧ V.cell? ⟨W.heap.size + 1, 1, none⟩ = some (.int .i64 by')) := Lib.hid (fun V hV => HC.out V (by rw [← HS.out]; exact hV))
        go_enter Try.func5, Try.ntmps5
        go_wp2_with (first
          | ((with_reducible refine (small_any _).mono ?_); rintro e w1 ⟨rfl, hB1⟩; have HB1 := Lib.hid hB1; clear hB1)
          | ((with_reducible refine (xo_new _ _ HB1.out).mono ?_); rintro e w2 ⟨xb, rfl, HX0, HB2⟩; have HX0k := Lib.hid HX0.out.xk; obtain ⟨c0, c1, c2, c3⟩ := HCx.out w2 HX0.out.bel; clear HX0 HB2)
          | ((with_reducible refine (put_in HX0k.out id ax ay hid (by omega) HOne.out [⟨id, ax, ay⟩] HL1.out).mono ?_); rintro e w3 ⟨rfl, HX1⟩; obtain ⟨d0, d1, d2, d3⟩ := HCx.out w3 HX1.out.bel; clear HX0k c0 c1 c2 c3)
          | ((with_reducible refine (put_in HX1.out id bx by' hid (by omega) HTwo.out [⟨id, bx, by'⟩] HL2.out).mono ?_); rintro e w4 ⟨rfl, HX2⟩; obtain ⟨e0, e1, e2, e3⟩ := HCx.out w4 HX2.out.bel; clear HX1 d0 d1 d2 d3)
          | ((with_reducible refine (at_some HX2.out id hid bx by' HAt.out).mono ?_); rintro e w5 ⟨rfl, HX3, HB5⟩; have HX4 := Lib.hid (HX3.out.new (.cells #[.int .i64 bx, .int .i64 by'] 32)); obtain ⟨g0, g1, g2, g3⟩ := HCx.out _ HX4.out.bel; clear HX2 e0 e1 e2 e3 HB5)
          | ((with_reducible refine (xk_near HX4.out bx by' 0 fbx fby f0 _ HN1.out 1 rfl).mono ?_); rintro e w6 ⟨A6, c6, rfl, _, HX5, HB6⟩; obtain ⟨i0, i1, i2, i3⟩ := HCx.out _ HX5.out.bel; have hq0 := HX5.out.obj (p := (w5.heap.size, (.cells #[.int .i64 bx, .int .i64 by'] 32))) (by simp); have k0 : w6.cell? ⟨w5.heap.size, 0, none⟩ = some (.int .i64 bx) := (cell_of_row w6 _ 0 _ 32 (0, 0) hq0).trans rfl; have k1 : w6.cell? ⟨w5.heap.size, 1, none⟩ = some (.int .i64 by') := (cell_of_row w6 _ 1 _ 32 (0, 0) hq0).trans rfl; clear HX4 HB6 g0 g1 g2 g3 hq0)
          | ((with_reducible refine (xk_near HX5.out ax ay 0 fax fay f0 _ HN2.out 0 rfl).mono ?_); rintro e w7 ⟨A7, c7, rfl, _, HX6, HB7⟩; clear HX5 HB7 i0 i1 i2 i3 k0 k1)
          | ((with_reducible refine (xk_drop HX6.out id hid true HD.out [] HL3.out).mono ?_); rintro e w8 ⟨rfl, HX7⟩; obtain ⟨j0, j1, j2, j3⟩ := HCx.out _ HX7.out.bel; have hq0 := HX7.out.obj (p := (w5.heap.size, (.cells #[.int .i64 bx, .int .i64 by'] 32))) (by simp); have k0 : w8.cell? ⟨w5.heap.size, 0, none⟩ = some (.int .i64 bx) := (cell_of_row w8 _ 0 _ 32 (0, 0) hq0).trans rfl; have k1 : w8.cell? ⟨w5.heap.size, 1, none⟩ = some (.int .i64 by') := (cell_of_row w8 _ 1 _ 32 (0, 0) hq0).trans rfl; clear HX6 hq0)
          | ((with_reducible refine (xk_near HX7.out bx by' 300 fbx fby f3 _ HN3.out 0 rfl).mono ?_); rintro e w9 ⟨A9, c9, rfl, _, HX8, HB9⟩; clear HX7 HB9 j0 j1 j2 j3 k0 k1)
          | ((with_reducible refine (xk_ids HX8.out _ HN4.out 0 rfl).mono ?_); rintro e w10 ⟨A10, c10, rfl, _, HF, HB10⟩; clear HX8 HB10))
        go_ret
        exact ⟨rfl, HB.out.trans (HF.out.bel.mono (by have := HS.out; omega))⟩
      | false =>
        have HL2 : Hid (ins (del ([] : List Un) id) ⟨id, bx, by'⟩ = ([⟨id, bx, by'⟩] : List Un)) := Lib.hid (by simp [ins, del])
        have HAt : Hid (lk ([⟨id, bx, by'⟩] : List Un) id = some ⟨id, bx, by'⟩) := Lib.hid (by simp [lk])
        have HN1 : Hid (ids ([⟨id, bx, by'⟩] : List Un) (nr bx by' 0) = [id]) := Lib.hid (by rw [one_near id bx by' bx by' 0 true (near_self _ _ _ (by omega))]; rfl)
        have HN2 : Hid (ids ([⟨id, bx, by'⟩] : List Un) (nr ax ay 0) = []) := Lib.hid (by rw [one_near id bx by' ax ay 0 false hz]; rfl)
        have hq := neq32 bx by' bx by' false (by simp)
        have he := eql32 ax ay bx by' false heq
        have HD : Hid (hasId ([⟨id, bx, by'⟩] : List Un) id = true) := Lib.hid (by simp [hasId])
        have HL3 : Hid (del ([⟨id, bx, by'⟩] : List Un) id = []) := Lib.hid (by simp [del])
        have HN3 : Hid (ids ([] : List Un) (nr bx by' 300) = []) := Lib.hid rfl
        have HN4 : Hid (ids ([] : List Un) (fun _ => true) = []) := Lib.hid rfl
        have f0 : Fits 0 := fit_of (by omega) (by omega)
        have f3 : Fits 300 := fit_of (by omega) (by omega)
        have HCx : Hid (∀ V, Below ((W.alloc (.cells #[.int .i64 ax, .int .i64 ay] 32)).alloc (.cells #[.int .i64 bx, .int .i64 by'] 32)).heap.size ((W.alloc (.cells #[.int .i64 ax, .int .i64 ay] 32)).alloc (.cells #[.int .i64 bx, .int .i64 by'] 32)) V → V.cell? ⟨W.heap.size, 0, none⟩ = some (.int .i64 ax) ∧ V.cell? ⟨W.heap.size, 1, none⟩ = some (.int .i64 ay) ∧ V.cell? ⟨W.heap.size + 1, 0, none⟩ = some (.int .i64 bx) ∧ V.cell? ⟨W.heap.size + 1, 1, none⟩ = some (.int .i64 by')) := Lib.hid (fun V hV => HC.out V (by rw [← HS.out]; exact hV))
        go_enter Try.func5, Try.ntmps5
        go_wp2_with (first
          | ((with_reducible refine (small_any _).mono ?_); rintro e w1 ⟨rfl, hB1⟩; have HB1 := Lib.hid hB1; clear hB1)
          | ((with_reducible refine (xo_new _ _ HB1.out).mono ?_); rintro e w2 ⟨xb, rfl, HX0, HB2⟩; have HX0k := Lib.hid HX0.out.xk; obtain ⟨c0, c1, c2, c3⟩ := HCx.out w2 HX0.out.bel; clear HX0 HB2)
          | ((with_reducible refine (put_not HX0k.out id ax ay hid (by omega) HOne.out).mono ?_); rintro e w3 ⟨rfl, HX1⟩; obtain ⟨d0, d1, d2, d3⟩ := HCx.out w3 HX1.out.bel; clear HX0k c0 c1 c2 c3)
          | ((with_reducible refine (put_in HX1.out id bx by' hid (by omega) HTwo.out [⟨id, bx, by'⟩] HL2.out).mono ?_); rintro e w4 ⟨rfl, HX2⟩; obtain ⟨e0, e1, e2, e3⟩ := HCx.out w4 HX2.out.bel; clear HX1 d0 d1 d2 d3)
          | ((with_reducible refine (at_some HX2.out id hid bx by' HAt.out).mono ?_); rintro e w5 ⟨rfl, HX3, HB5⟩; have HX4 := Lib.hid (HX3.out.new (.cells #[.int .i64 bx, .int .i64 by'] 32)); obtain ⟨g0, g1, g2, g3⟩ := HCx.out _ HX4.out.bel; clear HX2 e0 e1 e2 e3 HB5)
          | ((with_reducible refine (xk_near HX4.out bx by' 0 fbx fby f0 _ HN1.out 1 rfl).mono ?_); rintro e w6 ⟨A6, c6, rfl, _, HX5, HB6⟩; obtain ⟨i0, i1, i2, i3⟩ := HCx.out _ HX5.out.bel; have hq0 := HX5.out.obj (p := (w5.heap.size, (.cells #[.int .i64 bx, .int .i64 by'] 32))) (by simp); have k0 : w6.cell? ⟨w5.heap.size, 0, none⟩ = some (.int .i64 bx) := (cell_of_row w6 _ 0 _ 32 (0, 0) hq0).trans rfl; have k1 : w6.cell? ⟨w5.heap.size, 1, none⟩ = some (.int .i64 by') := (cell_of_row w6 _ 1 _ 32 (0, 0) hq0).trans rfl; clear HX4 HB6 g0 g1 g2 g3 hq0)
          | ((with_reducible refine (xk_near HX5.out ax ay 0 fax fay f0 _ HN2.out 0 rfl).mono ?_); rintro e w7 ⟨A7, c7, rfl, _, HX6, HB7⟩; clear HX5 HB7 i0 i1 i2 i3 k0 k1)
          | ((with_reducible refine (xk_drop HX6.out id hid true HD.out [] HL3.out).mono ?_); rintro e w8 ⟨rfl, HX7⟩; obtain ⟨j0, j1, j2, j3⟩ := HCx.out _ HX7.out.bel; have hq0 := HX7.out.obj (p := (w5.heap.size, (.cells #[.int .i64 bx, .int .i64 by'] 32))) (by simp); have k0 : w8.cell? ⟨w5.heap.size, 0, none⟩ = some (.int .i64 bx) := (cell_of_row w8 _ 0 _ 32 (0, 0) hq0).trans rfl; have k1 : w8.cell? ⟨w5.heap.size, 1, none⟩ = some (.int .i64 by') := (cell_of_row w8 _ 1 _ 32 (0, 0) hq0).trans rfl; clear HX6 hq0)
          | ((with_reducible refine (xk_near HX7.out bx by' 300 fbx fby f3 _ HN3.out 0 rfl).mono ?_); rintro e w9 ⟨A9, c9, rfl, _, HX8, HB9⟩; clear HX7 HB9 j0 j1 j2 j3 k0 k1)
          | ((with_reducible refine (xk_ids HX8.out _ HN4.out 0 rfl).mono ?_); rintro e w10 ⟨A10, c10, rfl, _, HF, HB10⟩; clear HX8 HB10))
        go_ret
        exact ⟨rfl, HB.out.trans (HF.out.bel.mono (by have := HS.out; omega))⟩
  | false =>
    cases one with
    | true =>
      have HL1 : Hid (ins (del [] id) ⟨id, ax, ay⟩ = ([⟨id, ax, ay⟩] : List Un)) := Lib.hid (by simp [ins, del])
      have HAt : Hid (lk ([⟨id, ax, ay⟩] : List Un) id = some ⟨id, ax, ay⟩) := Lib.hid (by simp [lk])
      have HN1 : Hid (ids ([⟨id, ax, ay⟩] : List Un) (nr ax ay 0) = [id]) := Lib.hid (by rw [one_near id ax ay ax ay 0 true (near_self _ _ _ (by omega))]; rfl)
      have HN2 : Hid (ids ([⟨id, ax, ay⟩] : List Un) (nr ax ay 0) = [id]) := Lib.hid HN1.out
      have hq := neq32 ax ay ax ay false (by simp)
      have he := eql32 ax ay ax ay true (by simp)
      have HD : Hid (hasId ([⟨id, ax, ay⟩] : List Un) id = true) := Lib.hid (by simp [hasId])
      have HL3 : Hid (del ([⟨id, ax, ay⟩] : List Un) id = []) := Lib.hid (by simp [del])
      have HN3 : Hid (ids ([] : List Un) (nr ax ay 300) = []) := Lib.hid rfl
      have HN4 : Hid (ids ([] : List Un) (fun _ => true) = []) := Lib.hid rfl
      have f0 : Fits 0 := fit_of (by omega) (by omega)
      have f3 : Fits 300 := fit_of (by omega) (by omega)
      have HCx : Hid (∀ V, Below ((W.alloc (.cells #[.int .i64 ax, .int .i64 ay] 32)).alloc (.cells #[.int .i64 bx, .int .i64 by'] 32)).heap.size ((W.alloc (.cells #[.int .i64 ax, .int .i64 ay] 32)).alloc (.cells #[.int .i64 bx, .int .i64 by'] 32)) V → V.cell? ⟨W.heap.size, 0, none⟩ = some (.int .i64 ax) ∧ V.cell? ⟨W.heap.size, 1, none⟩ = some (.int .i64 ay) ∧ V.cell? ⟨W.heap.size + 1, 0, none⟩ = some (.int .i64 bx) ∧ V.cell? ⟨W.heap.size + 1, 1, none⟩ = some (.int .i64 by')) := Lib.hid (fun V hV => HC.out V (by rw [← HS.out]; exact hV))
      go_enter Try.func5, Try.ntmps5
      go_wp2_with (first
        | ((with_reducible refine (small_any _).mono ?_); rintro e w1 ⟨rfl, hB1⟩; have HB1 := Lib.hid hB1; clear hB1)
        | ((with_reducible refine (xo_new _ _ HB1.out).mono ?_); rintro e w2 ⟨xb, rfl, HX0, HB2⟩; have HX0k := Lib.hid HX0.out.xk; obtain ⟨c0, c1, c2, c3⟩ := HCx.out w2 HX0.out.bel; clear HX0 HB2)
        | ((with_reducible refine (put_in HX0k.out id ax ay hid (by omega) HOne.out [⟨id, ax, ay⟩] HL1.out).mono ?_); rintro e w3 ⟨rfl, HX1⟩; obtain ⟨d0, d1, d2, d3⟩ := HCx.out w3 HX1.out.bel; clear HX0k c0 c1 c2 c3)
        | ((with_reducible refine (put_not HX1.out id bx by' hid (by omega) HTwo.out).mono ?_); rintro e w4 ⟨rfl, HX2⟩; obtain ⟨e0, e1, e2, e3⟩ := HCx.out w4 HX2.out.bel; clear HX1 d0 d1 d2 d3)
        | ((with_reducible refine (at_some HX2.out id hid ax ay HAt.out).mono ?_); rintro e w5 ⟨rfl, HX3, HB5⟩; have HX4 := Lib.hid (HX3.out.new (.cells #[.int .i64 ax, .int .i64 ay] 32)); obtain ⟨g0, g1, g2, g3⟩ := HCx.out _ HX4.out.bel; clear HX2 e0 e1 e2 e3 HB5)
        | ((with_reducible refine (xk_near HX4.out ax ay 0 fax fay f0 _ HN1.out 1 rfl).mono ?_); rintro e w6 ⟨A6, c6, rfl, _, HX5, HB6⟩; obtain ⟨i0, i1, i2, i3⟩ := HCx.out _ HX5.out.bel; have hq0 := HX5.out.obj (p := (w5.heap.size, (.cells #[.int .i64 ax, .int .i64 ay] 32))) (by simp); have k0 : w6.cell? ⟨w5.heap.size, 0, none⟩ = some (.int .i64 ax) := (cell_of_row w6 _ 0 _ 32 (0, 0) hq0).trans rfl; have k1 : w6.cell? ⟨w5.heap.size, 1, none⟩ = some (.int .i64 ay) := (cell_of_row w6 _ 1 _ 32 (0, 0) hq0).trans rfl; clear HX4 HB6 g0 g1 g2 g3 hq0)
        | ((with_reducible refine (xk_near HX5.out ax ay 0 fax fay f0 _ HN2.out 1 rfl).mono ?_); rintro e w7 ⟨A7, c7, rfl, _, HX6, HB7⟩; clear HX5 HB7 i0 i1 i2 i3 k0 k1)
        | ((with_reducible refine (xk_drop HX6.out id hid true HD.out [] HL3.out).mono ?_); rintro e w8 ⟨rfl, HX7⟩; obtain ⟨j0, j1, j2, j3⟩ := HCx.out _ HX7.out.bel; have hq0 := HX7.out.obj (p := (w5.heap.size, (.cells #[.int .i64 ax, .int .i64 ay] 32))) (by simp); have k0 : w8.cell? ⟨w5.heap.size, 0, none⟩ = some (.int .i64 ax) := (cell_of_row w8 _ 0 _ 32 (0, 0) hq0).trans rfl; have k1 : w8.cell? ⟨w5.heap.size, 1, none⟩ = some (.int .i64 ay) := (cell_of_row w8 _ 1 _ 32 (0, 0) hq0).trans rfl; clear HX6 hq0)
        | ((with_reducible refine (xk_near HX7.out ax ay 300 fax fay f3 _ HN3.out 0 rfl).mono ?_); rintro e w9 ⟨A9, c9, rfl, _, HX8, HB9⟩; clear HX7 HB9 j0 j1 j2 j3 k0 k1)
        | ((with_reducible refine (xk_ids HX8.out _ HN4.out 0 rfl).mono ?_); rintro e w10 ⟨A10, c10, rfl, _, HF, HB10⟩; clear HX8 HB10))
      go_ret
      exact ⟨rfl, HB.out.trans (HF.out.bel.mono (by have := HS.out; omega))⟩
    | false =>
      have HAt : Hid (lk ([] : List Un) id = none) := Lib.hid rfl
      have HN4 : Hid (ids ([] : List Un) (fun _ => true) = []) := Lib.hid rfl
      have HCx : Hid (∀ V, Below ((W.alloc (.cells #[.int .i64 ax, .int .i64 ay] 32)).alloc (.cells #[.int .i64 bx, .int .i64 by'] 32)).heap.size ((W.alloc (.cells #[.int .i64 ax, .int .i64 ay] 32)).alloc (.cells #[.int .i64 bx, .int .i64 by'] 32)) V → V.cell? ⟨W.heap.size, 0, none⟩ = some (.int .i64 ax) ∧ V.cell? ⟨W.heap.size, 1, none⟩ = some (.int .i64 ay) ∧ V.cell? ⟨W.heap.size + 1, 0, none⟩ = some (.int .i64 bx) ∧ V.cell? ⟨W.heap.size + 1, 1, none⟩ = some (.int .i64 by')) := Lib.hid (fun V hV => HC.out V (by rw [← HS.out]; exact hV))
      go_enter Try.func5, Try.ntmps5
      go_wp2_with (first
        | ((with_reducible refine (small_any _).mono ?_); rintro e w1 ⟨rfl, hB1⟩; have HB1 := Lib.hid hB1; clear hB1)
        | ((with_reducible refine (xo_new _ _ HB1.out).mono ?_); rintro e w2 ⟨xb, rfl, HX0, HB2⟩; have HX0k := Lib.hid HX0.out.xk; obtain ⟨c0, c1, c2, c3⟩ := HCx.out w2 HX0.out.bel; clear HX0 HB2)
        | ((with_reducible refine (put_not HX0k.out id ax ay hid (by omega) HOne.out).mono ?_); rintro e w3 ⟨rfl, HX1⟩; obtain ⟨d0, d1, d2, d3⟩ := HCx.out w3 HX1.out.bel; clear HX0k c0 c1 c2 c3)
        | ((with_reducible refine (put_not HX1.out id bx by' hid (by omega) HTwo.out).mono ?_); rintro e w4 ⟨rfl, HX2⟩; obtain ⟨e0, e1, e2, e3⟩ := HCx.out w4 HX2.out.bel; clear HX1 d0 d1 d2 d3)
        | ((with_reducible refine (at_none HX2.out id hid HAt.out).mono ?_); rintro e w5 ⟨rfl, HX3, HB5⟩; have HX4 := Lib.hid (HX3.out.new (.cells #[.int .i64 0, .int .i64 0] 32)); obtain ⟨g0, g1, g2, g3⟩ := HCx.out _ HX4.out.bel; clear HX2 e0 e1 e2 e3 HB5)
        | ((with_reducible refine (xk_ids HX4.out _ HN4.out 0 rfl).mono ?_); rintro e w10 ⟨A10, c10, rfl, _, HF, HB10⟩; clear HX4 HB10))
      go_ret
      exact ⟨rfl, HB.out.trans (HF.out.bel.mono (by have := HS.out; omega))⟩


set_option maxRecDepth 100000 in
theorem lifted (os : Os) (started : os.Started) (H : Type) (enc : TypeId × Value → H) :
    ReturnsInHanded {} Try.checked os 5 .any (Rows.cellsMovesSpec.pre6 enc Try.prog Try.f5 Rows.cellsMovesRow.domain false) (Rows.cellsMovesSpec.post enc Try.prog Try.f5 false true false false) := by
  refine returnsInHanded_of_change (C := Try.checked) own started (by kernel_rfl) Try.func5
    (ChangeSpec.witness6 (enc := enc) (C := Try.checked) false ⟨#[], #[.int .i64 0, .agg #[.int .i64 0, .int .i64 0], .agg #[.int .i64 0, .int .i64 0]], []⟩ 8 (by kernel_rfl) (by kernel_rfl) (by kernel_rfl) (by kernel_rfl)) ?_
  intro W base args ds gs before hval0 hW hcnd _
  have hval : ∀ (j : Nat) t v, Try.f5.params[j]? = some t → args[j]? = some v → Value.okWide Try.prog W .any base t v := hval0
  have hW' := hW
  obtain ⟨p, q, hA0, hV, rfl, hfz, hnd⟩ := hW
  have hA : DataW.TrodAll enc Try.prog W 0 (fun _ => true) true Try.f5.params.toList args.toList ds p := hA0
  rw [Try.params5] at hA hval
  obtain ⟨v0, vs0, d0, ds0, p0, q0, hargs, rfl, rfl, h0, r0⟩ := trodAll_cons hA
  obtain ⟨v1, vs1, d1, ds1, p1, q1, rfl, rfl, rfl, h1, r1⟩ := trodAll_cons r0
  obtain ⟨v2, vs2, d2, ds2, p2, q2, rfl, rfl, rfl, h2, r2⟩ := trodAll_cons r1
  obtain ⟨rfl, rfl, rfl⟩ := trodAll_nil r2
  obtain rfl : args = #[v0, v1, v2] := by cases args; simp_all
  obtain ⟨rfl, rfl⟩ := trodVars_none hV
  clear hA0 hval0
  obtain ⟨a0, rfl, rfl, rfl, w0⟩ := open_int Try.underlying3 (hval 0 3 v0 rfl rfl) h0
  have hlt1 : ∀ x ∈ p1, x.block < W.heap.size := fun x hx => hW'.lt x (by simp [hx])
  have hk1 := h1
  obtain ⟨x1, y1, rfl, fx1, fy1⟩ := Open.viewP (hval 1 32 v1 rfl rfl) h1
  have hlt2 : ∀ x ∈ p2, x.block < W.heap.size := fun x hx => hW'.lt x (by simp [hx])
  have hk2 := h2
  obtain ⟨x2, y2, rfl, fx2, fy2⟩ := Open.viewP (hval 2 32 v2 rfl rfl) h2
  simp only [List.append_nil] at hW'
  refine (walk W a0 (Open.fits_of w0) x1 y1 fx1 fy1 x2 y2 fx2 fy2).mono fun e W' ⟨he, hg⟩ => ?_
  subst he
  exact ⟨_, rfl, _, _, _, [], _, [], hW', (trodAll_cons_mk (shut_bool Try.underlying4 _) trodAll_mk0), (trodAll_cons_mk (shut_int Try.underlying3 w0) (trodAll_cons_mk (Below.trod Open.laidOut (by kernel_rfl) (of_decide_eq_true (by kernel_rfl)) hk1 hg hlt1) (trodAll_cons_mk (Below.trod Open.laidOut (by kernel_rfl) (of_decide_eq_true (by kernel_rfl)) hk2 hg hlt2) trodAll_mk0))), rfl, hg.frame _, fun h => by cases h⟩

theorem over : Rows.cellsMovesRow.holds Try.pinned (OpenSpec.ofChange Rows.cellsMovesSpec) :=
  OpenClaim.holds_of_wide 5 Try.f5 rfl rfl rfl rfl rfl rfl rfl ⟨rfl, rfl, rfl, rfl, rfl⟩ rfl rfl rfl rfl rfl (by kernel_rfl) Try.func5 (by kernel_rfl)
    (of_decide_eq_true (by kernel_rfl)) (by unfold Func.isWrapper; first | (rw [if_pos (by decide +kernel)]; kernel_rfl) | (rw [if_neg (by decide +kernel)]; exact ⟨rfl, rfl⟩))
    (fun os started H enc _ => lifted os started H enc)

/-- The given statement. -/
theorem proved : Rows.CellsMovesSaid :=
  over
#print axioms proved
end Go.Proofs.Ytehllnbpianpfaa.cellsMoves
