/-
  SightAlike: for every grid and every two tiles the law answers true (the line is alike both ways, has both ends and as many tiles as the steps ask, and so is whether one sees); no condition.
-/
import Derived.Test.YtiggpmennomplaaSma
import Derived.Test.YtiggpmennomplaaNds
import Derived.Test.YtiggpmennomplaaOpen
import Derived.Deep.Cut
import Derived.WalkKit
import Derived.ProofKit
import Derived.OpenShut
namespace Go.Proofs.Ytiggpmennomplaa.sightAlike
open Go.ChangeShapes Go.WideShapes Go.ChangeAt Go.RowKit Con Wlk Lin Arn
set_option linter.unusedVariables false

theorem own : ownKnob Try.prog.godebug = none := by kernel_rfl

theorem rb_at {W V : World} {A : Option Addr} {l : List Bool} (h : RB W W.heap.size A l) (hb : Below W.heap.size W V) : RB V V.heap.size A l := by
  rcases h.below hb (Nat.le_refl _) with e | ⟨b, off, e, hlt, hc⟩
  · exact .inl e
  · exact .inr ⟨b, off, e, Nat.lt_of_lt_of_le hlt hb.size, hc⟩
/-- What the calls answer. -/
structure Ans (W : World) (g a b : Value) (L : List Tile) (k : Nat) (t : Int) (ia ib sB few : Bool) : Prop where
  aFew : ∀ V : World, Calls Try.prog 8 #[g] V fun e w' => e = .returned (.bool few) ∧ Below V.heap.size V w'
  l1 : ∀ V : World, Calls Try.prog 12 #[g, a, b] V fun e w' => (∃ A c, e = .returned (.slice A k c) ∧ RT w' w'.heap.size A L) ∧ Below V.heap.size V w'
  l2 : ∀ V : World, Calls Try.prog 12 #[g, b, a] V fun e w' => (∃ A c, e = .returned (.slice A k c) ∧ RT w' w'.heap.size A L) ∧ Below V.heap.size V w'
  aIa : ∀ V : World, Calls Try.prog 18 #[g, a] V fun e w' => e = .returned (.bool ia) ∧ Below V.heap.size V w'
  aIb : ∀ V : World, Calls Try.prog 18 #[g, b] V fun e w' => e = .returned (.bool ib) ∧ Below V.heap.size V w'
  se : ∀ V : World, Below W.heap.size W V → Calls Try.prog 14 #[g, a, b] V fun e w' => e = .returned (.bool sB) ∧ Below V.heap.size V w'
  sf : ∀ V : World, Below W.heap.size W V → Calls Try.prog 14 #[g, b, a] V fun e w' => e = .returned (.bool sB) ∧ Below V.heap.size V w'
  st : ia = true → ib = true → ∀ V : World, Calls Try.prog 20 #[a, b] V fun e w' => e = .returned (.int .i64 t) ∧ Below V.heap.size V w'
  len : L.length = k
  no : (ia && ib) = false → k = 0 ∧ sB = false
  yes : (ia && ib) = true → 0 ≤ t ∧ t + 1 ≤ (k : Int) ∧ (k : Int) ≤ 3 * t + 1 ∧ k ≤ 66049
  has : (ia && ib) = true → ∀ x y : Int, (a = pv x y ∨ b = pv x y) → hasB L x y = true

set_option maxRecDepth 100000 in
set_option maxHeartbeats 4000000 in
theorem core (W : World) (gw gh : Int) (A : Option Addr) (n c : Nat) (ax ay bx by' : Int) (L : List Tile) (k : Nat) (t : Int) (ia ib sB few : Bool) (C : Ans W (gv gw gh A n c) (pv ax ay) (pv bx by') L k t ia ib sB few) :
    Calls Try.prog 5 #[gv gw gh A n c, pv ax ay, pv bx by'] W fun e w' => e = .returned (.bool true) ∧ Below W.heap.size W w' := by
  have hb := gab_below gw gh A n c ax ay bx by' W
  have hg := gab_g3 gw gh A n c ax ay bx by' W
  have HB0 := Lib.hid hb
  have HG0 := Lib.hid hg
  have HF := Lib.hid C.aFew; have HL1 := Lib.hid C.l1; have HL2 := Lib.hid C.l2; have HIA := Lib.hid C.aIa; have HIB := Lib.hid C.aIb
  have HC := Lib.hid C
  clear C hb hg
  cases few with
  | false =>
    go_enter Try.func5, Try.ntmps5
    go_wp2_with (first
      | ((with_reducible refine (small_any _).mono ?_); rintro e w1 ⟨rfl, hB1⟩; have HG1 := Lib.hid (HG0.out.of hB1); obtain ⟨c0, c1, c2, c3, c4, c5, c6⟩ := HG1.out.cells; have HB1 := Lib.hid (HB0.out.trans (hB1.mono HB0.out.size)); clear hB1)
      | ((with_reducible refine (HF.out _).mono ?_); rintro e w2 ⟨rfl, hB2⟩; have HG2 := Lib.hid (HG1.out.of hB2); clear c0 c1 c2 c3 c4 c5 c6; obtain ⟨c0, c1, c2, c3, c4, c5, c6⟩ := HG2.out.cells; have HB2 := Lib.hid (HB1.out.trans (hB2.mono HB1.out.size)); clear hB2))
    go_ret
    exact ⟨rfl, HB2.out⟩
  | true =>
    cases hia : ia with
    | false =>
      subst hia
      obtain ⟨rfl, rfl⟩ := HC.out.no rfl
      go_enter Try.func5, Try.ntmps5
      go_wp2_with (first
        | ((with_reducible refine (small_any _).mono ?_); rintro e w1 ⟨rfl, hB1⟩; have HG1 := Lib.hid (HG0.out.of hB1); obtain ⟨c0, c1, c2, c3, c4, c5, c6⟩ := HG1.out.cells; have HB1 := Lib.hid (HB0.out.trans (hB1.mono HB0.out.size)); clear hB1)
        | ((with_reducible refine (HF.out _).mono ?_); rintro e w2 ⟨rfl, hB2⟩; have HG2 := Lib.hid (HG1.out.of hB2); clear c0 c1 c2 c3 c4 c5 c6; obtain ⟨c0, c1, c2, c3, c4, c5, c6⟩ := HG2.out.cells; have HB2 := Lib.hid (HB1.out.trans (hB2.mono HB1.out.size)); clear hB2)
        | ((with_reducible refine (HL1.out _).mono ?_); rintro e w3 ⟨⟨A1, c1', rfl, _⟩, hB3⟩; have HG3 := Lib.hid (HG2.out.of hB3); clear c0 c1 c2 c3 c4 c5 c6; obtain ⟨c0, c1, c2, c3, c4, c5, c6⟩ := HG3.out.cells; have HB3 := Lib.hid (HB2.out.trans (hB3.mono HB2.out.size)); clear hB3)
        | ((with_reducible refine (HL2.out _).mono ?_); rintro e w4 ⟨⟨A2, c2', rfl, _⟩, hB4⟩; have HG4 := Lib.hid (HG3.out.of hB4); clear c0 c1 c2 c3 c4 c5 c6; obtain ⟨c0, c1, c2, c3, c4, c5, c6⟩ := HG4.out.cells; have HB4 := Lib.hid (HB3.out.trans (hB4.mono HB3.out.size)); clear hB4)
        | ((with_reducible refine (HIA.out _).mono ?_); rintro e w5 ⟨rfl, hB5⟩; have HG5 := Lib.hid (HG4.out.of hB5); clear c0 c1 c2 c3 c4 c5 c6; obtain ⟨c0, c1, c2, c3, c4, c5, c6⟩ := HG5.out.cells; have HB5 := Lib.hid (HB4.out.trans (hB5.mono HB4.out.size)); have HX5 := Lib.hid hB5; clear hB5)
        | ((with_reducible refine (HC.out.se _ HB5.out).mono ?_); rintro e w6 ⟨rfl, hB6⟩; have HG6 := Lib.hid (HG5.out.of hB6); clear c0 c1 c2 c3 c4 c5 c6; obtain ⟨c0, c1, c2, c3, c4, c5, c6⟩ := HG6.out.cells; have HB6 := Lib.hid (HB5.out.trans (hB6.mono HB5.out.size)); clear hB6))
      go_ret
      exact ⟨rfl, HB6.out⟩
    | true =>
      cases hib : ib with
      | false =>
        subst hia hib
        obtain ⟨rfl, rfl⟩ := HC.out.no rfl
        go_enter Try.func5, Try.ntmps5
        go_wp2_with (first
          | ((with_reducible refine (small_any _).mono ?_); rintro e w1 ⟨rfl, hB1⟩; have HG1 := Lib.hid (HG0.out.of hB1); obtain ⟨c0, c1, c2, c3, c4, c5, c6⟩ := HG1.out.cells; have HB1 := Lib.hid (HB0.out.trans (hB1.mono HB0.out.size)); clear hB1)
          | ((with_reducible refine (HF.out _).mono ?_); rintro e w2 ⟨rfl, hB2⟩; have HG2 := Lib.hid (HG1.out.of hB2); clear c0 c1 c2 c3 c4 c5 c6; obtain ⟨c0, c1, c2, c3, c4, c5, c6⟩ := HG2.out.cells; have HB2 := Lib.hid (HB1.out.trans (hB2.mono HB1.out.size)); clear hB2)
          | ((with_reducible refine (HL1.out _).mono ?_); rintro e w3 ⟨⟨A1, c1', rfl, _⟩, hB3⟩; have HG3 := Lib.hid (HG2.out.of hB3); clear c0 c1 c2 c3 c4 c5 c6; obtain ⟨c0, c1, c2, c3, c4, c5, c6⟩ := HG3.out.cells; have HB3 := Lib.hid (HB2.out.trans (hB3.mono HB2.out.size)); clear hB3)
          | ((with_reducible refine (HL2.out _).mono ?_); rintro e w4 ⟨⟨A2, c2', rfl, _⟩, hB4⟩; have HG4 := Lib.hid (HG3.out.of hB4); clear c0 c1 c2 c3 c4 c5 c6; obtain ⟨c0, c1, c2, c3, c4, c5, c6⟩ := HG4.out.cells; have HB4 := Lib.hid (HB3.out.trans (hB4.mono HB3.out.size)); clear hB4)
          | ((with_reducible refine (HIA.out _).mono ?_); rintro e w5 ⟨rfl, hB5⟩; have HG5 := Lib.hid (HG4.out.of hB5); clear c0 c1 c2 c3 c4 c5 c6; obtain ⟨c0, c1, c2, c3, c4, c5, c6⟩ := HG5.out.cells; have HB5 := Lib.hid (HB4.out.trans (hB5.mono HB4.out.size)); have HX5 := Lib.hid hB5; clear hB5)
          | ((with_reducible refine (HIB.out _).mono ?_); rintro e w6 ⟨rfl, hB6⟩; have HG6 := Lib.hid (HG5.out.of hB6); clear c0 c1 c2 c3 c4 c5 c6; obtain ⟨c0, c1, c2, c3, c4, c5, c6⟩ := HG6.out.cells; have HB6 := Lib.hid (HB5.out.trans (hB6.mono HB5.out.size)); have HX6 := Lib.hid hB6; clear hB6)
          | ((with_reducible refine (HC.out.se _ HB6.out).mono ?_); rintro e w7 ⟨rfl, hB7⟩; have HG7 := Lib.hid (HG6.out.of hB7); clear c0 c1 c2 c3 c4 c5 c6; obtain ⟨c0, c1, c2, c3, c4, c5, c6⟩ := HG7.out.cells; have HB7 := Lib.hid (HB6.out.trans (hB7.mono HB6.out.size)); clear hB7))
        go_ret
        exact ⟨rfl, HB7.out⟩
      | true =>
        subst hia hib
        obtain ⟨t0, t1, t2, t3⟩ := HC.out.yes rfl
        have u1 : IntKind.i64.wrap (t + 1) = t + 1 := IntWalk.i64_in _ (by omega)
        have u2 : IntKind.i64.wrap (3 * t) = 3 * t := IntWalk.i64_in _ (by omega)
        have u3 : IntKind.i64.wrap (3 * t + 1) = 3 * t + 1 := IntWalk.i64_in _ (by omega)
        have HST := Lib.hid (HC.out.st rfl rfl)
        go_enter Try.func5, Try.ntmps5
        go_wp2_with (first
          | ((with_reducible refine (small_any _).mono ?_); rintro e w1 ⟨rfl, hB1⟩; have HG1 := Lib.hid (HG0.out.of hB1); obtain ⟨c0, c1, c2, c3, c4, c5, c6⟩ := HG1.out.cells; have HB1 := Lib.hid (HB0.out.trans (hB1.mono HB0.out.size)); clear hB1)
          | ((with_reducible refine (HF.out _).mono ?_); rintro e w2 ⟨rfl, hB2⟩; have HG2 := Lib.hid (HG1.out.of hB2); clear c0 c1 c2 c3 c4 c5 c6; obtain ⟨c0, c1, c2, c3, c4, c5, c6⟩ := HG2.out.cells; have HB2 := Lib.hid (HB1.out.trans (hB2.mono HB1.out.size)); clear hB2)
          | ((with_reducible refine (HL1.out _).mono ?_); rintro e w3 ⟨⟨A1, c1', rfl, hR1⟩, hB3⟩; have HG3 := Lib.hid (HG2.out.of hB3); clear c0 c1 c2 c3 c4 c5 c6; obtain ⟨c0, c1, c2, c3, c4, c5, c6⟩ := HG3.out.cells; have HB3 := Lib.hid (HB2.out.trans (hB3.mono HB2.out.size)); have HR1 := Lib.hid hR1; clear hR1; clear hB3)
          | ((with_reducible refine (HL2.out _).mono ?_); rintro e w4 ⟨⟨A2, c2', rfl, hR2⟩, hB4⟩; have HG4 := Lib.hid (HG3.out.of hB4); clear c0 c1 c2 c3 c4 c5 c6; obtain ⟨c0, c1, c2, c3, c4, c5, c6⟩ := HG4.out.cells; have HB4 := Lib.hid (HB3.out.trans (hB4.mono HB3.out.size)); have HR2 := Lib.hid (And.intro hR2 (HR1.out.below hB4 (Nat.le_refl _))); have HZ4 := Lib.hid hB4.size; clear hR2; clear hB4)
          | ((with_reducible refine (HIA.out _).mono ?_); rintro e w5 ⟨rfl, hB5⟩; have HG5 := Lib.hid (HG4.out.of hB5); clear c0 c1 c2 c3 c4 c5 c6; obtain ⟨c0, c1, c2, c3, c4, c5, c6⟩ := HG5.out.cells; have HB5 := Lib.hid (HB4.out.trans (hB5.mono HB4.out.size)); have HX5 := Lib.hid hB5; clear hB5)
          | ((with_reducible refine (HIB.out _).mono ?_); rintro e w6 ⟨rfl, hB6⟩; have HG6 := Lib.hid (HG5.out.of hB6); clear c0 c1 c2 c3 c4 c5 c6; obtain ⟨c0, c1, c2, c3, c4, c5, c6⟩ := HG6.out.cells; have HB6 := Lib.hid (HB5.out.trans (hB6.mono HB5.out.size)); have HX6 := Lib.hid hB6; clear hB6))
        have HGV := HG6
        have HBV := HB6
        have hX : Below w4.heap.size w4 w6 := HX5.out.trans (HX6.out.mono HX5.out.size)
        have hz4 := HZ4.out
        have hz6 := hX.size
        have hr2 := HR2.out.1.below hX (Nat.le_refl _)
        have hr1 := HR2.out.2.below hX hz4
        have HSM : Hid (∀ V : World, Below w6.heap.size w6 V → Calls Try.prog 11 #[.slice A1 k c1', .slice A2 k c2'] V fun e w' => e = .returned (.bool true) ∧ ∃ q, w' = V.drewN q) := Lib.hid (fun V h => by
          have := same_any (a := L) (b := L) (c := c1') (c' := c2') (hr1.below h (by omega)) (hr2.below h (by omega)) (by have := HC.out.len; omega) true (by simp)
          rwa [HC.out.len] at this)
        have HHA : Hid (∀ V : World, Below w6.heap.size w6 V → Calls Try.prog 19 #[.slice A1 k c1', pv ax ay] V fun e w' => e = .returned (.bool true) ∧ Below V.heap.size V w') := Lib.hid (fun V h => by
          have h2 := h.size
          have := has_any (c := c1') ax ay (hr1.below h (by omega)) (by omega) (by have := HC.out.len; omega)
          rwa [HC.out.len, HC.out.has rfl ax ay (.inl rfl)] at this)
        have HHB : Hid (∀ V : World, Below w6.heap.size w6 V → Calls Try.prog 19 #[.slice A1 k c1', pv bx by'] V fun e w' => e = .returned (.bool true) ∧ Below V.heap.size V w') := Lib.hid (fun V h => by
          have h2 := h.size
          have := has_any (c := c1') bx by' (hr1.below h (by omega)) (by omega) (by have := HC.out.len; omega)
          rwa [HC.out.len, HC.out.has rfl bx by' (.inr rfl)] at this)
        have HSE : Hid (∀ V : World, Below w6.heap.size w6 V → Calls Try.prog 14 #[gv gw gh A n c, pv ax ay, pv bx by'] V fun e w' => e = .returned (.bool sB) ∧ Below V.heap.size V w') := Lib.hid (fun V h => HC.out.se V (HBV.out.trans (h.mono HBV.out.size)))
        have HSF : Hid (∀ V : World, Below w6.heap.size w6 V → Calls Try.prog 14 #[gv gw gh A n c, pv bx by', pv ax ay] V fun e w' => e = .returned (.bool sB) ∧ Below V.heap.size V w') := Lib.hid (fun V h => HC.out.sf V (HBV.out.trans (h.mono HBV.out.size)))
        clear hX hz4 hz6 hr1 hr2 HR1 HR2 HX5 HX6 HZ4 HL1 HL2 HIA HIB HF
        clear c0 c1 c2 c3 c4 c5 c6
        have hS0 : Below w6.heap.size w6 w6.drew := (Below.refl _ _).drew
        refine wp_region_noPanic ?_
        refine wp_region_held_drew (S := fun w' => Below w6.heap.size w6 w') (by kernel_rfl) hS0 (fun _ => ?_)
        refine wpAnyH_take (i := 0) (oi := ⟨some 53, Op.move (Operand.tmp 7), 4, _, _, none⟩) (v := ?vg0) rfl (by kernel_rfl) (by kernel_rfl) (by kernel_rfl) (fun _ _ _ h => h) (Or.inl ⟨by rfl, ?hg0⟩) hS0 ?rg0
        case hg0 => (intro wz hSw; go_simp <;> with_reducible rfl)
        (try simp only [Act.put, List.setIfInBounds_toArray, List.set_cons_zero, List.set_cons_succ])
        refine wpAnyH_take (i := 1) (oi := ⟨some 54, Op.move (Operand.tmp 53), 4, _, _, none⟩) (v := ?vg1) rfl (by kernel_rfl) (by kernel_rfl) (by kernel_rfl) (fun _ _ _ h => h) (Or.inl ⟨by rfl, ?hg1⟩) hS0 ?rg1
        case hg1 => (intro wz hSw; go_simp <;> with_reducible rfl)
        (try simp only [Act.put, List.setIfInBounds_toArray, List.set_cons_zero, List.set_cons_succ])
        refine wpAnyH_take (i := 2) (oi := ⟨some 55, Op.move (Operand.tmp 9), 32, _, _, some (1, true)⟩) (v := ?vg2) rfl (by kernel_rfl) (by kernel_rfl) (by kernel_rfl) (fun _ _ _ h => h) (Or.inl ⟨by rfl, ?hg2⟩) hS0 ?rg2
        case hg2 => (intro wz hSw; go_simp <;> with_reducible rfl)
        (try simp only [Act.put, List.setIfInBounds_toArray, List.set_cons_zero, List.set_cons_succ])
        refine wpAnyH_take (i := 3) (oi := ⟨some 56, Op.move (Operand.tmp 10), 32, _, _, some (1, true)⟩) (v := ?vg3) rfl (by kernel_rfl) (by kernel_rfl) (by kernel_rfl) (fun _ _ _ h => h) (Or.inl ⟨by rfl, ?hg3⟩) hS0 ?rg3
        case hg3 => (intro wz hSw; go_simp <;> with_reducible rfl)
        (try simp only [Act.put, List.setIfInBounds_toArray, List.set_cons_zero, List.set_cons_succ])
        refine wpAnyH_ready (rs := [4]) (by kernel_rfl) (by simp) ?_
        refine AllReadyH.cons (o := ⟨some 57, Op.call { callee := Callee.value (Operand.func 11), args := #[Operand.tmp 55, Operand.tmp 56], argTypes := #[32, 32] }, 4, _, _, some (1, true)⟩) rfl (fun K hK => ?_) AllReadyH.nil
        go_simp
        (with_reducible refine (HSM.out _ hS0).mono ?_); rintro e v1 ⟨rfl, q1, rfl⟩; have hS1 := below_drewN hS0 q1; generalize hV1 : World.drewN _ q1 = v1 at hS1 ⊢; clear hV1
        refine hK.out _ _ hS1 (fun _ => ?_)
        clear hK K
        (try simp only [Act.put, List.setIfInBounds_toArray, List.set_cons_zero, List.set_cons_succ])
        refine wpAnyH_take (i := 5) (oi := ⟨some 58, Op.pick (Operand.tmp 54) (Operand.tmp 57) (Operand.const (Value.bool false)), 4, _, _, none⟩) (v := ?vg5) rfl (by kernel_rfl) (by kernel_rfl) (by kernel_rfl) (fun _ _ _ h => h) (Or.inl ⟨by rfl, ?hg5⟩) hS1 ?rg5
        case hg5 => (intro wz hSw; go_simp <;> with_reducible rfl)
        (try simp only [Act.put, List.setIfInBounds_toArray, List.set_cons_zero, List.set_cons_succ])
        refine wpAnyH_take (i := 6) (oi := ⟨some 59, Op.move (Operand.tmp 58), 4, _, _, none⟩) (v := ?vg6) rfl (by kernel_rfl) (by kernel_rfl) (by kernel_rfl) (fun _ _ _ h => h) (Or.inl ⟨by rfl, ?hg6⟩) hS1 ?rg6
        case hg6 => (intro wz hSw; go_simp <;> with_reducible rfl)
        (try simp only [Act.put, List.setIfInBounds_toArray, List.set_cons_zero, List.set_cons_succ])
        refine wpAnyH_take (i := 7) (oi := ⟨some 60, Op.move (Operand.tmp 9), 32, _, _, some (6, true)⟩) (v := ?vg7) rfl (by kernel_rfl) (by kernel_rfl) (by kernel_rfl) (fun _ _ _ h => h) (Or.inl ⟨by rfl, ?hg7⟩) hS1 ?rg7
        case hg7 => (intro wz hSw; go_simp <;> with_reducible rfl)
        (try simp only [Act.put, List.setIfInBounds_toArray, List.set_cons_zero, List.set_cons_succ])
        refine wpAnyH_take (i := 8) (oi := ⟨some 61, Op.load 26 (Operand.tmp 4), 26, _, _, some (6, true)⟩) (v := ?vg8) rfl (by kernel_rfl) (by kernel_rfl) (by kernel_rfl) (fun _ _ _ h => h) (Or.inl ⟨by rfl, ?hg8⟩) hS1 ?rg8
        case hg8 => (intro wz hSw; obtain ⟨k0, k1, k2, k3, k4, k5, k6⟩ := (HGV.out.of hSw).cells; go_simp <;> with_reducible rfl)
        (try simp only [Act.put, List.setIfInBounds_toArray, List.set_cons_zero, List.set_cons_succ])
        refine wpAnyH_ready (rs := [9]) (by kernel_rfl) (by simp) ?_
        refine AllReadyH.cons (o := ⟨some 62, Op.call { callee := Callee.value (Operand.func 19), args := #[Operand.tmp 60, Operand.tmp 61], argTypes := #[32, 26] }, 4, _, _, some (6, true)⟩) rfl (fun K hK => ?_) AllReadyH.nil
        go_simp
        (with_reducible refine (HHA.out _ hS1).mono ?_); rintro e v2 ⟨rfl, hB2⟩; have hS2 := hS1.trans (hB2.mono hS1.size)
        refine hK.out _ _ hS2 (fun _ => ?_)
        clear hK K
        (try simp only [Act.put, List.setIfInBounds_toArray, List.set_cons_zero, List.set_cons_succ])
        refine wpAnyH_take (i := 10) (oi := ⟨some 63, Op.pick (Operand.tmp 59) (Operand.tmp 62) (Operand.const (Value.bool false)), 4, _, _, none⟩) (v := ?vg10) rfl (by kernel_rfl) (by kernel_rfl) (by kernel_rfl) (fun _ _ _ h => h) (Or.inl ⟨by rfl, ?hg10⟩) hS2 ?rg10
        case hg10 => (intro wz hSw; go_simp <;> with_reducible rfl)
        (try simp only [Act.put, List.setIfInBounds_toArray, List.set_cons_zero, List.set_cons_succ])
        refine wpAnyH_take (i := 11) (oi := ⟨some 64, Op.move (Operand.tmp 63), 4, _, _, none⟩) (v := ?vg11) rfl (by kernel_rfl) (by kernel_rfl) (by kernel_rfl) (fun _ _ _ h => h) (Or.inl ⟨by rfl, ?hg11⟩) hS2 ?rg11
        case hg11 => (intro wz hSw; go_simp <;> with_reducible rfl)
        (try simp only [Act.put, List.setIfInBounds_toArray, List.set_cons_zero, List.set_cons_succ])
        refine wpAnyH_take (i := 12) (oi := ⟨some 65, Op.move (Operand.tmp 9), 32, _, _, some (11, true)⟩) (v := ?vg12) rfl (by kernel_rfl) (by kernel_rfl) (by kernel_rfl) (fun _ _ _ h => h) (Or.inl ⟨by rfl, ?hg12⟩) hS2 ?rg12
        case hg12 => (intro wz hSw; go_simp <;> with_reducible rfl)
        (try simp only [Act.put, List.setIfInBounds_toArray, List.set_cons_zero, List.set_cons_succ])
        refine wpAnyH_take (i := 13) (oi := ⟨some 66, Op.load 26 (Operand.tmp 5), 26, _, _, some (11, true)⟩) (v := ?vg13) rfl (by kernel_rfl) (by kernel_rfl) (by kernel_rfl) (fun _ _ _ h => h) (Or.inl ⟨by rfl, ?hg13⟩) hS2 ?rg13
        case hg13 => (intro wz hSw; obtain ⟨k0, k1, k2, k3, k4, k5, k6⟩ := (HGV.out.of hSw).cells; go_simp <;> with_reducible rfl)
        (try simp only [Act.put, List.setIfInBounds_toArray, List.set_cons_zero, List.set_cons_succ])
        refine wpAnyH_ready (rs := [14]) (by kernel_rfl) (by simp) ?_
        refine AllReadyH.cons (o := ⟨some 67, Op.call { callee := Callee.value (Operand.func 19), args := #[Operand.tmp 65, Operand.tmp 66], argTypes := #[32, 26] }, 4, _, _, some (11, true)⟩) rfl (fun K hK => ?_) AllReadyH.nil
        go_simp
        (with_reducible refine (HHB.out _ hS2).mono ?_); rintro e v3 ⟨rfl, hB3⟩; have hS3 := hS2.trans (hB3.mono hS2.size)
        refine hK.out _ _ hS3 (fun _ => ?_)
        clear hK K
        (try simp only [Act.put, List.setIfInBounds_toArray, List.set_cons_zero, List.set_cons_succ])
        refine wpAnyH_take (i := 15) (oi := ⟨some 68, Op.pick (Operand.tmp 64) (Operand.tmp 67) (Operand.const (Value.bool false)), 4, _, _, none⟩) (v := ?vg15) rfl (by kernel_rfl) (by kernel_rfl) (by kernel_rfl) (fun _ _ _ h => h) (Or.inl ⟨by rfl, ?hg15⟩) hS3 ?rg15
        case hg15 => (intro wz hSw; go_simp <;> with_reducible rfl)
        (try simp only [Act.put, List.setIfInBounds_toArray, List.set_cons_zero, List.set_cons_succ])
        refine wpAnyH_take (i := 16) (oi := ⟨some 69, Op.move (Operand.tmp 68), 4, _, _, none⟩) (v := ?vg16) rfl (by kernel_rfl) (by kernel_rfl) (by kernel_rfl) (fun _ _ _ h => h) (Or.inl ⟨by rfl, ?hg16⟩) hS3 ?rg16
        case hg16 => (intro wz hSw; go_simp <;> with_reducible rfl)
        (try simp only [Act.put, List.setIfInBounds_toArray, List.set_cons_zero, List.set_cons_succ])
        refine wpAnyH_take (i := 17) (oi := ⟨some 70, Op.load 24 (Operand.tmp 3), 24, _, _, some (16, true)⟩) (v := ?vg17) rfl (by kernel_rfl) (by kernel_rfl) (by kernel_rfl) (fun _ _ _ h => h) (Or.inl ⟨by rfl, ?hg17⟩) hS3 ?rg17
        case hg17 => (intro wz hSw; obtain ⟨k0, k1, k2, k3, k4, k5, k6⟩ := (HGV.out.of hSw).cells; go_simp <;> with_reducible rfl)
        (try simp only [Act.put, List.setIfInBounds_toArray, List.set_cons_zero, List.set_cons_succ])
        refine wpAnyH_take (i := 18) (oi := ⟨some 71, Op.load 26 (Operand.tmp 4), 26, _, _, some (16, true)⟩) (v := ?vg18) rfl (by kernel_rfl) (by kernel_rfl) (by kernel_rfl) (fun _ _ _ h => h) (Or.inl ⟨by rfl, ?hg18⟩) hS3 ?rg18
        case hg18 => (intro wz hSw; obtain ⟨k0, k1, k2, k3, k4, k5, k6⟩ := (HGV.out.of hSw).cells; go_simp <;> with_reducible rfl)
        (try simp only [Act.put, List.setIfInBounds_toArray, List.set_cons_zero, List.set_cons_succ])
        refine wpAnyH_take (i := 19) (oi := ⟨some 72, Op.load 26 (Operand.tmp 5), 26, _, _, some (16, true)⟩) (v := ?vg19) rfl (by kernel_rfl) (by kernel_rfl) (by kernel_rfl) (fun _ _ _ h => h) (Or.inl ⟨by rfl, ?hg19⟩) hS3 ?rg19
        case hg19 => (intro wz hSw; obtain ⟨k0, k1, k2, k3, k4, k5, k6⟩ := (HGV.out.of hSw).cells; go_simp <;> with_reducible rfl)
        (try simp only [Act.put, List.setIfInBounds_toArray, List.set_cons_zero, List.set_cons_succ])
        refine wpAnyH_take (i := 21) (oi := ⟨some 74, Op.load 24 (Operand.tmp 3), 24, _, _, some (16, true)⟩) (v := ?vg21) rfl (by kernel_rfl) (by kernel_rfl) (by kernel_rfl) (fun _ _ _ h => h) (Or.inl ⟨by rfl, ?hg21⟩) hS3 ?rg21
        case hg21 => (intro wz hSw; obtain ⟨k0, k1, k2, k3, k4, k5, k6⟩ := (HGV.out.of hSw).cells; go_simp <;> with_reducible rfl)
        (try simp only [Act.put, List.setIfInBounds_toArray, List.set_cons_zero, List.set_cons_succ])
        refine wpAnyH_take (i := 22) (oi := ⟨some 75, Op.load 26 (Operand.tmp 5), 26, _, _, some (16, true)⟩) (v := ?vg22) rfl (by kernel_rfl) (by kernel_rfl) (by kernel_rfl) (fun _ _ _ h => h) (Or.inl ⟨by rfl, ?hg22⟩) hS3 ?rg22
        case hg22 => (intro wz hSw; obtain ⟨k0, k1, k2, k3, k4, k5, k6⟩ := (HGV.out.of hSw).cells; go_simp <;> with_reducible rfl)
        (try simp only [Act.put, List.setIfInBounds_toArray, List.set_cons_zero, List.set_cons_succ])
        refine wpAnyH_take (i := 23) (oi := ⟨some 76, Op.load 26 (Operand.tmp 4), 26, _, _, some (16, true)⟩) (v := ?vg23) rfl (by kernel_rfl) (by kernel_rfl) (by kernel_rfl) (fun _ _ _ h => h) (Or.inl ⟨by rfl, ?hg23⟩) hS3 ?rg23
        case hg23 => (intro wz hSw; obtain ⟨k0, k1, k2, k3, k4, k5, k6⟩ := (HGV.out.of hSw).cells; go_simp <;> with_reducible rfl)
        (try simp only [Act.put, List.setIfInBounds_toArray, List.set_cons_zero, List.set_cons_succ])
        refine wpAnyH_ready (rs := [20]) (by kernel_rfl) (by simp) ?_
        refine AllReadyH.cons (o := ⟨some 73, Op.call { callee := Callee.value (Operand.func 14), args := #[Operand.tmp 70, Operand.tmp 71, Operand.tmp 72], argTypes := #[24, 26, 26] }, 4, _, _, some (16, true)⟩) rfl (fun K hK => ?_) AllReadyH.nil
        go_simp
        (with_reducible refine (HSE.out _ hS3).mono ?_); rintro e v4 ⟨rfl, hB4⟩; have hS4 := hS3.trans (hB4.mono hS3.size)
        refine hK.out _ _ hS4 (fun _ => ?_)
        clear hK K
        (try simp only [Act.put, List.setIfInBounds_toArray, List.set_cons_zero, List.set_cons_succ])
        refine wpAnyH_ready (rs := [24]) (by kernel_rfl) (by simp) ?_
        refine AllReadyH.cons (o := ⟨some 77, Op.call { callee := Callee.value (Operand.func 14), args := #[Operand.tmp 74, Operand.tmp 75, Operand.tmp 76], argTypes := #[24, 26, 26] }, 4, _, _, some (16, true)⟩) rfl (fun K hK => ?_) AllReadyH.nil
        go_simp
        (with_reducible refine (HSF.out _ hS4).mono ?_); rintro e v5 ⟨rfl, hB5⟩; have hS5 := hS4.trans (hB5.mono hS4.size)
        refine hK.out _ _ hS5 (fun _ => ?_)
        clear hK K
        (try simp only [Act.put, List.setIfInBounds_toArray, List.set_cons_zero, List.set_cons_succ])
        refine wpAnyH_take (i := 25) (oi := ⟨some 78, Op.binOp BinOp.eql 4 (Operand.tmp 73) (Operand.tmp 77) 4, 4, _, _, some (16, true)⟩) (v := ?vg25) rfl (by kernel_rfl) (by kernel_rfl) (by kernel_rfl) (fun _ _ _ h => h) (Or.inl ⟨by rfl, ?hg25⟩) hS5 ?rg25
        case hg25 => (intro wz hSw; go_simp <;> with_reducible rfl)
        (try simp only [Act.put, List.setIfInBounds_toArray, List.set_cons_zero, List.set_cons_succ])
        refine wpAnyH_take (i := 26) (oi := ⟨some 79, Op.pick (Operand.tmp 69) (Operand.tmp 78) (Operand.const (Value.bool false)), 4, _, _, none⟩) (v := ?vg26) rfl (by kernel_rfl) (by kernel_rfl) (by kernel_rfl) (fun _ _ _ h => h) (Or.inl ⟨by rfl, ?hg26⟩) hS5 ?rg26
        case hg26 => (intro wz hSw; go_simp <;> with_reducible rfl)
        (try simp only [Act.put, List.setIfInBounds_toArray, List.set_cons_zero, List.set_cons_succ])
        refine wpAnyH_take (i := 27) (oi := ⟨some 80, Op.move (Operand.tmp 79), 4, _, _, none⟩) (v := ?vg27) rfl (by kernel_rfl) (by kernel_rfl) (by kernel_rfl) (fun _ _ _ h => h) (Or.inl ⟨by rfl, ?hg27⟩) hS5 ?rg27
        case hg27 => (intro wz hSw; go_simp <;> with_reducible rfl)
        (try simp only [Act.put, List.setIfInBounds_toArray, List.set_cons_zero, List.set_cons_succ])
        refine wpAnyH_take (i := 28) (oi := ⟨some 81, Op.move (Operand.tmp 9), 32, _, _, some (27, true)⟩) (v := ?vg28) rfl (by kernel_rfl) (by kernel_rfl) (by kernel_rfl) (fun _ _ _ h => h) (Or.inl ⟨by rfl, ?hg28⟩) hS5 ?rg28
        case hg28 => (intro wz hSw; go_simp <;> with_reducible rfl)
        (try simp only [Act.put, List.setIfInBounds_toArray, List.set_cons_zero, List.set_cons_succ])
        refine wpAnyH_take (i := 29) (oi := ⟨some 82, Op.call { callee := Callee.builtin Builtin.len, args := #[Operand.tmp 81], argTypes := #[32] }, 3, _, _, some (27, true)⟩) (v := ?vg29) rfl (by kernel_rfl) (by kernel_rfl) (by kernel_rfl) (fun _ _ _ h => h) (Or.inl ⟨by rfl, ?hg29⟩) hS5 ?rg29
        case hg29 => (intro wz hSw; go_simp <;> with_reducible rfl)
        (try simp only [Act.put, List.setIfInBounds_toArray, List.set_cons_zero, List.set_cons_succ])
        refine wpAnyH_take (i := 30) (oi := ⟨some 83, Op.load 26 (Operand.tmp 4), 26, _, _, some (27, true)⟩) (v := ?vg30) rfl (by kernel_rfl) (by kernel_rfl) (by kernel_rfl) (fun _ _ _ h => h) (Or.inl ⟨by rfl, ?hg30⟩) hS5 ?rg30
        case hg30 => (intro wz hSw; obtain ⟨k0, k1, k2, k3, k4, k5, k6⟩ := (HGV.out.of hSw).cells; go_simp <;> with_reducible rfl)
        (try simp only [Act.put, List.setIfInBounds_toArray, List.set_cons_zero, List.set_cons_succ])
        refine wpAnyH_take (i := 31) (oi := ⟨some 84, Op.load 26 (Operand.tmp 5), 26, _, _, some (27, true)⟩) (v := ?vg31) rfl (by kernel_rfl) (by kernel_rfl) (by kernel_rfl) (fun _ _ _ h => h) (Or.inl ⟨by rfl, ?hg31⟩) hS5 ?rg31
        case hg31 => (intro wz hSw; obtain ⟨k0, k1, k2, k3, k4, k5, k6⟩ := (HGV.out.of hSw).cells; go_simp <;> with_reducible rfl)
        (try simp only [Act.put, List.setIfInBounds_toArray, List.set_cons_zero, List.set_cons_succ])
        refine wpAnyH_ready (rs := [32]) (by kernel_rfl) (by simp) ?_
        refine AllReadyH.cons (o := ⟨some 85, Op.call { callee := Callee.value (Operand.func 20), args := #[Operand.tmp 83, Operand.tmp 84], argTypes := #[26, 26] }, 3, _, _, some (27, true)⟩) rfl (fun K hK => ?_) AllReadyH.nil
        go_simp
        (with_reducible refine (HST.out _).mono ?_); rintro e v6 ⟨rfl, hB6⟩; have hS6 := hS5.trans (hB6.mono hS5.size)
        refine hK.out _ _ hS6 (fun _ => ?_)
        clear hK K
        (try simp only [Act.put, List.setIfInBounds_toArray, List.set_cons_zero, List.set_cons_succ])
        refine wpAnyH_take (i := 33) (oi := ⟨some 86, Op.binOp BinOp.add 3 (Operand.tmp 85) (Operand.const (Value.int IntKind.i64 1)) 3, 3, _, _, some (27, true)⟩) (v := ?vg33) rfl (by kernel_rfl) (by kernel_rfl) (by kernel_rfl) (fun _ _ _ h => h) (Or.inl ⟨by rfl, ?hg33⟩) hS6 ?rg33
        case hg33 => (intro wz hSw; go_simp <;> with_reducible rfl)
        (try simp only [Act.put, List.setIfInBounds_toArray, List.set_cons_zero, List.set_cons_succ])
        refine wpAnyH_take (i := 34) (oi := ⟨some 87, Op.binOp BinOp.geq 3 (Operand.tmp 82) (Operand.tmp 86) 3, 4, _, _, some (27, true)⟩) (v := ?vg34) rfl (by kernel_rfl) (by kernel_rfl) (by kernel_rfl) (fun _ _ _ h => h) (Or.inl ⟨by rfl, ?hg34⟩) hS6 ?rg34
        case hg34 => (intro wz hSw; go_simp <;> with_reducible rfl)
        (try simp only [Act.put, List.setIfInBounds_toArray, List.set_cons_zero, List.set_cons_succ])
        refine wpAnyH_take (i := 35) (oi := ⟨some 88, Op.pick (Operand.tmp 80) (Operand.tmp 87) (Operand.const (Value.bool false)), 4, _, _, none⟩) (v := ?vg35) rfl (by kernel_rfl) (by kernel_rfl) (by kernel_rfl) (fun _ _ _ h => h) (Or.inl ⟨by rfl, ?hg35⟩) hS6 ?rg35
        case hg35 => (intro wz hSw; go_simp <;> with_reducible rfl)
        (try simp only [Act.put, List.setIfInBounds_toArray, List.set_cons_zero, List.set_cons_succ])
        refine wpAnyH_take (i := 36) (oi := ⟨some 89, Op.move (Operand.tmp 88), 4, _, _, none⟩) (v := ?vg36) rfl (by kernel_rfl) (by kernel_rfl) (by kernel_rfl) (fun _ _ _ h => h) (Or.inl ⟨by rfl, ?hg36⟩) hS6 ?rg36
        case hg36 => (intro wz hSw; go_simp <;> with_reducible rfl)
        (try simp only [Act.put, List.setIfInBounds_toArray, List.set_cons_zero, List.set_cons_succ])
        refine wpAnyH_take (i := 37) (oi := ⟨some 90, Op.move (Operand.tmp 9), 32, _, _, some (36, true)⟩) (v := ?vg37) rfl (by kernel_rfl) (by kernel_rfl) (by kernel_rfl) (fun _ _ _ h => h) (Or.inl ⟨by rfl, ?hg37⟩) hS6 ?rg37
        case hg37 => (intro wz hSw; go_simp <;> with_reducible rfl)
        (try simp only [Act.put, List.setIfInBounds_toArray, List.set_cons_zero, List.set_cons_succ])
        refine wpAnyH_take (i := 38) (oi := ⟨some 91, Op.call { callee := Callee.builtin Builtin.len, args := #[Operand.tmp 90], argTypes := #[32] }, 3, _, _, some (36, true)⟩) (v := ?vg38) rfl (by kernel_rfl) (by kernel_rfl) (by kernel_rfl) (fun _ _ _ h => h) (Or.inl ⟨by rfl, ?hg38⟩) hS6 ?rg38
        case hg38 => (intro wz hSw; go_simp <;> with_reducible rfl)
        (try simp only [Act.put, List.setIfInBounds_toArray, List.set_cons_zero, List.set_cons_succ])
        refine wpAnyH_take (i := 39) (oi := ⟨some 92, Op.load 26 (Operand.tmp 4), 26, _, _, some (36, true)⟩) (v := ?vg39) rfl (by kernel_rfl) (by kernel_rfl) (by kernel_rfl) (fun _ _ _ h => h) (Or.inl ⟨by rfl, ?hg39⟩) hS6 ?rg39
        case hg39 => (intro wz hSw; obtain ⟨k0, k1, k2, k3, k4, k5, k6⟩ := (HGV.out.of hSw).cells; go_simp <;> with_reducible rfl)
        (try simp only [Act.put, List.setIfInBounds_toArray, List.set_cons_zero, List.set_cons_succ])
        refine wpAnyH_take (i := 40) (oi := ⟨some 93, Op.load 26 (Operand.tmp 5), 26, _, _, some (36, true)⟩) (v := ?vg40) rfl (by kernel_rfl) (by kernel_rfl) (by kernel_rfl) (fun _ _ _ h => h) (Or.inl ⟨by rfl, ?hg40⟩) hS6 ?rg40
        case hg40 => (intro wz hSw; obtain ⟨k0, k1, k2, k3, k4, k5, k6⟩ := (HGV.out.of hSw).cells; go_simp <;> with_reducible rfl)
        (try simp only [Act.put, List.setIfInBounds_toArray, List.set_cons_zero, List.set_cons_succ])
        refine wpAnyH_ready (rs := [41]) (by kernel_rfl) (by simp) ?_
        refine AllReadyH.cons (o := ⟨some 94, Op.call { callee := Callee.value (Operand.func 20), args := #[Operand.tmp 92, Operand.tmp 93], argTypes := #[26, 26] }, 3, _, _, some (36, true)⟩) rfl (fun K hK => ?_) AllReadyH.nil
        go_simp
        (with_reducible refine (HST.out _).mono ?_); rintro e v7 ⟨rfl, hB7⟩; have hS7 := hS6.trans (hB7.mono hS6.size)
        refine hK.out _ _ hS7 (fun _ => ?_)
        clear hK K
        (try simp only [Act.put, List.setIfInBounds_toArray, List.set_cons_zero, List.set_cons_succ])
        refine wpAnyH_take (i := 42) (oi := ⟨some 95, Op.binOp BinOp.mul 3 (Operand.const (Value.int IntKind.i64 3)) (Operand.tmp 94) 3, 3, _, _, some (36, true)⟩) (v := ?vg42) rfl (by kernel_rfl) (by kernel_rfl) (by kernel_rfl) (fun _ _ _ h => h) (Or.inl ⟨by rfl, ?hg42⟩) hS7 ?rg42
        case hg42 => (intro wz hSw; go_simp <;> with_reducible rfl)
        (try simp only [Act.put, List.setIfInBounds_toArray, List.set_cons_zero, List.set_cons_succ])
        refine wpAnyH_take (i := 43) (oi := ⟨some 96, Op.binOp BinOp.add 3 (Operand.tmp 95) (Operand.const (Value.int IntKind.i64 1)) 3, 3, _, _, some (36, true)⟩) (v := ?vg43) rfl (by kernel_rfl) (by kernel_rfl) (by kernel_rfl) (fun _ _ _ h => h) (Or.inl ⟨by rfl, ?hg43⟩) hS7 ?rg43
        case hg43 => (intro wz hSw; go_simp <;> with_reducible rfl)
        (try simp only [Act.put, List.setIfInBounds_toArray, List.set_cons_zero, List.set_cons_succ])
        refine wpAnyH_take (i := 44) (oi := ⟨some 97, Op.binOp BinOp.leq 3 (Operand.tmp 91) (Operand.tmp 96) 3, 4, _, _, some (36, true)⟩) (v := ?vg44) rfl (by kernel_rfl) (by kernel_rfl) (by kernel_rfl) (fun _ _ _ h => h) (Or.inl ⟨by rfl, ?hg44⟩) hS7 ?rg44
        case hg44 => (intro wz hSw; go_simp <;> with_reducible rfl)
        (try simp only [Act.put, List.setIfInBounds_toArray, List.set_cons_zero, List.set_cons_succ])
        refine wpAnyH_take (i := 45) (oi := ⟨some 98, Op.pick (Operand.tmp 89) (Operand.tmp 97) (Operand.const (Value.bool false)), 4, _, _, none⟩) (v := ?vg45) rfl (by kernel_rfl) (by kernel_rfl) (by kernel_rfl) (fun _ _ _ h => h) (Or.inl ⟨by rfl, ?hg45⟩) hS7 ?rg45
        case hg45 => (intro wz hSw; go_simp <;> with_reducible rfl)
        (try simp only [Act.put, List.setIfInBounds_toArray, List.set_cons_zero, List.set_cons_succ])
        refine wpAnyH_take (i := 46) (oi := ⟨some 6, Op.assign (Operand.tmp 98), 4, _, _, none⟩) (v := ?vg46) rfl (by kernel_rfl) (by kernel_rfl) (by kernel_rfl) (fun _ _ _ h => h) (Or.inl ⟨by rfl, ?hg46⟩) hS7 ?rg46
        case hg46 => (intro wz hSw; go_simp <;> with_reducible rfl)
        (try simp only [Act.put, List.setIfInBounds_toArray, List.set_cons_zero, List.set_cons_succ])
        refine wpAnyH_done (by kernel_rfl) ?_ _
        refine NoPanic.normal ?_
        have hfin := HBV.out.trans (hS7.mono HBV.out.size)
        go_wp2
        go_ret
        exact ⟨rfl, hfin⟩

theorem walk (W : World) (gw gh : Int) (A : Option Addr) (c : Nat) (l : List Bool) (hw : Fits gw) (hh : Fits gh) (hr : RB W W.heap.size A l) (ax ay : Int) (fx : Fits ax) (fy : Fits ay) (bx by' : Int) (gx : Fits bx) (gy : Fits by') :
    Calls Try.prog 5 #[gv gw gh A l.length c, pv ax ay, pv bx by'] W fun e w' => e = .returned (.bool true) ∧ Below W.heap.size W w' := by
  have hline : ∀ (px py qx qy : Int), lineG gw gh l.length px py qx qy = lineG gw gh l.length ax ay bx by' → ∀ V : World, Calls Try.prog 12 #[gv gw gh A l.length c, pv px py, pv qx qy] V fun e w' => (∃ A c, e = .returned (.slice A (lineG gw gh l.length ax ay bx by').length c) ∧ RT w' w'.heap.size A (lineG gw gh l.length ax ay bx by')) ∧ Below V.heap.size V w' :=
    fun px py qx qy e V => (Line_any gw gh A l.length c px py qx qy V).mono fun e' w' h => by
      obtain ⟨⟨v, he, hrow, _⟩, hbl⟩ := h
      rw [e] at hrow
      obtain ⟨A1, c1, hv, hrt, _⟩ := OwnT.shape (w := w') (v := v) (l := lineG gw gh l.length ax ay bx by') hrow
      exact ⟨⟨A1, c1, by rw [he, hv], hrt⟩, hbl⟩
  refine core W gw gh A l.length c ax ay bx by' (lineG gw gh l.length ax ay bx by') _ (stp ax ay bx by') (inB gw gh l.length ax ay) (inB gw gh l.length bx by') (seesB gw gh l ax ay bx by') (decide ((l.length : Int) ≤ 1024)) ⟨fun V => few_any gw gh A l.length c V, hline ax ay bx by' rfl, hline bx by' ax ay (lineG_comm ..), fun V => in_any gw gh A l.length c ax ay V, fun V => in_any gw gh A l.length c bx by' V,
    fun V h => Sees_any gw gh A l c ax ay bx by' V (rb_at hr h), fun V h => by have := Sees_any gw gh A l c bx by' ax ay V (rb_at hr h); rwa [sees_comm] at this,
    fun _ _ V => steps_any ax ay bx by' V fx fy gx gy, rfl, ?_, ?_, ?_⟩
  · intro h
    have hb : bothB gw gh l.length ax ay bx by' = false := h
    unfold lineG seesB
    rw [hb]
    exact ⟨rfl, rfl⟩
  · intro h
    have hb : bothB gw gh l.length ax ay bx by' = true := h
    have hin := both_in hb
    have h2 := lineG_few (W := gw) (H := gh) (n := l.length) (ax := ax) (ay := ay) (bx := bx) (by' := by')
    unfold lineG at h2 ⊢
    rw [if_pos hb] at h2 ⊢
    have h1 := line_len hin.1.1 hin.1.2 hin.2.1 hin.2.2
    exact ⟨stp_nonneg .., h1.1, h1.2, h2⟩
  · intro h x y hxy
    have hb : bothB gw gh l.length ax ay bx by' = true := h
    have hin := both_in hb
    unfold lineG
    rw [if_pos hb]
    rcases hxy with e | e
    · injection e with e; injection e with e; injection e with e1 e2
      injection e1 with _ e1; injection e2 with e2; injection e2 with _ e2
      subst e1; subst e2
      exact line_a hin.1.1 hin.1.2 hin.2.1 hin.2.2
    · injection e with e; injection e with e; injection e with e1 e2
      injection e1 with _ e1; injection e2 with e2; injection e2 with _ e2
      subst e1; subst e2
      exact line_b hin.1.1 hin.1.2 hin.2.1 hin.2.2


set_option maxRecDepth 100000 in
theorem lifted (os : Os) (started : os.Started) (H : Type) (enc : TypeId × Value → H) :
    ReturnsInHanded {} Try.checked os 5 .any (Rows.sightAlikeSpec.pre6 enc Try.prog Try.f5 Rows.sightAlikeRow.domain false) (Rows.sightAlikeSpec.post enc Try.prog Try.f5 false true false false) := by
  refine returnsInHanded_of_change (C := Try.checked) own started (by kernel_rfl) Try.func5
    (ChangeSpec.witness6 (enc := enc) (C := Try.checked) false ⟨#[], #[.agg #[.int .i64 0, .int .i64 0, .slice none 0 0], .agg #[.int .i64 0, .int .i64 0], .agg #[.int .i64 0, .int .i64 0]], []⟩ 8 (by kernel_rfl) (by kernel_rfl) (by kernel_rfl) (by kernel_rfl)) ?_
  intro W base args ds gs before hval0 hW hcnd _
  have hval : ∀ (j : Nat) t v, Try.f5.params[j]? = some t → args[j]? = some v → Value.okWide Try.prog W .any base t v := hval0
  have hW' := hW
  obtain ⟨p, q, hA0, hV, rfl, hfz, hnd⟩ := hW
  have hA : DataW.TrodAll enc Try.prog W 0 (fun _ => true) true Try.f5.params.toList args.toList ds p := hA0
  rw [Try.params5] at hA hval
  obtain ⟨v0, vs0, d0, ds0, p0, q0, hargs, rfl, rfl, h0, r0⟩ := trodAll_cons hA
  obtain ⟨v1, vs1, d1, ds1, p1, q1, rfl, rfl, rfl, h1, r1⟩ := trodAll_cons r0
  obtain ⟨v2, vs2, d2, ds2, p2, q2, rfl, rfl, rfl, h2, r2⟩ := trodAll_cons r1
  obtain ⟨rfl, rfl, rfl⟩ := trodAll_nil r2
  obtain rfl : args = #[v0, v1, v2] := by cases args; simp_all
  obtain ⟨rfl, rfl⟩ := trodVars_none hV
  clear hA0 hval0
  have hlt0 : ∀ x ∈ p0, x.block < W.heap.size := fun x hx => hW'.lt x (by simp [hx])
  have hk0 := h0
  obtain ⟨gw0, gh0, A0, c0, l0, rfl, fw0, fh0, hr0⟩ := Open.viewG (hval 0 24 v0 rfl rfl) h0 hlt0
  have hlt1 : ∀ x ∈ p1, x.block < W.heap.size := fun x hx => hW'.lt x (by simp [hx])
  have hk1 := h1
  obtain ⟨x1, y1, rfl, fx1, fy1⟩ := Open.viewP (hval 1 26 v1 rfl rfl) h1
  have hlt2 : ∀ x ∈ p2, x.block < W.heap.size := fun x hx => hW'.lt x (by simp [hx])
  have hk2 := h2
  obtain ⟨x2, y2, rfl, fx2, fy2⟩ := Open.viewP (hval 2 26 v2 rfl rfl) h2
  simp only [List.append_nil] at hW'
  refine (walk W gw0 gh0 A0 c0 l0 fw0 fh0 hr0 x1 y1 fx1 fy1 x2 y2 fx2 fy2).mono fun e W' ⟨he, hg⟩ => ?_
  subst he
  exact ⟨_, rfl, _, _, _, [], _, [], hW', (trodAll_cons_mk (shut_bool Try.underlying4 _) trodAll_mk0), (trodAll_cons_mk (Below.trod Open.laidOut (by kernel_rfl) (of_decide_eq_true (by kernel_rfl)) hk0 hg hlt0) (trodAll_cons_mk (Below.trod Open.laidOut (by kernel_rfl) (of_decide_eq_true (by kernel_rfl)) hk1 hg hlt1) (trodAll_cons_mk (Below.trod Open.laidOut (by kernel_rfl) (of_decide_eq_true (by kernel_rfl)) hk2 hg hlt2) trodAll_mk0))), rfl, hg.frame _, fun h => by cases h⟩

theorem over : Rows.sightAlikeRow.holds Try.pinned (OpenSpec.ofChange Rows.sightAlikeSpec) :=
  OpenClaim.holds_of_wide 5 Try.f5 rfl rfl rfl rfl rfl rfl rfl ⟨rfl, rfl, rfl, rfl, rfl⟩ rfl rfl rfl rfl rfl (by kernel_rfl) Try.func5 (by kernel_rfl)
    (of_decide_eq_true (by kernel_rfl)) (by unfold Func.isWrapper; first | (rw [if_pos (by decide +kernel)]; kernel_rfl) | (rw [if_neg (by decide +kernel)]; exact ⟨rfl, rfl⟩))
    (fun os started H enc _ => lifted os started H enc)

/-- The given statement. -/
theorem proved : Rows.SightAlikeSaid :=
  over
#print axioms proved
end Go.Proofs.Ytiggpmennomplaa.sightAlike
