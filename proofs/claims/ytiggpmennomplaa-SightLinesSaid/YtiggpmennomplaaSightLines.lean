/-
  SightLines: for every grid and every two tiles the law answers true (Line, Sees and First are what the document says); no condition.
-/
import Derived.Test.YtiggpmennomplaaSma
import Derived.Test.YtiggpmennomplaaRse
import Derived.Test.YtiggpmennomplaaOpen
import Derived.Deep.Cut
import Derived.WalkKit
import Derived.ProofKit
import Derived.OpenShut
namespace Go.Proofs.Ytiggpmennomplaa.sightLines
open Go.ChangeShapes Go.WideShapes Go.ChangeAt Go.RowKit Con Wlk Lin Arn
set_option linter.unusedVariables false

theorem own : ownKnob Try.prog.godebug = none := by kernel_rfl

theorem rb_at {W V : World} {A : Option Addr} {l : List Bool} (h : RB W W.heap.size A l) (hb : Below W.heap.size W V) : RB V V.heap.size A l := by
  rcases h.below hb (Nat.le_refl _) with e | ⟨b, off, e, hlt, hc⟩
  · exact .inl e
  · exact .inr ⟨b, off, e, Nat.lt_of_lt_of_le hlt hb.size, hc⟩

set_option maxRecDepth 100000 in
set_option maxHeartbeats 8000000 in
theorem walk (W : World) (gw gh : Int) (A : Option Addr) (c : Nat) (l : List Bool) (hw : Fits gw) (hh : Fits gh) (hr : RB W W.heap.size A l) (ax ay : Int) (fx : Fits ax) (fy : Fits ay) (bx by' : Int) (gx : Fits bx) (gy : Fits by') :
    Calls Try.prog 3 #[gv gw gh A l.length c, pv ax ay, pv bx by'] W fun e w' => e = .returned (.bool true) ∧ Below W.heap.size W w' := by
  obtain ⟨n, hn⟩ : ∃ n, l.length = n := ⟨_, rfl⟩
  have hb := gab_below gw gh A n c ax ay bx by' W
  have hg := gab_g3 gw gh A n c ax ay bx by' W
  have hf : ∀ V : World, Calls Try.prog 8 #[gv gw gh A n c] V fun e w' => e = .returned (.bool (decide ((n : Int) ≤ 1024))) ∧ Below V.heap.size V w' := fun V => few_any gw gh A n c V
  have HB0 := Lib.hid hb
  have HG0 := Lib.hid hg
  have HN := Lib.hid hn
  rw [hn]
  clear hb hg hn
  cases hfew : decide ((n : Int) ≤ 1024) with
  | false =>
    rw [hfew] at hf
    have HF := Lib.hid hf
    clear hf hfew
    go_enter Try.func3, Try.ntmps3
    go_wp2_with (first
      | ((with_reducible refine (small_any _).mono ?_); rintro e w1 ⟨rfl, hB1⟩; have HG1 := Lib.hid (HG0.out.of hB1); obtain ⟨c0, c1, c2, c3, c4, c5, c6⟩ := HG1.out.cells; have HB1 := Lib.hid (HB0.out.trans (hB1.mono HB0.out.size)); clear hB1)
      | ((with_reducible refine (HF.out _).mono ?_); rintro e w2 ⟨rfl, hB2⟩; have HG2 := Lib.hid (HG1.out.of hB2); clear c0 c1 c2 c3 c4 c5 c6; obtain ⟨c0, c1, c2, c3, c4, c5, c6⟩ := HG2.out.cells; have HB2 := Lib.hid (HB1.out.trans (hB2.mono HB1.out.size)); clear hB2))
    go_ret
    exact ⟨rfl, HB2.out⟩
  | true =>
    rw [hfew] at hf
    have HF := Lib.hid hf
    clear hf hfew
    obtain ⟨o, ho⟩ : ∃ o, firstB gw gh l ax ay bx by' = o := ⟨_, rfl⟩
    have hfi : ∀ V : World, Below W.heap.size W V → Calls Try.prog 9 #[gv gw gh A n c, pv ax ay, pv bx by'] V fun e w' => e = .returned (.tuple #[pv (ox o) (oy o), .bool o.isSome]) ∧ Below V.heap.size V w' := fun V hV => by
      have := First_any gw gh A l c ax ay bx by' V (rb_at hr hV)
      rwa [ho, HN.out] at this
    have hri : ∀ V : World, Below W.heap.size W V → Calls Try.prog 10 #[gv gw gh A n c, pv ax ay, pv bx by'] V fun e w' => e = .returned (.tuple #[pv (ox o) (oy o), .bool o.isSome]) ∧ Below V.heap.size V w' := fun V hV => by
      have := rFirst_any gw gh A l c ax ay bx by' V (rb_at hr hV)
      rwa [ho, HN.out] at this
    generalize ox o = px at hfi hri
    generalize oy o = py at hfi hri
    generalize o.isSome = is at hfi hri
    have HFI := Lib.hid hfi; have HRI := Lib.hid hri
    clear hfi hri ho
    go_enter Try.func3, Try.ntmps3
    go_wp2_with (first
      | ((with_reducible refine (small_any _).mono ?_); rintro e w1 ⟨rfl, hB1⟩; have HG1 := Lib.hid (HG0.out.of hB1); obtain ⟨c0, c1, c2, c3, c4, c5, c6⟩ := HG1.out.cells; have HB1 := Lib.hid (HB0.out.trans (hB1.mono HB0.out.size)); clear hB1)
      | ((with_reducible refine (HF.out _).mono ?_); rintro e w2 ⟨rfl, hB2⟩; have HG2 := Lib.hid (HG1.out.of hB2); clear c0 c1 c2 c3 c4 c5 c6; obtain ⟨c0, c1, c2, c3, c4, c5, c6⟩ := HG2.out.cells; have HB2 := Lib.hid (HB1.out.trans (hB2.mono HB1.out.size)); clear hB2)
      | ((with_reducible refine (HFI.out _ HB2.out).mono ?_); rintro e w3 ⟨rfl, hB3⟩; have HA3 := Lib.hid (hB3.alloc hB3.size (.cells #[.int .i64 px, .int .i64 py] 26)); have HG3 := Lib.hid (HG2.out.of HA3.out); (have HY3 := Lib.hid (show BoxP (w3.alloc (.cells #[.int .i64 px, .int .i64 py] 26)) w3.heap.size px py from new_at _ _ rfl)); have HB3 := Lib.hid (HB2.out.trans (HA3.out.mono HB2.out.size)); clear c0 c1 c2 c3 c4 c5 c6 hB3; obtain ⟨c0, c1, c2, c3, c4, c5, c6⟩ := HG3.out.cells)
      | ((with_reducible refine (HRI.out _ HB3.out).mono ?_); rintro e w4 ⟨rfl, hB4⟩; have HA4 := Lib.hid (hB4.alloc hB4.size (.cells #[.int .i64 px, .int .i64 py] 26)); clear hB4))
    have HG9 := Lib.hid (HG3.out.of HA4.out)
    have HY9 := Lib.hid (HY3.out.kept (HA4.out.block _ HY3.out.lt))
    have hZ0 : BoxP (w4.alloc (.cells #[.int .i64 px, .int .i64 py] 26)) w4.heap.size px py := new_at _ _ rfl
    have HB9 := Lib.hid (HB3.out.trans (HA4.out.mono HB3.out.size))
    clear HA4 HA3 HG3 HY3 HB3 HB2 HG2 HB1 HG1 HB0 HG0 HFI HRI c0 c1 c2 c3 c4 c5 c6
    generalize w3.heap.size = P3 at HY9 ⊢
    generalize w4.heap.size = P4 at hZ0 ⊢
    generalize w4.alloc (.cells #[.int .i64 px, .int .i64 py] 26) = V at HG9 HY9 HB9 hZ0 ⊢
    have HZ9 := Lib.hid hZ0; clear hZ0
    obtain ⟨L, hL⟩ : ∃ L, lineG gw gh n ax ay bx by' = L := ⟨_, rfl⟩
    obtain ⟨k1, hk1⟩ : ∃ k1, L.length = k1 := ⟨_, rfl⟩
    have hfewL : L.length ≤ 70000 := by have := lineG_few (W := gw) (H := gh) (n := n) (ax := ax) (ay := ay) (bx := bx) (by' := by'); rw [hL] at this; omega
    have shape : ∀ {w' : World} {B : Nat} {v : Value} {e : Ending}, e = .returned v → OwnT w' B v L → ∃ A c, e = .returned (.slice A k1 c) ∧ RT w' w'.heap.size A L := fun he hrow => by
      obtain ⟨A1, c1, hv, hrt, _⟩ := OwnT.shape hrow
      exact ⟨A1, c1, by rw [he, hv, hk1], hrt⟩
    have HL1 : Hid (∀ V : World, Calls Try.prog 12 #[gv gw gh A n c, pv ax ay, pv bx by'] V fun e w' => (∃ A c, e = .returned (.slice A k1 c) ∧ RT w' w'.heap.size A L) ∧ Below V.heap.size V w') := Lib.hid (fun V => by
      refine (Line_any gw gh A n c ax ay bx by' V).mono fun e' w' h => ?_
      rw [hL] at h
      obtain ⟨⟨v, he, hrow, _⟩, hbl⟩ := h
      exact ⟨shape he hrow, hbl⟩)
    have HL2 : Hid (∀ V : World, Calls Try.prog 13 #[gv gw gh A n c, pv ax ay, pv bx by'] V fun e w' => (∃ A c, e = .returned (.slice A k1 c) ∧ RT w' w'.heap.size A L) ∧ Below V.heap.size V w') := Lib.hid (fun V => by
      refine (rLine_any gw gh A n c ax ay bx by' V).mono fun e' w' h => ?_
      rw [hL] at h
      obtain ⟨⟨v, he, hrow⟩, hbl⟩ := h
      exact ⟨shape he hrow, hbl⟩)
    have HSM : Hid (∀ (V : World) (B B' : Nat) (A A' : Option Addr) (c c' : Nat), RT V B A L → RT V B' A' L → Calls Try.prog 11 #[.slice A k1 c, .slice A' k1 c'] V fun e w' => e = .returned (.bool true) ∧ ∃ q, w' = V.drewN q) := Lib.hid (fun V B B' A A' c c' h1 h2 => by
      have := same_any (c := c) (c' := c') h1 h2 hfewL true (by simp)
      rwa [hk1] at this)
    obtain ⟨sB, hsB⟩ : ∃ sB, seesB gw gh l ax ay bx by' = sB := ⟨_, rfl⟩
    have HSE : Hid (∀ V' : World, Below V.heap.size V V' → Calls Try.prog 14 #[gv gw gh A n c, pv ax ay, pv bx by'] V' fun e w' => e = .returned (.bool sB) ∧ Below V'.heap.size V' w') := Lib.hid (fun V' h => by
      have := Sees_any gw gh A l c ax ay bx by' V' (rb_at hr (HB9.out.trans (h.mono HB9.out.size)))
      rwa [hsB, HN.out] at this)
    have HSR : Hid (∀ V' : World, Below V.heap.size V V' → Calls Try.prog 15 #[gv gw gh A n c, pv ax ay, pv bx by'] V' fun e w' => e = .returned (.bool sB) ∧ Below V'.heap.size V' w') := Lib.hid (fun V' h => by
      have := rSees_any gw gh A l c ax ay bx by' V' (rb_at hr (HB9.out.trans (h.mono HB9.out.size)))
      rwa [hsB, HN.out] at this)
    clear shape hL hk1 hfewL hsB
    have hS0 : Below V.heap.size V V.drew := (Below.refl _ _).drew
    refine wp_region_noPanic ?_
    refine wp_region_held_drew (S := fun w' => Below V.heap.size V w') (by kernel_rfl) hS0 (fun _ => ?_)
    refine wpAnyH_take (i := 0) (oi := ⟨some 33, Op.move (Operand.tmp 7), 4, _, _, none⟩) (v := ?vg0) rfl (by kernel_rfl) (by kernel_rfl) (by kernel_rfl) (fun _ _ _ h => h) (Or.inl ⟨by rfl, ?hg0⟩) hS0 ?rg0
    case hg0 => (intro wz hSw; go_simp <;> with_reducible rfl)
    (try simp only [Act.put, List.setIfInBounds_toArray, List.set_cons_zero, List.set_cons_succ])
    refine wpAnyH_take (i := 1) (oi := ⟨some 34, Op.move (Operand.tmp 33), 4, _, _, none⟩) (v := ?vg1) rfl (by kernel_rfl) (by kernel_rfl) (by kernel_rfl) (fun _ _ _ h => h) (Or.inl ⟨by rfl, ?hg1⟩) hS0 ?rg1
    case hg1 => (intro wz hSw; go_simp <;> with_reducible rfl)
    (try simp only [Act.put, List.setIfInBounds_toArray, List.set_cons_zero, List.set_cons_succ])
    refine wpAnyH_take (i := 2) (oi := ⟨some 35, Op.load 24 (Operand.tmp 3), 24, _, _, some (1, true)⟩) (v := ?vg2) rfl (by kernel_rfl) (by kernel_rfl) (by kernel_rfl) (fun _ _ _ h => h) (Or.inl ⟨by rfl, ?hg2⟩) hS0 ?rg2
    case hg2 => (intro wz hSw; obtain ⟨k0, k1, k2, k3, k4, k5, k6⟩ := (HG9.out.of hSw).cells; have y0 := (HY9.out.kept (hSw.block _ HY9.out.lt)).cell0; have y1 := (HY9.out.kept (hSw.block _ HY9.out.lt)).cell1; have z0 := (HZ9.out.kept (hSw.block _ HZ9.out.lt)).cell0; have z1 := (HZ9.out.kept (hSw.block _ HZ9.out.lt)).cell1; go_simp <;> with_reducible rfl)
    (try simp only [Act.put, List.setIfInBounds_toArray, List.set_cons_zero, List.set_cons_succ])
    refine wpAnyH_take (i := 3) (oi := ⟨some 36, Op.load 26 (Operand.tmp 4), 26, _, _, some (1, true)⟩) (v := ?vg3) rfl (by kernel_rfl) (by kernel_rfl) (by kernel_rfl) (fun _ _ _ h => h) (Or.inl ⟨by rfl, ?hg3⟩) hS0 ?rg3
    case hg3 => (intro wz hSw; obtain ⟨k0, k1, k2, k3, k4, k5, k6⟩ := (HG9.out.of hSw).cells; have y0 := (HY9.out.kept (hSw.block _ HY9.out.lt)).cell0; have y1 := (HY9.out.kept (hSw.block _ HY9.out.lt)).cell1; have z0 := (HZ9.out.kept (hSw.block _ HZ9.out.lt)).cell0; have z1 := (HZ9.out.kept (hSw.block _ HZ9.out.lt)).cell1; go_simp <;> with_reducible rfl)
    (try simp only [Act.put, List.setIfInBounds_toArray, List.set_cons_zero, List.set_cons_succ])
    refine wpAnyH_take (i := 4) (oi := ⟨some 37, Op.load 26 (Operand.tmp 5), 26, _, _, some (1, true)⟩) (v := ?vg4) rfl (by kernel_rfl) (by kernel_rfl) (by kernel_rfl) (fun _ _ _ h => h) (Or.inl ⟨by rfl, ?hg4⟩) hS0 ?rg4
    case hg4 => (intro wz hSw; obtain ⟨k0, k1, k2, k3, k4, k5, k6⟩ := (HG9.out.of hSw).cells; have y0 := (HY9.out.kept (hSw.block _ HY9.out.lt)).cell0; have y1 := (HY9.out.kept (hSw.block _ HY9.out.lt)).cell1; have z0 := (HZ9.out.kept (hSw.block _ HZ9.out.lt)).cell0; have z1 := (HZ9.out.kept (hSw.block _ HZ9.out.lt)).cell1; go_simp <;> with_reducible rfl)
    (try simp only [Act.put, List.setIfInBounds_toArray, List.set_cons_zero, List.set_cons_succ])
    refine wpAnyH_take (i := 6) (oi := ⟨some 39, Op.load 24 (Operand.tmp 3), 24, _, _, some (1, true)⟩) (v := ?vg6) rfl (by kernel_rfl) (by kernel_rfl) (by kernel_rfl) (fun _ _ _ h => h) (Or.inl ⟨by rfl, ?hg6⟩) hS0 ?rg6
    case hg6 => (intro wz hSw; obtain ⟨k0, k1, k2, k3, k4, k5, k6⟩ := (HG9.out.of hSw).cells; have y0 := (HY9.out.kept (hSw.block _ HY9.out.lt)).cell0; have y1 := (HY9.out.kept (hSw.block _ HY9.out.lt)).cell1; have z0 := (HZ9.out.kept (hSw.block _ HZ9.out.lt)).cell0; have z1 := (HZ9.out.kept (hSw.block _ HZ9.out.lt)).cell1; go_simp <;> with_reducible rfl)
    (try simp only [Act.put, List.setIfInBounds_toArray, List.set_cons_zero, List.set_cons_succ])
    refine wpAnyH_take (i := 7) (oi := ⟨some 40, Op.load 26 (Operand.tmp 4), 26, _, _, some (1, true)⟩) (v := ?vg7) rfl (by kernel_rfl) (by kernel_rfl) (by kernel_rfl) (fun _ _ _ h => h) (Or.inl ⟨by rfl, ?hg7⟩) hS0 ?rg7
    case hg7 => (intro wz hSw; obtain ⟨k0, k1, k2, k3, k4, k5, k6⟩ := (HG9.out.of hSw).cells; have y0 := (HY9.out.kept (hSw.block _ HY9.out.lt)).cell0; have y1 := (HY9.out.kept (hSw.block _ HY9.out.lt)).cell1; have z0 := (HZ9.out.kept (hSw.block _ HZ9.out.lt)).cell0; have z1 := (HZ9.out.kept (hSw.block _ HZ9.out.lt)).cell1; go_simp <;> with_reducible rfl)
    (try simp only [Act.put, List.setIfInBounds_toArray, List.set_cons_zero, List.set_cons_succ])
    refine wpAnyH_take (i := 8) (oi := ⟨some 41, Op.load 26 (Operand.tmp 5), 26, _, _, some (1, true)⟩) (v := ?vg8) rfl (by kernel_rfl) (by kernel_rfl) (by kernel_rfl) (fun _ _ _ h => h) (Or.inl ⟨by rfl, ?hg8⟩) hS0 ?rg8
    case hg8 => (intro wz hSw; obtain ⟨k0, k1, k2, k3, k4, k5, k6⟩ := (HG9.out.of hSw).cells; have y0 := (HY9.out.kept (hSw.block _ HY9.out.lt)).cell0; have y1 := (HY9.out.kept (hSw.block _ HY9.out.lt)).cell1; have z0 := (HZ9.out.kept (hSw.block _ HZ9.out.lt)).cell0; have z1 := (HZ9.out.kept (hSw.block _ HZ9.out.lt)).cell1; go_simp <;> with_reducible rfl)
    (try simp only [Act.put, List.setIfInBounds_toArray, List.set_cons_zero, List.set_cons_succ])
    refine wpAnyH_ready (rs := [5]) (by kernel_rfl) (by simp) ?_
    refine AllReadyH.cons (o := ⟨some 38, Op.call { callee := Callee.value (Operand.func 12), args := #[Operand.tmp 35, Operand.tmp 36, Operand.tmp 37], argTypes := #[24, 26, 26] }, 32, _, _, some (1, true)⟩) rfl (fun K hK => ?_) AllReadyH.nil
    go_simp
    (with_reducible refine (HL1.out _).mono ?_); rintro e v1 ⟨⟨A1, c1', rfl, hR1⟩, hB1⟩; have hS1 := hS0.trans (hB1.mono hS0.size)
    refine hK.out _ _ hS1 (fun _ => ?_)
    clear hK K
    (try simp only [Act.put, List.setIfInBounds_toArray, List.set_cons_zero, List.set_cons_succ])
    refine wpAnyH_ready (rs := [9]) (by kernel_rfl) (by simp) ?_
    refine AllReadyH.cons (o := ⟨some 42, Op.call { callee := Callee.value (Operand.func 13), args := #[Operand.tmp 39, Operand.tmp 40, Operand.tmp 41], argTypes := #[24, 26, 26] }, 32, _, _, some (1, true)⟩) rfl (fun K hK => ?_) AllReadyH.nil
    go_simp
    (with_reducible refine (HL2.out _).mono ?_); rintro e v2 ⟨⟨A2, c2', rfl, hR2⟩, hB2⟩; have hS2 := hS1.trans (hB2.mono hS1.size); have hR1b := hR1.below hB2 (Nat.le_refl _)
    refine hK.out _ _ hS2 (fun _ => ?_)
    clear hK K
    (try simp only [Act.put, List.setIfInBounds_toArray, List.set_cons_zero, List.set_cons_succ])
    refine wpAnyH_ready (rs := [10]) (by kernel_rfl) (by simp) ?_
    refine AllReadyH.cons (o := ⟨some 43, Op.call { callee := Callee.value (Operand.func 11), args := #[Operand.tmp 38, Operand.tmp 42], argTypes := #[32, 32] }, 4, _, _, some (1, true)⟩) rfl (fun K hK => ?_) AllReadyH.nil
    go_simp
    (with_reducible refine (HSM.out _ _ _ _ _ _ _ hR1b hR2).mono ?_); rintro e v3 ⟨rfl, q3, rfl⟩; have hS3 := below_drewN hS2 q3; generalize hV3 : World.drewN _ q3 = v3 at hS3 ⊢; clear hV3
    refine hK.out _ _ hS3 (fun _ => ?_)
    clear hK K
    (try simp only [Act.put, List.setIfInBounds_toArray, List.set_cons_zero, List.set_cons_succ])
    refine wpAnyH_take (i := 11) (oi := ⟨some 44, Op.pick (Operand.tmp 34) (Operand.tmp 43) (Operand.const (Value.bool false)), 4, _, _, none⟩) (v := ?vg11) rfl (by kernel_rfl) (by kernel_rfl) (by kernel_rfl) (fun _ _ _ h => h) (Or.inl ⟨by rfl, ?hg11⟩) hS3 ?rg11
    case hg11 => (intro wz hSw; go_simp <;> with_reducible rfl)
    (try simp only [Act.put, List.setIfInBounds_toArray, List.set_cons_zero, List.set_cons_succ])
    refine wpAnyH_take (i := 12) (oi := ⟨some 45, Op.move (Operand.tmp 44), 4, _, _, none⟩) (v := ?vg12) rfl (by kernel_rfl) (by kernel_rfl) (by kernel_rfl) (fun _ _ _ h => h) (Or.inl ⟨by rfl, ?hg12⟩) hS3 ?rg12
    case hg12 => (intro wz hSw; go_simp <;> with_reducible rfl)
    (try simp only [Act.put, List.setIfInBounds_toArray, List.set_cons_zero, List.set_cons_succ])
    refine wpAnyH_take (i := 13) (oi := ⟨some 46, Op.load 24 (Operand.tmp 3), 24, _, _, some (12, true)⟩) (v := ?vg13) rfl (by kernel_rfl) (by kernel_rfl) (by kernel_rfl) (fun _ _ _ h => h) (Or.inl ⟨by rfl, ?hg13⟩) hS3 ?rg13
    case hg13 => (intro wz hSw; obtain ⟨k0, k1, k2, k3, k4, k5, k6⟩ := (HG9.out.of hSw).cells; have y0 := (HY9.out.kept (hSw.block _ HY9.out.lt)).cell0; have y1 := (HY9.out.kept (hSw.block _ HY9.out.lt)).cell1; have z0 := (HZ9.out.kept (hSw.block _ HZ9.out.lt)).cell0; have z1 := (HZ9.out.kept (hSw.block _ HZ9.out.lt)).cell1; go_simp <;> with_reducible rfl)
    (try simp only [Act.put, List.setIfInBounds_toArray, List.set_cons_zero, List.set_cons_succ])
    refine wpAnyH_take (i := 14) (oi := ⟨some 47, Op.load 26 (Operand.tmp 4), 26, _, _, some (12, true)⟩) (v := ?vg14) rfl (by kernel_rfl) (by kernel_rfl) (by kernel_rfl) (fun _ _ _ h => h) (Or.inl ⟨by rfl, ?hg14⟩) hS3 ?rg14
    case hg14 => (intro wz hSw; obtain ⟨k0, k1, k2, k3, k4, k5, k6⟩ := (HG9.out.of hSw).cells; have y0 := (HY9.out.kept (hSw.block _ HY9.out.lt)).cell0; have y1 := (HY9.out.kept (hSw.block _ HY9.out.lt)).cell1; have z0 := (HZ9.out.kept (hSw.block _ HZ9.out.lt)).cell0; have z1 := (HZ9.out.kept (hSw.block _ HZ9.out.lt)).cell1; go_simp <;> with_reducible rfl)
    (try simp only [Act.put, List.setIfInBounds_toArray, List.set_cons_zero, List.set_cons_succ])
    refine wpAnyH_take (i := 15) (oi := ⟨some 48, Op.load 26 (Operand.tmp 5), 26, _, _, some (12, true)⟩) (v := ?vg15) rfl (by kernel_rfl) (by kernel_rfl) (by kernel_rfl) (fun _ _ _ h => h) (Or.inl ⟨by rfl, ?hg15⟩) hS3 ?rg15
    case hg15 => (intro wz hSw; obtain ⟨k0, k1, k2, k3, k4, k5, k6⟩ := (HG9.out.of hSw).cells; have y0 := (HY9.out.kept (hSw.block _ HY9.out.lt)).cell0; have y1 := (HY9.out.kept (hSw.block _ HY9.out.lt)).cell1; have z0 := (HZ9.out.kept (hSw.block _ HZ9.out.lt)).cell0; have z1 := (HZ9.out.kept (hSw.block _ HZ9.out.lt)).cell1; go_simp <;> with_reducible rfl)
    (try simp only [Act.put, List.setIfInBounds_toArray, List.set_cons_zero, List.set_cons_succ])
    refine wpAnyH_take (i := 17) (oi := ⟨some 50, Op.load 24 (Operand.tmp 3), 24, _, _, some (12, true)⟩) (v := ?vg17) rfl (by kernel_rfl) (by kernel_rfl) (by kernel_rfl) (fun _ _ _ h => h) (Or.inl ⟨by rfl, ?hg17⟩) hS3 ?rg17
    case hg17 => (intro wz hSw; obtain ⟨k0, k1, k2, k3, k4, k5, k6⟩ := (HG9.out.of hSw).cells; have y0 := (HY9.out.kept (hSw.block _ HY9.out.lt)).cell0; have y1 := (HY9.out.kept (hSw.block _ HY9.out.lt)).cell1; have z0 := (HZ9.out.kept (hSw.block _ HZ9.out.lt)).cell0; have z1 := (HZ9.out.kept (hSw.block _ HZ9.out.lt)).cell1; go_simp <;> with_reducible rfl)
    (try simp only [Act.put, List.setIfInBounds_toArray, List.set_cons_zero, List.set_cons_succ])
    refine wpAnyH_take (i := 18) (oi := ⟨some 51, Op.load 26 (Operand.tmp 4), 26, _, _, some (12, true)⟩) (v := ?vg18) rfl (by kernel_rfl) (by kernel_rfl) (by kernel_rfl) (fun _ _ _ h => h) (Or.inl ⟨by rfl, ?hg18⟩) hS3 ?rg18
    case hg18 => (intro wz hSw; obtain ⟨k0, k1, k2, k3, k4, k5, k6⟩ := (HG9.out.of hSw).cells; have y0 := (HY9.out.kept (hSw.block _ HY9.out.lt)).cell0; have y1 := (HY9.out.kept (hSw.block _ HY9.out.lt)).cell1; have z0 := (HZ9.out.kept (hSw.block _ HZ9.out.lt)).cell0; have z1 := (HZ9.out.kept (hSw.block _ HZ9.out.lt)).cell1; go_simp <;> with_reducible rfl)
    (try simp only [Act.put, List.setIfInBounds_toArray, List.set_cons_zero, List.set_cons_succ])
    refine wpAnyH_take (i := 19) (oi := ⟨some 52, Op.load 26 (Operand.tmp 5), 26, _, _, some (12, true)⟩) (v := ?vg19) rfl (by kernel_rfl) (by kernel_rfl) (by kernel_rfl) (fun _ _ _ h => h) (Or.inl ⟨by rfl, ?hg19⟩) hS3 ?rg19
    case hg19 => (intro wz hSw; obtain ⟨k0, k1, k2, k3, k4, k5, k6⟩ := (HG9.out.of hSw).cells; have y0 := (HY9.out.kept (hSw.block _ HY9.out.lt)).cell0; have y1 := (HY9.out.kept (hSw.block _ HY9.out.lt)).cell1; have z0 := (HZ9.out.kept (hSw.block _ HZ9.out.lt)).cell0; have z1 := (HZ9.out.kept (hSw.block _ HZ9.out.lt)).cell1; go_simp <;> with_reducible rfl)
    (try simp only [Act.put, List.setIfInBounds_toArray, List.set_cons_zero, List.set_cons_succ])
    refine wpAnyH_ready (rs := [16]) (by kernel_rfl) (by simp) ?_
    refine AllReadyH.cons (o := ⟨some 49, Op.call { callee := Callee.value (Operand.func 14), args := #[Operand.tmp 46, Operand.tmp 47, Operand.tmp 48], argTypes := #[24, 26, 26] }, 4, _, _, some (12, true)⟩) rfl (fun K hK => ?_) AllReadyH.nil
    go_simp
    (with_reducible refine (HSE.out _ hS3).mono ?_); rintro e v4 ⟨rfl, hB4⟩; have hS4 := hS3.trans (hB4.mono hS3.size)
    refine hK.out _ _ hS4 (fun _ => ?_)
    clear hK K
    (try simp only [Act.put, List.setIfInBounds_toArray, List.set_cons_zero, List.set_cons_succ])
    refine wpAnyH_ready (rs := [20]) (by kernel_rfl) (by simp) ?_
    refine AllReadyH.cons (o := ⟨some 53, Op.call { callee := Callee.value (Operand.func 15), args := #[Operand.tmp 50, Operand.tmp 51, Operand.tmp 52], argTypes := #[24, 26, 26] }, 4, _, _, some (12, true)⟩) rfl (fun K hK => ?_) AllReadyH.nil
    go_simp
    (with_reducible refine (HSR.out _ hS4).mono ?_); rintro e v5 ⟨rfl, hB5⟩; have hS5 := hS4.trans (hB5.mono hS4.size)
    refine hK.out _ _ hS5 (fun _ => ?_)
    clear hK K
    (try simp only [Act.put, List.setIfInBounds_toArray, List.set_cons_zero, List.set_cons_succ])
    refine wpAnyH_take (i := 21) (oi := ⟨some 54, Op.binOp BinOp.eql 4 (Operand.tmp 49) (Operand.tmp 53) 4, 4, _, _, some (12, true)⟩) (v := ?vg21) rfl (by kernel_rfl) (by kernel_rfl) (by kernel_rfl) (fun _ _ _ h => h) (Or.inl ⟨by rfl, ?hg21⟩) hS5 ?rg21
    case hg21 => (intro wz hSw; go_simp <;> with_reducible rfl)
    (try simp only [Act.put, List.setIfInBounds_toArray, List.set_cons_zero, List.set_cons_succ])
    refine wpAnyH_take (i := 22) (oi := ⟨some 55, Op.pick (Operand.tmp 45) (Operand.tmp 54) (Operand.const (Value.bool false)), 4, _, _, none⟩) (v := ?vg22) rfl (by kernel_rfl) (by kernel_rfl) (by kernel_rfl) (fun _ _ _ h => h) (Or.inl ⟨by rfl, ?hg22⟩) hS5 ?rg22
    case hg22 => (intro wz hSw; go_simp <;> with_reducible rfl)
    (try simp only [Act.put, List.setIfInBounds_toArray, List.set_cons_zero, List.set_cons_succ])
    refine wpAnyH_take (i := 23) (oi := ⟨some 56, Op.move (Operand.tmp 55), 4, _, _, none⟩) (v := ?vg23) rfl (by kernel_rfl) (by kernel_rfl) (by kernel_rfl) (fun _ _ _ h => h) (Or.inl ⟨by rfl, ?hg23⟩) hS5 ?rg23
    case hg23 => (intro wz hSw; go_simp <;> with_reducible rfl)
    (try simp only [Act.put, List.setIfInBounds_toArray, List.set_cons_zero, List.set_cons_succ])
    refine wpAnyH_take (i := 24) (oi := ⟨some 57, Op.load 26 (Operand.tmp 9), 26, _, _, some (23, true)⟩) (v := ?vg24) rfl (by kernel_rfl) (by kernel_rfl) (by kernel_rfl) (fun _ _ _ h => h) (Or.inl ⟨by rfl, ?hg24⟩) hS5 ?rg24
    case hg24 => (intro wz hSw; obtain ⟨k0, k1, k2, k3, k4, k5, k6⟩ := (HG9.out.of hSw).cells; have y0 := (HY9.out.kept (hSw.block _ HY9.out.lt)).cell0; have y1 := (HY9.out.kept (hSw.block _ HY9.out.lt)).cell1; have z0 := (HZ9.out.kept (hSw.block _ HZ9.out.lt)).cell0; have z1 := (HZ9.out.kept (hSw.block _ HZ9.out.lt)).cell1; go_simp <;> with_reducible rfl)
    (try simp only [Act.put, List.setIfInBounds_toArray, List.set_cons_zero, List.set_cons_succ])
    refine wpAnyH_take (i := 25) (oi := ⟨some 58, Op.load 26 (Operand.tmp 11), 26, _, _, some (23, true)⟩) (v := ?vg25) rfl (by kernel_rfl) (by kernel_rfl) (by kernel_rfl) (fun _ _ _ h => h) (Or.inl ⟨by rfl, ?hg25⟩) hS5 ?rg25
    case hg25 => (intro wz hSw; obtain ⟨k0, k1, k2, k3, k4, k5, k6⟩ := (HG9.out.of hSw).cells; have y0 := (HY9.out.kept (hSw.block _ HY9.out.lt)).cell0; have y1 := (HY9.out.kept (hSw.block _ HY9.out.lt)).cell1; have z0 := (HZ9.out.kept (hSw.block _ HZ9.out.lt)).cell0; have z1 := (HZ9.out.kept (hSw.block _ HZ9.out.lt)).cell1; go_simp <;> with_reducible rfl)
    (try simp only [Act.put, List.setIfInBounds_toArray, List.set_cons_zero, List.set_cons_succ])
    refine wpAnyH_take (i := 26) (oi := ⟨some 59, Op.binOp BinOp.eql 26 (Operand.tmp 57) (Operand.tmp 58) 26, 4, _, _, some (23, true)⟩) (v := ?vg26) rfl (by kernel_rfl) (by kernel_rfl) (by kernel_rfl) (fun _ _ _ h => h) (Or.inl ⟨by rfl, ?hg26⟩) hS5 ?rg26
    case hg26 => (intro wz hSw; go_simp <;> with_reducible rfl)
    (try simp only [Act.put, List.setIfInBounds_toArray, List.set_cons_zero, List.set_cons_succ])
    refine wpAnyH_take (i := 27) (oi := ⟨some 60, Op.pick (Operand.tmp 56) (Operand.tmp 59) (Operand.const (Value.bool false)), 4, _, _, none⟩) (v := ?vg27) rfl (by kernel_rfl) (by kernel_rfl) (by kernel_rfl) (fun _ _ _ h => h) (Or.inl ⟨by rfl, ?hg27⟩) hS5 ?rg27
    case hg27 => (intro wz hSw; go_simp <;> with_reducible rfl)
    (try simp only [Act.put, List.setIfInBounds_toArray, List.set_cons_zero, List.set_cons_succ])
    refine wpAnyH_take (i := 28) (oi := ⟨some 61, Op.move (Operand.tmp 60), 4, _, _, none⟩) (v := ?vg28) rfl (by kernel_rfl) (by kernel_rfl) (by kernel_rfl) (fun _ _ _ h => h) (Or.inl ⟨by rfl, ?hg28⟩) hS5 ?rg28
    case hg28 => (intro wz hSw; go_simp <;> with_reducible rfl)
    (try simp only [Act.put, List.setIfInBounds_toArray, List.set_cons_zero, List.set_cons_succ])
    refine wpAnyH_take (i := 29) (oi := ⟨some 62, Op.move (Operand.tmp 10), 4, _, _, some (28, true)⟩) (v := ?vg29) rfl (by kernel_rfl) (by kernel_rfl) (by kernel_rfl) (fun _ _ _ h => h) (Or.inl ⟨by rfl, ?hg29⟩) hS5 ?rg29
    case hg29 => (intro wz hSw; go_simp <;> with_reducible rfl)
    (try simp only [Act.put, List.setIfInBounds_toArray, List.set_cons_zero, List.set_cons_succ])
    refine wpAnyH_take (i := 30) (oi := ⟨some 63, Op.move (Operand.tmp 12), 4, _, _, some (28, true)⟩) (v := ?vg30) rfl (by kernel_rfl) (by kernel_rfl) (by kernel_rfl) (fun _ _ _ h => h) (Or.inl ⟨by rfl, ?hg30⟩) hS5 ?rg30
    case hg30 => (intro wz hSw; go_simp <;> with_reducible rfl)
    (try simp only [Act.put, List.setIfInBounds_toArray, List.set_cons_zero, List.set_cons_succ])
    refine wpAnyH_take (i := 31) (oi := ⟨some 64, Op.binOp BinOp.eql 4 (Operand.tmp 62) (Operand.tmp 63) 4, 4, _, _, some (28, true)⟩) (v := ?vg31) rfl (by kernel_rfl) (by kernel_rfl) (by kernel_rfl) (fun _ _ _ h => h) (Or.inl ⟨by rfl, ?hg31⟩) hS5 ?rg31
    case hg31 => (intro wz hSw; go_simp <;> with_reducible rfl)
    (try simp only [Act.put, List.setIfInBounds_toArray, List.set_cons_zero, List.set_cons_succ])
    refine wpAnyH_take (i := 32) (oi := ⟨some 65, Op.pick (Operand.tmp 61) (Operand.tmp 64) (Operand.const (Value.bool false)), 4, _, _, none⟩) (v := ?vg32) rfl (by kernel_rfl) (by kernel_rfl) (by kernel_rfl) (fun _ _ _ h => h) (Or.inl ⟨by rfl, ?hg32⟩) hS5 ?rg32
    case hg32 => (intro wz hSw; go_simp <;> with_reducible rfl)
    (try simp only [Act.put, List.setIfInBounds_toArray, List.set_cons_zero, List.set_cons_succ])
    refine wpAnyH_take (i := 33) (oi := ⟨some 6, Op.assign (Operand.tmp 65), 4, _, _, none⟩) (v := ?vg33) rfl (by kernel_rfl) (by kernel_rfl) (by kernel_rfl) (fun _ _ _ h => h) (Or.inl ⟨by rfl, ?hg33⟩) hS5 ?rg33
    case hg33 => (intro wz hSw; go_simp <;> with_reducible rfl)
    (try simp only [Act.put, List.setIfInBounds_toArray, List.set_cons_zero, List.set_cons_succ])
    refine wpAnyH_done (by kernel_rfl) ?_ _
    refine NoPanic.normal ?_
    have hfin := HB9.out.trans (hS5.mono HB9.out.size)
    go_wp2
    go_ret
    exact ⟨rfl, hfin⟩


set_option maxRecDepth 100000 in
theorem lifted (os : Os) (started : os.Started) (H : Type) (enc : TypeId × Value → H) :
    ReturnsInHanded {} Try.checked os 3 .any (Rows.sightLinesSpec.pre6 enc Try.prog Try.f3 Rows.sightLinesRow.domain false) (Rows.sightLinesSpec.post enc Try.prog Try.f3 false true false false) := by
  refine returnsInHanded_of_change (C := Try.checked) own started (by kernel_rfl) Try.func3
    (ChangeSpec.witness6 (enc := enc) (C := Try.checked) false ⟨#[], #[.agg #[.int .i64 0, .int .i64 0, .slice none 0 0], .agg #[.int .i64 0, .int .i64 0], .agg #[.int .i64 0, .int .i64 0]], []⟩ 8 (by kernel_rfl) (by kernel_rfl) (by kernel_rfl) (by kernel_rfl)) ?_
  intro W base args ds gs before hval0 hW hcnd _
  have hval : ∀ (j : Nat) t v, Try.f3.params[j]? = some t → args[j]? = some v → Value.okWide Try.prog W .any base t v := hval0
  have hW' := hW
  obtain ⟨p, q, hA0, hV, rfl, hfz, hnd⟩ := hW
  have hA : DataW.TrodAll enc Try.prog W 0 (fun _ => true) true Try.f3.params.toList args.toList ds p := hA0
  rw [Try.params3] at hA hval
  obtain ⟨v0, vs0, d0, ds0, p0, q0, hargs, rfl, rfl, h0, r0⟩ := trodAll_cons hA
  obtain ⟨v1, vs1, d1, ds1, p1, q1, rfl, rfl, rfl, h1, r1⟩ := trodAll_cons r0
  obtain ⟨v2, vs2, d2, ds2, p2, q2, rfl, rfl, rfl, h2, r2⟩ := trodAll_cons r1
  obtain ⟨rfl, rfl, rfl⟩ := trodAll_nil r2
  obtain rfl : args = #[v0, v1, v2] := by cases args; simp_all
  obtain ⟨rfl, rfl⟩ := trodVars_none hV
  clear hA0 hval0
  have hlt0 : ∀ x ∈ p0, x.block < W.heap.size := fun x hx => hW'.lt x (by simp [hx])
  have hk0 := h0
  obtain ⟨gw0, gh0, A0, c0, l0, rfl, fw0, fh0, hr0⟩ := Open.viewG (hval 0 24 v0 rfl rfl) h0 hlt0
  have hlt1 : ∀ x ∈ p1, x.block < W.heap.size := fun x hx => hW'.lt x (by simp [hx])
  have hk1 := h1
  obtain ⟨x1, y1, rfl, fx1, fy1⟩ := Open.viewP (hval 1 26 v1 rfl rfl) h1
  have hlt2 : ∀ x ∈ p2, x.block < W.heap.size := fun x hx => hW'.lt x (by simp [hx])
  have hk2 := h2
  obtain ⟨x2, y2, rfl, fx2, fy2⟩ := Open.viewP (hval 2 26 v2 rfl rfl) h2
  simp only [List.append_nil] at hW'
  refine (walk W gw0 gh0 A0 c0 l0 fw0 fh0 hr0 x1 y1 fx1 fy1 x2 y2 fx2 fy2).mono fun e W' ⟨he, hg⟩ => ?_
  subst he
  exact ⟨_, rfl, _, _, _, [], _, [], hW', (trodAll_cons_mk (shut_bool Try.underlying4 _) trodAll_mk0), (trodAll_cons_mk (Below.trod Open.laidOut (by kernel_rfl) (of_decide_eq_true (by kernel_rfl)) hk0 hg hlt0) (trodAll_cons_mk (Below.trod Open.laidOut (by kernel_rfl) (of_decide_eq_true (by kernel_rfl)) hk1 hg hlt1) (trodAll_cons_mk (Below.trod Open.laidOut (by kernel_rfl) (of_decide_eq_true (by kernel_rfl)) hk2 hg hlt2) trodAll_mk0))), rfl, hg.frame _, fun h => by cases h⟩

theorem over : Rows.sightLinesRow.holds Try.pinned (OpenSpec.ofChange Rows.sightLinesSpec) :=
  OpenClaim.holds_of_wide 3 Try.f3 rfl rfl rfl rfl rfl rfl rfl ⟨rfl, rfl, rfl, rfl, rfl⟩ rfl rfl rfl rfl rfl (by kernel_rfl) Try.func3 (by kernel_rfl)
    (of_decide_eq_true (by kernel_rfl)) (by unfold Func.isWrapper; first | (rw [if_pos (by decide +kernel)]; kernel_rfl) | (rw [if_neg (by decide +kernel)]; exact ⟨rfl, rfl⟩))
    (fun os started H enc _ => lifted os started H enc)

/-- The given statement. -/
theorem proved : Rows.SightLinesSaid :=
  over
#print axioms proved
end Go.Proofs.Ytiggpmennomplaa.sightLines
