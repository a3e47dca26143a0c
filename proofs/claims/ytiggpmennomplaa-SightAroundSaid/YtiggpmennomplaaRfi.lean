/-
  The contract of the document's own First: for every grid whose walls read as a list and every two tiles: the wall between them that is nearest to the first, of alike ones the first of the line; only new memory is made.
-/
import Derived.Test.YtiggpmennomplaaRln
import Derived.BigQuiet
namespace Go.Proofs.Ytiggpmennomplaa.Con
open Go.RowKit Go.Shelf Lin Arn

theorem eql_tile (x y x' y' : Int) (w : World) : (binOp .eql 26 (pv x y) (pv x' y')).run Try.prog w = .ok (.bool (decide (x = x') && decide (y = y'))) w := by
  by_cases h1 : x = x'
  · by_cases h2 : y = y'
    · subst h1; subst h2; simp [go_sem]
    · have r2 : (y == y') = false := by simpa using h2
      simp [go_sem, r2, h1, h2]
  · have r1 : (x == x') = false := by simpa using h1
    simp [go_sem, r1, h1]

/-- What is known at the head of round k: the number of the best so far. -/
def FR (ax ay : Int) (wc : Tile → Bool) (L : List Tile) (b : Int) (k : Nat) : Prop :=
  (b = -1 ∧ bestB ax ay ((L.take k).filter wc) = none) ∨ ∃ (j : Nat) (p : Tile), b = (j : Int) ∧ L[j]? = some p ∧ bestB ax ay ((L.take k).filter wc) = some p
theorem FR.zero (ax ay : Int) (wc : Tile → Bool) (L : List Tile) : FR ax ay wc L (-1) 0 := .inl ⟨rfl, by simp [bestB]⟩
theorem take_yes {wc : Tile → Bool} {L : List Tile} {k : Nat} {q : Tile} (hq : L[k]? = some q) (h : wc q = true) : (L.take (k + 1)).filter wc = (L.take k).filter wc ++ [q] := by
  rw [List.take_add_one, hq, List.filter_append]; simp [h]
theorem take_no {wc : Tile → Bool} {L : List Tile} {k : Nat} {q : Tile} (hq : L[k]? = some q) (h : wc q = false) : (L.take (k + 1)).filter wc = (L.take k).filter wc := by
  rw [List.take_add_one, hq, List.filter_append]; simp [h]
theorem FR.skip {ax ay : Int} {wc : Tile → Bool} {L : List Tile} {b : Int} {k : Nat} {q : Tile} (h : FR ax ay wc L b k) (hq : L[k]? = some q) (hw : wc q = false) : FR ax ay wc L b (k + 1) := by
  unfold FR at h ⊢
  rw [take_no hq hw]
  exact h
theorem FR.first {ax ay : Int} {wc : Tile → Bool} {L : List Tile} {k : Nat} {q : Tile} (h : bestB ax ay ((L.take k).filter wc) = none) (hq : L[k]? = some q) (hw : wc q = true) : FR ax ay wc L (k : Int) (k + 1) :=
  .inr ⟨k, q, rfl, hq, by rw [take_yes hq hw, best_snoc, h]; rfl⟩
theorem FR.less {ax ay : Int} {wc : Tile → Bool} {L : List Tile} {k : Nat} {q p : Tile} (h : bestB ax ay ((L.take k).filter wc) = some p) (hq : L[k]? = some q) (hw : wc q = true) (hl : sqr ax ay q.1.1 q.1.2 < sqr ax ay p.1.1 p.1.2) : FR ax ay wc L (k : Int) (k + 1) :=
  .inr ⟨k, q, rfl, hq, by rw [take_yes hq hw, best_snoc, h]; exact if_pos hl⟩
theorem FR.more {ax ay : Int} {wc : Tile → Bool} {L : List Tile} {k j : Nat} {q p : Tile} (hp : L[j]? = some p) (h : bestB ax ay ((L.take k).filter wc) = some p) (hq : L[k]? = some q) (hw : wc q = true) (hl : ¬ sqr ax ay q.1.1 q.1.2 < sqr ax ay p.1.1 p.1.2) : FR ax ay wc L (j : Int) (k + 1) :=
  .inr ⟨j, p, rfl, hp, by rw [take_yes hq hw, best_snoc, h]; exact if_neg hl⟩
theorem RT.cells {w : World} {A : Option Addr} {L : List Tile} (h : RT w w.heap.size A L) {k : Nat} {q : Tile} (hq : L[k]? = some q) :
    ∃ b, A = some ⟨b, 0, none⟩ ∧ ∀ V, Below w.heap.size w V → V.cell? ⟨b, k * 2, none⟩ = some (.int .i64 q.1.1) ∧ V.cell? ⟨b, k * 2 + 1, none⟩ = some (.int .i64 q.1.2) := by
  obtain ⟨b, hA, hlt, h1, h2⟩ := h.at' hq
  exact ⟨b, hA, fun V hV => ⟨(World.cell?_of_block (w := w) (hV.block b hlt)).trans h1, (World.cell?_of_block (w := w) (hV.block b hlt)).trans h2⟩⟩
theorem tile_fits (q : Tile) : Fits q.1.1 ∧ Fits q.1.2 := by have := q.2; unfold Fits; omega
theorem rfirst_of {W H : Int} {l : List Bool} {ax ay bx by' : Int} : bestB ax ay ((lineG W H l.length ax ay bx by').filter (wcond W H l ax ay bx by')) = firstB W H l ax ay bx by' := by
  unfold lineG firstB wallsL
  split <;> rfl

set_option maxRecDepth 100000 in
set_option maxHeartbeats 8000000 in
theorem rFirst_any (W H : Int) (A : Option Addr) (l : List Bool) (c : Nat) (ax ay bx by' : Int) (w : World) (hrb : RB w w.heap.size A l) :
    Calls Try.prog 10 #[gv W H A l.length c, pv ax ay, pv bx by'] w fun e w' => e = .returned (firstV (firstB W H l ax ay bx by')) ∧ Below w.heap.size w w' := by
  obtain ⟨n, hn⟩ : ∃ n, l.length = n := ⟨_, rfl⟩
  have hb := gabF_below W H A n c ax ay bx by' w
  have hg := gabF_g3 W H A n c ax ay bx by' w
  have hr := gabF_r W H A n c ax ay bx by' w
  obtain ⟨L, hL⟩ : ∃ L, lineG W H n ax ay bx by' = L := ⟨_, rfl⟩
  obtain ⟨k1, hk1⟩ : ∃ k1, L.length = k1 := ⟨_, rfl⟩
  obtain ⟨wc, hwc⟩ : ∃ wc, wcond W H l ax ay bx by' = wc := ⟨_, rfl⟩
  have hfew : (k1 : Int) ≤ 66049 := by have := lineG_few (W := W) (H := H) (n := n) (ax := ax) (ay := ay) (bx := bx) (by' := by'); rw [hL, hk1] at this; omega
  have hon : ∀ q, q ∈ L → Fits ax ∧ Fits ay := fun q hq => by
    rw [← hL] at hq
    unfold lineG at hq
    split at hq
    · next h => have := both_in h; unfold Fits; omega
    · cases hq
  have hend : bestB ax ay (L.filter wc) = firstB W H l ax ay bx by' := by rw [← hL, ← hwc, ← hn]; exact rfirst_of
  have hln : ∀ V : World, Calls Try.prog 13 #[gv W H A n c, pv ax ay, pv bx by'] V fun e w' => (∃ A1 c1, e = .returned (.slice A1 k1 c1) ∧ RT w' w'.heap.size A1 L) ∧ Below V.heap.size V w' := fun V =>
    (rLine_any W H A n c ax ay bx by' V).mono fun e w' h => by
      obtain ⟨⟨v, he, hrow⟩, hbl⟩ := h
      rw [hL] at hrow
      obtain ⟨A1, c1, hv, hrt, _⟩ := OwnT.shape (w := w') (v := v) (l := L) hrow
      exact ⟨⟨A1, c1, by rw [he, hv, hk1], hrt⟩, hbl⟩
  have HLN := Lib.hid hln; have HG := Lib.hid hg; have HR := Lib.hid hr; have HB0 := Lib.hid hb; have HK1 := Lib.hid hk1; have HWC := Lib.hid hwc; have HON := Lib.hid hon; have HEND := Lib.hid hend; have HN := Lib.hid hn
  rw [hn]
  clear hln hg hr hb hk1 hwc hon hend hn hL
  go_enter Try.func10, Try.ntmps10
  go_wp2_with (first
    | ((with_reducible refine (HLN.out _).mono ?_); rintro e w1 ⟨⟨A1, c1, rfl, hRT⟩, hB1⟩; have HGx := Lib.hid (HG.out.of hB1); have HRx := Lib.hid (HR.out.kept (hB1.block _ HR.out.lt)); have HBx := Lib.hid (HB0.out.trans (hB1.mono HB0.out.size)); have HRT := Lib.hid hRT; clear hB1 hRT))
  go_loopg [9, 10] k1 (fun m s9 s10 wr => ∃ (k : Nat) (b : Int), k ≤ k1 ∧ m = k1 - k ∧ s9 = .int .i64 b ∧ s10 = .int .i64 (k : Int) ∧ Hid (FR ax ay wc L b k) ∧ Hid (Below w1.heap.size w1 wr))
  case atStart => exact ⟨0, -1, by omega, rfl, rfl, rfl, Lib.hid (FR.zero ..), Lib.hid (Below.refl _ _)⟩
  case round =>
    obtain ⟨k, b, hk, rfl, rfl, rfl, HF, HW⟩ := hrel
    by_cases hkl : k < k1
    · have hkl' : (k : Int) < k1 := by omega
      obtain ⟨q, hq⟩ : ∃ q, L[k]? = some q := ⟨_, List.getElem?_eq_getElem (by rw [HK1.out]; exact hkl)⟩
      obtain ⟨b0, hA, hqc⟩ := HRT.out.cells hq
      subst hA
      have HQ := Lib.hid hqc; have HQk := Lib.hid hq
      obtain ⟨fa1, fa2⟩ := HON.out q (List.mem_of_getElem? hq)
      obtain ⟨fq1, fq2⟩ := tile_fits q
      clear hqc hq
      have hW := HW.out
      have HWL : Hid (∀ V : World, Below w1.heap.size w1 V → Calls Try.prog 26 #[gv W H A n c, pv q.1.1 q.1.2] V fun e w' => e = .returned (.bool (wallB W H l q.1.1 q.1.2)) ∧ Below V.heap.size V w') := Lib.hid (fun V h => by
        have hbw := HBx.out.trans (h.mono HBx.out.size)
        have := rwall_any W H A l c q.1.1 q.1.2 V w.heap.size (hrb.below hbw (Nat.le_refl _)) hbw.size
        rwa [HN.out] at this)
      have HWq : Hid (wc q = (!(decide (q.1.1 = ax) && decide (q.1.2 = ay)) && !(decide (q.1.1 = bx) && decide (q.1.2 = by')) && wallB W H l q.1.1 q.1.2)) := Lib.hid (by rw [← HWC.out]; rfl)
      have ea : ∀ V : World, (binOp .eql 26 (pv q.1.1 q.1.2) (pv ax ay)).run Try.prog V = .ok (.bool (decide (q.1.1 = ax) && decide (q.1.2 = ay))) V := fun V => eql_tile ..
      have eb : ∀ V : World, (binOp .eql 26 (pv q.1.1 q.1.2) (pv bx by')).run Try.prog V = .ok (.bool (decide (q.1.1 = bx) && decide (q.1.2 = by'))) V := fun V => eql_tile ..
      generalize (decide (q.1.1 = ax) && decide (q.1.2 = ay)) = qa at HWq ea
      generalize (decide (q.1.1 = bx) && decide (q.1.2 = by')) = qb at HWq eb
      generalize wallB W H l q.1.1 q.1.2 = bw at HWq HWL
      have EA := Lib.hid ea; have EB := Lib.hid eb
      clear ea eb
      cases bw with
      | false =>
        have HWq' : Hid (wc q = false) := Lib.hid (by rw [HWq.out]; simp)
        clear HWq
        go_wp2
        have hS0 : Below wr.heap.size wr wr.drew := (Below.refl _ _).drew
        refine wp_region_noPanic ?_
        refine wp_region_held_drew (S := fun w' => Below wr.heap.size wr w') (by kernel_rfl) hS0 (fun _ => ?_)
        refine wpAnyH_take (i := 0) (oi := ⟨some 22, Op.load 24 (Operand.tmp 3), 24, _, _, none⟩) (v := ?va0_0) rfl (by kernel_rfl) (by kernel_rfl) (by kernel_rfl) (fun _ _ _ h => h) (Or.inl ⟨by rfl, ?ha0_0⟩) hS0 ?ra0_0
        case ha0_0 => (intro wz hSw; obtain ⟨c0, c1, c2, c3, c4, c5, c6⟩ := (HGx.out.of (hW.trans (hSw.mono hW.size))).cells; obtain ⟨q0, q1⟩ := HQ.out _ (hW.trans (hSw.mono hW.size)); go_simp <;> with_reducible rfl)
        (try simp only [Act.put, List.setIfInBounds_toArray, List.set_cons_zero, List.set_cons_succ])
        refine wpAnyH_take (i := 1) (oi := ⟨some 23, Op.move (Operand.tmp 8), 32, _, _, none⟩) (v := ?va0_1) rfl (by kernel_rfl) (by kernel_rfl) (by kernel_rfl) (fun _ _ _ h => h) (Or.inl ⟨by rfl, ?ha0_1⟩) hS0 ?ra0_1
        case ha0_1 => (intro wz hSw; go_simp <;> with_reducible rfl)
        (try simp only [Act.put, List.setIfInBounds_toArray, List.set_cons_zero, List.set_cons_succ])
        refine wpAnyH_take (i := 2) (oi := ⟨some 24, Op.move (Operand.tmp 10), 3, _, _, none⟩) (v := ?va0_2) rfl (by kernel_rfl) (by kernel_rfl) (by kernel_rfl) (fun _ _ _ h => h) (Or.inl ⟨by rfl, ?ha0_2⟩) hS0 ?ra0_2
        case ha0_2 => (intro wz hSw; go_simp <;> with_reducible rfl)
        (try simp only [Act.put, List.setIfInBounds_toArray, List.set_cons_zero, List.set_cons_succ])
        refine wpAnyH_take (i := 3) (oi := ⟨some 25, Op.indexAddr 32 (Operand.tmp 23) (Operand.tmp 24), 0, _, _, none⟩) (v := ?va0_3) rfl (by kernel_rfl) (by kernel_rfl) (by kernel_rfl) (fun _ _ _ h => h) (Or.inl ⟨by rfl, ?ha0_3⟩) hS0 ?ra0_3
        case ha0_3 => (intro wz hSw; go_simp <;> with_reducible rfl)
        (try simp only [Act.put, List.setIfInBounds_toArray, List.set_cons_zero, List.set_cons_succ])
        refine wpAnyH_take (i := 4) (oi := ⟨some 26, Op.load 26 (Operand.tmp 25), 26, _, _, none⟩) (v := ?va0_4) rfl (by kernel_rfl) (by kernel_rfl) (by kernel_rfl) (fun _ _ _ h => h) (Or.inl ⟨by rfl, ?ha0_4⟩) hS0 ?ra0_4
        case ha0_4 => (intro wz hSw; obtain ⟨c0, c1, c2, c3, c4, c5, c6⟩ := (HGx.out.of (hW.trans (hSw.mono hW.size))).cells; obtain ⟨q0, q1⟩ := HQ.out _ (hW.trans (hSw.mono hW.size)); go_simp <;> with_reducible rfl)
        (try simp only [Act.put, List.setIfInBounds_toArray, List.set_cons_zero, List.set_cons_succ])
        refine wpAnyH_ready (rs := [5]) (by kernel_rfl) (by simp) ?_
        refine AllReadyH.cons (o := ⟨some 27, Op.call { callee := Callee.value (Operand.func 26), args := #[Operand.tmp 22, Operand.tmp 26], argTypes := #[24, 26] }, 4, _, _, none⟩) rfl (fun K hK => ?_) AllReadyH.nil
        go_simp
        (with_reducible refine (HWL.out _ (hW.trans (hS0.mono hW.size))).mono ?_); rintro e v1 ⟨rfl, hB1⟩; have hS1 := hS0.trans (hB1.mono hS0.size)
        refine hK.out _ _ hS1 (fun _ => ?_)
        clear hK K
        (try simp only [Act.put, List.setIfInBounds_toArray, List.set_cons_zero, List.set_cons_succ])
        refine wpAnyH_take (i := 6) (oi := ⟨some 11, Op.assign (Operand.tmp 27), 4, _, _, none⟩) (v := ?va0_6) rfl (by kernel_rfl) (by kernel_rfl) (by kernel_rfl) (fun _ _ _ h => h) (Or.inl ⟨by rfl, ?ha0_6⟩) hS1 ?ra0_6
        case ha0_6 => (intro wz hSw; go_simp <;> with_reducible rfl)
        (try simp only [Act.put, List.setIfInBounds_toArray, List.set_cons_zero, List.set_cons_succ])
        refine wpAnyH_done (by kernel_rfl) ?_ _
        refine NoPanic.normal ?_
        have h6 := hS1
        generalize hv6 : v1 = v6 at h6 ⊢
        clear hv6
        have hX6 := hW.trans (h6.mono hW.size)
        obtain ⟨c0, c1, c2, c3, c4, c5, c6⟩ := (HGx.out.of hX6).cells
        obtain ⟨q0, q1⟩ := HQ.out _ hX6
        go_wp2
        go_quiet (fail)
        go_wp2
        go_roundg (k1 - (k + 1))
        · exact ⟨k + 1, _, by omega, rfl, rfl, by go_num, Lib.hid (HF.out.skip HQk.out HWq'.out), Lib.hid (below_drewN hX6 _)⟩
        · omega
      | true =>
        cases qa with
        | true =>
          have HWq' : Hid (wc q = false) := Lib.hid (by rw [HWq.out]; simp)
          clear HWq
          go_wp2
          have hS0 : Below wr.heap.size wr wr.drew := (Below.refl _ _).drew
          refine wp_region_noPanic ?_
          refine wp_region_held_drew (S := fun w' => Below wr.heap.size wr w') (by kernel_rfl) hS0 (fun _ => ?_)
          refine wpAnyH_take (i := 0) (oi := ⟨some 22, Op.load 24 (Operand.tmp 3), 24, _, _, none⟩) (v := ?va1_0) rfl (by kernel_rfl) (by kernel_rfl) (by kernel_rfl) (fun _ _ _ h => h) (Or.inl ⟨by rfl, ?ha1_0⟩) hS0 ?ra1_0
          case ha1_0 => (intro wz hSw; obtain ⟨c0, c1, c2, c3, c4, c5, c6⟩ := (HGx.out.of (hW.trans (hSw.mono hW.size))).cells; obtain ⟨q0, q1⟩ := HQ.out _ (hW.trans (hSw.mono hW.size)); go_simp <;> with_reducible rfl)
          (try simp only [Act.put, List.setIfInBounds_toArray, List.set_cons_zero, List.set_cons_succ])
          refine wpAnyH_take (i := 1) (oi := ⟨some 23, Op.move (Operand.tmp 8), 32, _, _, none⟩) (v := ?va1_1) rfl (by kernel_rfl) (by kernel_rfl) (by kernel_rfl) (fun _ _ _ h => h) (Or.inl ⟨by rfl, ?ha1_1⟩) hS0 ?ra1_1
          case ha1_1 => (intro wz hSw; go_simp <;> with_reducible rfl)
          (try simp only [Act.put, List.setIfInBounds_toArray, List.set_cons_zero, List.set_cons_succ])
          refine wpAnyH_take (i := 2) (oi := ⟨some 24, Op.move (Operand.tmp 10), 3, _, _, none⟩) (v := ?va1_2) rfl (by kernel_rfl) (by kernel_rfl) (by kernel_rfl) (fun _ _ _ h => h) (Or.inl ⟨by rfl, ?ha1_2⟩) hS0 ?ra1_2
          case ha1_2 => (intro wz hSw; go_simp <;> with_reducible rfl)
          (try simp only [Act.put, List.setIfInBounds_toArray, List.set_cons_zero, List.set_cons_succ])
          refine wpAnyH_take (i := 3) (oi := ⟨some 25, Op.indexAddr 32 (Operand.tmp 23) (Operand.tmp 24), 0, _, _, none⟩) (v := ?va1_3) rfl (by kernel_rfl) (by kernel_rfl) (by kernel_rfl) (fun _ _ _ h => h) (Or.inl ⟨by rfl, ?ha1_3⟩) hS0 ?ra1_3
          case ha1_3 => (intro wz hSw; go_simp <;> with_reducible rfl)
          (try simp only [Act.put, List.setIfInBounds_toArray, List.set_cons_zero, List.set_cons_succ])
          refine wpAnyH_take (i := 4) (oi := ⟨some 26, Op.load 26 (Operand.tmp 25), 26, _, _, none⟩) (v := ?va1_4) rfl (by kernel_rfl) (by kernel_rfl) (by kernel_rfl) (fun _ _ _ h => h) (Or.inl ⟨by rfl, ?ha1_4⟩) hS0 ?ra1_4
          case ha1_4 => (intro wz hSw; obtain ⟨c0, c1, c2, c3, c4, c5, c6⟩ := (HGx.out.of (hW.trans (hSw.mono hW.size))).cells; obtain ⟨q0, q1⟩ := HQ.out _ (hW.trans (hSw.mono hW.size)); go_simp <;> with_reducible rfl)
          (try simp only [Act.put, List.setIfInBounds_toArray, List.set_cons_zero, List.set_cons_succ])
          refine wpAnyH_ready (rs := [5]) (by kernel_rfl) (by simp) ?_
          refine AllReadyH.cons (o := ⟨some 27, Op.call { callee := Callee.value (Operand.func 26), args := #[Operand.tmp 22, Operand.tmp 26], argTypes := #[24, 26] }, 4, _, _, none⟩) rfl (fun K hK => ?_) AllReadyH.nil
          go_simp
          (with_reducible refine (HWL.out _ (hW.trans (hS0.mono hW.size))).mono ?_); rintro e v1 ⟨rfl, hB1⟩; have hS1 := hS0.trans (hB1.mono hS0.size)
          refine hK.out _ _ hS1 (fun _ => ?_)
          clear hK K
          (try simp only [Act.put, List.setIfInBounds_toArray, List.set_cons_zero, List.set_cons_succ])
          refine wpAnyH_take (i := 6) (oi := ⟨some 11, Op.assign (Operand.tmp 27), 4, _, _, none⟩) (v := ?va1_6) rfl (by kernel_rfl) (by kernel_rfl) (by kernel_rfl) (fun _ _ _ h => h) (Or.inl ⟨by rfl, ?ha1_6⟩) hS1 ?ra1_6
          case ha1_6 => (intro wz hSw; go_simp <;> with_reducible rfl)
          (try simp only [Act.put, List.setIfInBounds_toArray, List.set_cons_zero, List.set_cons_succ])
          refine wpAnyH_done (by kernel_rfl) ?_ _
          refine NoPanic.normal ?_
          have h6 := hS1
          generalize hv6 : v1 = v6 at h6 ⊢
          clear hv6
          have hX6 := hW.trans (h6.mono hW.size)
          obtain ⟨c0, c1, c2, c3, c4, c5, c6⟩ := (HGx.out.of hX6).cells
          obtain ⟨q0, q1⟩ := HQ.out _ hX6
          have ea := EA.out
          go_wp2
          go_quiet (fail)
          go_wp2
          go_roundg (k1 - (k + 1))
          · exact ⟨k + 1, _, by omega, rfl, rfl, by go_num, Lib.hid (HF.out.skip HQk.out HWq'.out), Lib.hid (below_drewN hX6 _)⟩
          · omega
        | false =>
          cases qb with
          | true =>
            have HWq' : Hid (wc q = false) := Lib.hid (by rw [HWq.out]; simp)
            clear HWq
            go_wp2
            have hS0 : Below wr.heap.size wr wr.drew := (Below.refl _ _).drew
            refine wp_region_noPanic ?_
            refine wp_region_held_drew (S := fun w' => Below wr.heap.size wr w') (by kernel_rfl) hS0 (fun _ => ?_)
            refine wpAnyH_take (i := 0) (oi := ⟨some 22, Op.load 24 (Operand.tmp 3), 24, _, _, none⟩) (v := ?va2_0) rfl (by kernel_rfl) (by kernel_rfl) (by kernel_rfl) (fun _ _ _ h => h) (Or.inl ⟨by rfl, ?ha2_0⟩) hS0 ?ra2_0
            case ha2_0 => (intro wz hSw; obtain ⟨c0, c1, c2, c3, c4, c5, c6⟩ := (HGx.out.of (hW.trans (hSw.mono hW.size))).cells; obtain ⟨q0, q1⟩ := HQ.out _ (hW.trans (hSw.mono hW.size)); go_simp <;> with_reducible rfl)
            (try simp only [Act.put, List.setIfInBounds_toArray, List.set_cons_zero, List.set_cons_succ])
            refine wpAnyH_take (i := 1) (oi := ⟨some 23, Op.move (Operand.tmp 8), 32, _, _, none⟩) (v := ?va2_1) rfl (by kernel_rfl) (by kernel_rfl) (by kernel_rfl) (fun _ _ _ h => h) (Or.inl ⟨by rfl, ?ha2_1⟩) hS0 ?ra2_1
            case ha2_1 => (intro wz hSw; go_simp <;> with_reducible rfl)
            (try simp only [Act.put, List.setIfInBounds_toArray, List.set_cons_zero, List.set_cons_succ])
            refine wpAnyH_take (i := 2) (oi := ⟨some 24, Op.move (Operand.tmp 10), 3, _, _, none⟩) (v := ?va2_2) rfl (by kernel_rfl) (by kernel_rfl) (by kernel_rfl) (fun _ _ _ h => h) (Or.inl ⟨by rfl, ?ha2_2⟩) hS0 ?ra2_2
            case ha2_2 => (intro wz hSw; go_simp <;> with_reducible rfl)
            (try simp only [Act.put, List.setIfInBounds_toArray, List.set_cons_zero, List.set_cons_succ])
            refine wpAnyH_take (i := 3) (oi := ⟨some 25, Op.indexAddr 32 (Operand.tmp 23) (Operand.tmp 24), 0, _, _, none⟩) (v := ?va2_3) rfl (by kernel_rfl) (by kernel_rfl) (by kernel_rfl) (fun _ _ _ h => h) (Or.inl ⟨by rfl, ?ha2_3⟩) hS0 ?ra2_3
            case ha2_3 => (intro wz hSw; go_simp <;> with_reducible rfl)
            (try simp only [Act.put, List.setIfInBounds_toArray, List.set_cons_zero, List.set_cons_succ])
            refine wpAnyH_take (i := 4) (oi := ⟨some 26, Op.load 26 (Operand.tmp 25), 26, _, _, none⟩) (v := ?va2_4) rfl (by kernel_rfl) (by kernel_rfl) (by kernel_rfl) (fun _ _ _ h => h) (Or.inl ⟨by rfl, ?ha2_4⟩) hS0 ?ra2_4
            case ha2_4 => (intro wz hSw; obtain ⟨c0, c1, c2, c3, c4, c5, c6⟩ := (HGx.out.of (hW.trans (hSw.mono hW.size))).cells; obtain ⟨q0, q1⟩ := HQ.out _ (hW.trans (hSw.mono hW.size)); go_simp <;> with_reducible rfl)
            (try simp only [Act.put, List.setIfInBounds_toArray, List.set_cons_zero, List.set_cons_succ])
            refine wpAnyH_ready (rs := [5]) (by kernel_rfl) (by simp) ?_
            refine AllReadyH.cons (o := ⟨some 27, Op.call { callee := Callee.value (Operand.func 26), args := #[Operand.tmp 22, Operand.tmp 26], argTypes := #[24, 26] }, 4, _, _, none⟩) rfl (fun K hK => ?_) AllReadyH.nil
            go_simp
            (with_reducible refine (HWL.out _ (hW.trans (hS0.mono hW.size))).mono ?_); rintro e v1 ⟨rfl, hB1⟩; have hS1 := hS0.trans (hB1.mono hS0.size)
            refine hK.out _ _ hS1 (fun _ => ?_)
            clear hK K
            (try simp only [Act.put, List.setIfInBounds_toArray, List.set_cons_zero, List.set_cons_succ])
            refine wpAnyH_take (i := 6) (oi := ⟨some 11, Op.assign (Operand.tmp 27), 4, _, _, none⟩) (v := ?va2_6) rfl (by kernel_rfl) (by kernel_rfl) (by kernel_rfl) (fun _ _ _ h => h) (Or.inl ⟨by rfl, ?ha2_6⟩) hS1 ?ra2_6
            case ha2_6 => (intro wz hSw; go_simp <;> with_reducible rfl)
            (try simp only [Act.put, List.setIfInBounds_toArray, List.set_cons_zero, List.set_cons_succ])
            refine wpAnyH_done (by kernel_rfl) ?_ _
            refine NoPanic.normal ?_
            have h6 := hS1
            generalize hv6 : v1 = v6 at h6 ⊢
            clear hv6
            have hX6 := hW.trans (h6.mono hW.size)
            obtain ⟨c0, c1, c2, c3, c4, c5, c6⟩ := (HGx.out.of hX6).cells
            obtain ⟨q0, q1⟩ := HQ.out _ hX6
            have ea := EA.out
            have eb := EB.out
            go_wp2
            go_quiet (fail)
            go_wp2
            go_roundg (k1 - (k + 1))
            · exact ⟨k + 1, _, by omega, rfl, rfl, by go_num, Lib.hid (HF.out.skip HQk.out HWq'.out), Lib.hid (below_drewN hX6 _)⟩
            · omega
          | false =>
            have HWq' : Hid (wc q = true) := Lib.hid (by rw [HWq.out]; simp)
            clear HWq
            go_wp2
            have hS0 : Below wr.heap.size wr wr.drew := (Below.refl _ _).drew
            refine wp_region_noPanic ?_
            refine wp_region_held_drew (S := fun w' => Below wr.heap.size wr w') (by kernel_rfl) hS0 (fun _ => ?_)
            refine wpAnyH_take (i := 0) (oi := ⟨some 22, Op.load 24 (Operand.tmp 3), 24, _, _, none⟩) (v := ?va3_0) rfl (by kernel_rfl) (by kernel_rfl) (by kernel_rfl) (fun _ _ _ h => h) (Or.inl ⟨by rfl, ?ha3_0⟩) hS0 ?ra3_0
            case ha3_0 => (intro wz hSw; obtain ⟨c0, c1, c2, c3, c4, c5, c6⟩ := (HGx.out.of (hW.trans (hSw.mono hW.size))).cells; obtain ⟨q0, q1⟩ := HQ.out _ (hW.trans (hSw.mono hW.size)); go_simp <;> with_reducible rfl)
            (try simp only [Act.put, List.setIfInBounds_toArray, List.set_cons_zero, List.set_cons_succ])
            refine wpAnyH_take (i := 1) (oi := ⟨some 23, Op.move (Operand.tmp 8), 32, _, _, none⟩) (v := ?va3_1) rfl (by kernel_rfl) (by kernel_rfl) (by kernel_rfl) (fun _ _ _ h => h) (Or.inl ⟨by rfl, ?ha3_1⟩) hS0 ?ra3_1
            case ha3_1 => (intro wz hSw; go_simp <;> with_reducible rfl)
            (try simp only [Act.put, List.setIfInBounds_toArray, List.set_cons_zero, List.set_cons_succ])
            refine wpAnyH_take (i := 2) (oi := ⟨some 24, Op.move (Operand.tmp 10), 3, _, _, none⟩) (v := ?va3_2) rfl (by kernel_rfl) (by kernel_rfl) (by kernel_rfl) (fun _ _ _ h => h) (Or.inl ⟨by rfl, ?ha3_2⟩) hS0 ?ra3_2
            case ha3_2 => (intro wz hSw; go_simp <;> with_reducible rfl)
            (try simp only [Act.put, List.setIfInBounds_toArray, List.set_cons_zero, List.set_cons_succ])
            refine wpAnyH_take (i := 3) (oi := ⟨some 25, Op.indexAddr 32 (Operand.tmp 23) (Operand.tmp 24), 0, _, _, none⟩) (v := ?va3_3) rfl (by kernel_rfl) (by kernel_rfl) (by kernel_rfl) (fun _ _ _ h => h) (Or.inl ⟨by rfl, ?ha3_3⟩) hS0 ?ra3_3
            case ha3_3 => (intro wz hSw; go_simp <;> with_reducible rfl)
            (try simp only [Act.put, List.setIfInBounds_toArray, List.set_cons_zero, List.set_cons_succ])
            refine wpAnyH_take (i := 4) (oi := ⟨some 26, Op.load 26 (Operand.tmp 25), 26, _, _, none⟩) (v := ?va3_4) rfl (by kernel_rfl) (by kernel_rfl) (by kernel_rfl) (fun _ _ _ h => h) (Or.inl ⟨by rfl, ?ha3_4⟩) hS0 ?ra3_4
            case ha3_4 => (intro wz hSw; obtain ⟨c0, c1, c2, c3, c4, c5, c6⟩ := (HGx.out.of (hW.trans (hSw.mono hW.size))).cells; obtain ⟨q0, q1⟩ := HQ.out _ (hW.trans (hSw.mono hW.size)); go_simp <;> with_reducible rfl)
            (try simp only [Act.put, List.setIfInBounds_toArray, List.set_cons_zero, List.set_cons_succ])
            refine wpAnyH_ready (rs := [5]) (by kernel_rfl) (by simp) ?_
            refine AllReadyH.cons (o := ⟨some 27, Op.call { callee := Callee.value (Operand.func 26), args := #[Operand.tmp 22, Operand.tmp 26], argTypes := #[24, 26] }, 4, _, _, none⟩) rfl (fun K hK => ?_) AllReadyH.nil
            go_simp
            (with_reducible refine (HWL.out _ (hW.trans (hS0.mono hW.size))).mono ?_); rintro e v1 ⟨rfl, hB1⟩; have hS1 := hS0.trans (hB1.mono hS0.size)
            refine hK.out _ _ hS1 (fun _ => ?_)
            clear hK K
            (try simp only [Act.put, List.setIfInBounds_toArray, List.set_cons_zero, List.set_cons_succ])
            refine wpAnyH_take (i := 6) (oi := ⟨some 11, Op.assign (Operand.tmp 27), 4, _, _, none⟩) (v := ?va3_6) rfl (by kernel_rfl) (by kernel_rfl) (by kernel_rfl) (fun _ _ _ h => h) (Or.inl ⟨by rfl, ?ha3_6⟩) hS1 ?ra3_6
            case ha3_6 => (intro wz hSw; go_simp <;> with_reducible rfl)
            (try simp only [Act.put, List.setIfInBounds_toArray, List.set_cons_zero, List.set_cons_succ])
            refine wpAnyH_done (by kernel_rfl) ?_ _
            refine NoPanic.normal ?_
            have h6 := hS1
            generalize hv6 : v1 = v6 at h6 ⊢
            clear hv6
            have hX6 := hW.trans (h6.mono hW.size)
            obtain ⟨c0, c1, c2, c3, c4, c5, c6⟩ := (HGx.out.of hX6).cells
            obtain ⟨q0, q1⟩ := HQ.out _ hX6
            have ea := EA.out
            have eb := EB.out
            go_wp2
            go_quiet (fail)
            have hX := below_drewN hX6 nq
            clear c0 c1 c2 c3 c4 c5 c6 q0 q1 ea eb
            generalize v6.drewN nq = V at hX ⊢
            rcases HF.out with ⟨hb1, hbn⟩ | ⟨j, p, hbj, hp, hbp⟩
            · subst hb1
              have HF2 := Lib.hid (FR.first hbn HQk.out HWq'.out)
              clear hbn
              go_wp2
              have hS0 : Below V.heap.size V V.drew := (Below.refl _ _).drew
              refine wp_region_noPanic ?_
              refine wp_region_held_drew (S := fun w' => Below V.heap.size V w') (by kernel_rfl) hS0 (fun _ => ?_)
              refine wpAnyH_take (i := 0) (oi := ⟨some 46, Op.move (Operand.tmp 9), 3, _, _, none⟩) (v := ?vn0) rfl (by kernel_rfl) (by kernel_rfl) (by kernel_rfl) (fun _ _ _ h => h) (Or.inl ⟨by rfl, ?hn0⟩) hS0 ?rn0
              case hn0 => (intro wz hSw; go_simp <;> with_reducible rfl)
              (try simp only [Act.put, List.setIfInBounds_toArray, List.set_cons_zero, List.set_cons_succ])
              refine wpAnyH_take (i := 1) (oi := ⟨some 47, Op.binOp BinOp.lss 3 (Operand.tmp 46) (Operand.const (Value.int IntKind.i64 0)) 3, 4, _, _, none⟩) (v := ?vn1) rfl (by kernel_rfl) (by kernel_rfl) (by kernel_rfl) (fun _ _ _ h => h) (Or.inl ⟨by rfl, ?hn1⟩) hS0 ?rn1
              case hn1 => (intro wz hSw; go_simp <;> with_reducible rfl)
              (try simp only [Act.put, List.setIfInBounds_toArray, List.set_cons_zero, List.set_cons_succ])
              refine wpAnyH_take (i := 2) (oi := ⟨some 48, Op.move (Operand.tmp 47), 4, _, _, none⟩) (v := ?vn2) rfl (by kernel_rfl) (by kernel_rfl) (by kernel_rfl) (fun _ _ _ h => h) (Or.inl ⟨by rfl, ?hn2⟩) hS0 ?rn2
              case hn2 => (intro wz hSw; go_simp <;> with_reducible rfl)
              (try simp only [Act.put, List.setIfInBounds_toArray, List.set_cons_zero, List.set_cons_succ])
              refine wpAnyH_take (i := 3) (oi := ⟨some 49, Op.load 26 (Operand.tmp 4), 26, _, _, some (2, false)⟩) (v := undef) rfl (by kernel_rfl) (by kernel_rfl) (by kernel_rfl) (fun _ _ _ h => h) (Or.inr ⟨by rfl, rfl⟩) hS0 ?rn3
              (try simp only [Act.put, List.setIfInBounds_toArray, List.set_cons_zero, List.set_cons_succ])
              refine wpAnyH_take (i := 4) (oi := ⟨some 50, Op.move (Operand.tmp 8), 32, _, _, some (2, false)⟩) (v := undef) rfl (by kernel_rfl) (by kernel_rfl) (by kernel_rfl) (fun _ _ _ h => h) (Or.inr ⟨by rfl, rfl⟩) hS0 ?rn4
              (try simp only [Act.put, List.setIfInBounds_toArray, List.set_cons_zero, List.set_cons_succ])
              refine wpAnyH_take (i := 5) (oi := ⟨some 51, Op.move (Operand.tmp 10), 3, _, _, some (2, false)⟩) (v := undef) rfl (by kernel_rfl) (by kernel_rfl) (by kernel_rfl) (fun _ _ _ h => h) (Or.inr ⟨by rfl, rfl⟩) hS0 ?rn5
              (try simp only [Act.put, List.setIfInBounds_toArray, List.set_cons_zero, List.set_cons_succ])
              refine wpAnyH_take (i := 6) (oi := ⟨some 52, Op.indexAddr 32 (Operand.tmp 50) (Operand.tmp 51), 0, _, _, some (2, false)⟩) (v := undef) rfl (by kernel_rfl) (by kernel_rfl) (by kernel_rfl) (fun _ _ _ h => h) (Or.inr ⟨by rfl, rfl⟩) hS0 ?rn6
              (try simp only [Act.put, List.setIfInBounds_toArray, List.set_cons_zero, List.set_cons_succ])
              refine wpAnyH_take (i := 7) (oi := ⟨some 53, Op.load 26 (Operand.tmp 52), 26, _, _, some (2, false)⟩) (v := undef) rfl (by kernel_rfl) (by kernel_rfl) (by kernel_rfl) (fun _ _ _ h => h) (Or.inr ⟨by rfl, rfl⟩) hS0 ?rn7
              (try simp only [Act.put, List.setIfInBounds_toArray, List.set_cons_zero, List.set_cons_succ])
              refine wpAnyH_take (i := 8) (oi := ⟨some 54, Op.call { callee := Callee.value (Operand.func 27), args := #[Operand.tmp 49, Operand.tmp 53], argTypes := #[26, 26] }, 3, _, _, some (2, false)⟩) (v := undef) rfl (by kernel_rfl) (by kernel_rfl) (by kernel_rfl) (fun _ _ _ h => h) (Or.inr ⟨by rfl, rfl⟩) hS0 ?rn8
              (try simp only [Act.put, List.setIfInBounds_toArray, List.set_cons_zero, List.set_cons_succ])
              refine wpAnyH_take (i := 9) (oi := ⟨some 55, Op.load 26 (Operand.tmp 4), 26, _, _, some (2, false)⟩) (v := undef) rfl (by kernel_rfl) (by kernel_rfl) (by kernel_rfl) (fun _ _ _ h => h) (Or.inr ⟨by rfl, rfl⟩) hS0 ?rn9
              (try simp only [Act.put, List.setIfInBounds_toArray, List.set_cons_zero, List.set_cons_succ])
              refine wpAnyH_take (i := 10) (oi := ⟨some 56, Op.move (Operand.tmp 8), 32, _, _, some (2, false)⟩) (v := undef) rfl (by kernel_rfl) (by kernel_rfl) (by kernel_rfl) (fun _ _ _ h => h) (Or.inr ⟨by rfl, rfl⟩) hS0 ?rn10
              (try simp only [Act.put, List.setIfInBounds_toArray, List.set_cons_zero, List.set_cons_succ])
              refine wpAnyH_take (i := 11) (oi := ⟨some 57, Op.move (Operand.tmp 9), 3, _, _, some (2, false)⟩) (v := undef) rfl (by kernel_rfl) (by kernel_rfl) (by kernel_rfl) (fun _ _ _ h => h) (Or.inr ⟨by rfl, rfl⟩) hS0 ?rn11
              (try simp only [Act.put, List.setIfInBounds_toArray, List.set_cons_zero, List.set_cons_succ])
              refine wpAnyH_take (i := 12) (oi := ⟨some 58, Op.indexAddr 32 (Operand.tmp 56) (Operand.tmp 57), 0, _, _, some (2, false)⟩) (v := undef) rfl (by kernel_rfl) (by kernel_rfl) (by kernel_rfl) (fun _ _ _ h => h) (Or.inr ⟨by rfl, rfl⟩) hS0 ?rn12
              (try simp only [Act.put, List.setIfInBounds_toArray, List.set_cons_zero, List.set_cons_succ])
              refine wpAnyH_take (i := 13) (oi := ⟨some 59, Op.load 26 (Operand.tmp 58), 26, _, _, some (2, false)⟩) (v := undef) rfl (by kernel_rfl) (by kernel_rfl) (by kernel_rfl) (fun _ _ _ h => h) (Or.inr ⟨by rfl, rfl⟩) hS0 ?rn13
              (try simp only [Act.put, List.setIfInBounds_toArray, List.set_cons_zero, List.set_cons_succ])
              refine wpAnyH_take (i := 14) (oi := ⟨some 60, Op.call { callee := Callee.value (Operand.func 27), args := #[Operand.tmp 55, Operand.tmp 59], argTypes := #[26, 26] }, 3, _, _, some (2, false)⟩) (v := undef) rfl (by kernel_rfl) (by kernel_rfl) (by kernel_rfl) (fun _ _ _ h => h) (Or.inr ⟨by rfl, rfl⟩) hS0 ?rn14
              (try simp only [Act.put, List.setIfInBounds_toArray, List.set_cons_zero, List.set_cons_succ])
              refine wpAnyH_take (i := 15) (oi := ⟨some 61, Op.binOp BinOp.lss 3 (Operand.tmp 54) (Operand.tmp 60) 3, 4, _, _, some (2, false)⟩) (v := undef) rfl (by kernel_rfl) (by kernel_rfl) (by kernel_rfl) (fun _ _ _ h => h) (Or.inr ⟨by rfl, rfl⟩) hS0 ?rn15
              (try simp only [Act.put, List.setIfInBounds_toArray, List.set_cons_zero, List.set_cons_succ])
              refine wpAnyH_take (i := 16) (oi := ⟨some 62, Op.pick (Operand.tmp 48) (Operand.const (Value.bool true)) (Operand.tmp 61), 4, _, _, none⟩) (v := ?vn16) rfl (by kernel_rfl) (by kernel_rfl) (by kernel_rfl) (fun _ _ _ h => h) (Or.inl ⟨by rfl, ?hn16⟩) hS0 ?rn16
              case hn16 => (intro wz hSw; go_simp <;> with_reducible rfl)
              (try simp only [Act.put, List.setIfInBounds_toArray, List.set_cons_zero, List.set_cons_succ])
              refine wpAnyH_done (by kernel_rfl) ?_ _
              refine NoPanic.normal ?_
              have h8 := hX.trans (hS0.mono hX.size)
              go_wp2
              go_roundg (k1 - (k + 1))
              · exact ⟨k + 1, _, by omega, rfl, rfl, by go_num, HF2, Lib.hid h8⟩
              · omega
            · subst hbj
              obtain ⟨fp1, fp2⟩ := tile_fits p
              obtain ⟨b1, hA1, hpc⟩ := HRT.out.cells hp
              injection hA1 with hA1
              injection hA1 with hA1
              subst hA1
              have hjl : (j : Int) < k1 := by have := (List.getElem?_eq_some_iff.1 hp).1; rw [HK1.out] at this; omega
              have hj0 : (0 : Int) ≤ j := by omega
              have hjm : decide ((j : Int) < 0) = false := by simp
              have HP := Lib.hid hpc
              clear hpc
              by_cases hlt : sqr ax ay q.1.1 q.1.2 < sqr ax ay p.1.1 p.1.2
              · have HF2 := Lib.hid (FR.less hbp HQk.out HWq'.out hlt)
                clear hbp hp
                go_wp2
                have hS0 : Below V.heap.size V V.drew := (Below.refl _ _).drew
                refine wp_region_noPanic ?_
                refine wp_region_held_drew (S := fun w' => Below V.heap.size V w') (by kernel_rfl) hS0 (fun _ => ?_)
                refine wpAnyH_take (i := 0) (oi := ⟨some 46, Op.move (Operand.tmp 9), 3, _, _, none⟩) (v := ?vy0) rfl (by kernel_rfl) (by kernel_rfl) (by kernel_rfl) (fun _ _ _ h => h) (Or.inl ⟨by rfl, ?hy0⟩) hS0 ?ry0
                case hy0 => (intro wz hSw; go_simp <;> with_reducible rfl)
                (try simp only [Act.put, List.setIfInBounds_toArray, List.set_cons_zero, List.set_cons_succ])
                refine wpAnyH_take (i := 1) (oi := ⟨some 47, Op.binOp BinOp.lss 3 (Operand.tmp 46) (Operand.const (Value.int IntKind.i64 0)) 3, 4, _, _, none⟩) (v := ?vy1) rfl (by kernel_rfl) (by kernel_rfl) (by kernel_rfl) (fun _ _ _ h => h) (Or.inl ⟨by rfl, ?hy1⟩) hS0 ?ry1
                case hy1 => (intro wz hSw; go_simp <;> with_reducible rfl)
                (try simp only [Act.put, List.setIfInBounds_toArray, List.set_cons_zero, List.set_cons_succ])
                refine wpAnyH_take (i := 2) (oi := ⟨some 48, Op.move (Operand.tmp 47), 4, _, _, none⟩) (v := ?vy2) rfl (by kernel_rfl) (by kernel_rfl) (by kernel_rfl) (fun _ _ _ h => h) (Or.inl ⟨by rfl, ?hy2⟩) hS0 ?ry2
                case hy2 => (intro wz hSw; go_simp <;> with_reducible rfl)
                (try simp only [Act.put, List.setIfInBounds_toArray, List.set_cons_zero, List.set_cons_succ])
                refine wpAnyH_take (i := 3) (oi := ⟨some 49, Op.load 26 (Operand.tmp 4), 26, _, _, some (2, false)⟩) (v := ?vy3) rfl (by kernel_rfl) (by kernel_rfl) (by kernel_rfl) (fun _ _ _ h => h) (Or.inl ⟨by rfl, ?hy3⟩) hS0 ?ry3
                case hy3 => (intro wz hSw; obtain ⟨c0, c1, c2, c3, c4, c5, c6⟩ := (HGx.out.of (hX.trans (hSw.mono hX.size))).cells; obtain ⟨q0, q1⟩ := HQ.out _ (hX.trans (hSw.mono hX.size)); obtain ⟨p0, p1⟩ := HP.out _ (hX.trans (hSw.mono hX.size)); go_simp <;> with_reducible rfl)
                (try simp only [Act.put, List.setIfInBounds_toArray, List.set_cons_zero, List.set_cons_succ])
                refine wpAnyH_take (i := 4) (oi := ⟨some 50, Op.move (Operand.tmp 8), 32, _, _, some (2, false)⟩) (v := ?vy4) rfl (by kernel_rfl) (by kernel_rfl) (by kernel_rfl) (fun _ _ _ h => h) (Or.inl ⟨by rfl, ?hy4⟩) hS0 ?ry4
                case hy4 => (intro wz hSw; go_simp <;> with_reducible rfl)
                (try simp only [Act.put, List.setIfInBounds_toArray, List.set_cons_zero, List.set_cons_succ])
                refine wpAnyH_take (i := 5) (oi := ⟨some 51, Op.move (Operand.tmp 10), 3, _, _, some (2, false)⟩) (v := ?vy5) rfl (by kernel_rfl) (by kernel_rfl) (by kernel_rfl) (fun _ _ _ h => h) (Or.inl ⟨by rfl, ?hy5⟩) hS0 ?ry5
                case hy5 => (intro wz hSw; go_simp <;> with_reducible rfl)
                (try simp only [Act.put, List.setIfInBounds_toArray, List.set_cons_zero, List.set_cons_succ])
                refine wpAnyH_take (i := 6) (oi := ⟨some 52, Op.indexAddr 32 (Operand.tmp 50) (Operand.tmp 51), 0, _, _, some (2, false)⟩) (v := ?vy6) rfl (by kernel_rfl) (by kernel_rfl) (by kernel_rfl) (fun _ _ _ h => h) (Or.inl ⟨by rfl, ?hy6⟩) hS0 ?ry6
                case hy6 => (intro wz hSw; go_simp <;> with_reducible rfl)
                (try simp only [Act.put, List.setIfInBounds_toArray, List.set_cons_zero, List.set_cons_succ])
                refine wpAnyH_take (i := 7) (oi := ⟨some 53, Op.load 26 (Operand.tmp 52), 26, _, _, some (2, false)⟩) (v := ?vy7) rfl (by kernel_rfl) (by kernel_rfl) (by kernel_rfl) (fun _ _ _ h => h) (Or.inl ⟨by rfl, ?hy7⟩) hS0 ?ry7
                case hy7 => (intro wz hSw; obtain ⟨c0, c1, c2, c3, c4, c5, c6⟩ := (HGx.out.of (hX.trans (hSw.mono hX.size))).cells; obtain ⟨q0, q1⟩ := HQ.out _ (hX.trans (hSw.mono hX.size)); obtain ⟨p0, p1⟩ := HP.out _ (hX.trans (hSw.mono hX.size)); go_simp <;> with_reducible rfl)
                (try simp only [Act.put, List.setIfInBounds_toArray, List.set_cons_zero, List.set_cons_succ])
                refine wpAnyH_take (i := 9) (oi := ⟨some 55, Op.load 26 (Operand.tmp 4), 26, _, _, some (2, false)⟩) (v := ?vy9) rfl (by kernel_rfl) (by kernel_rfl) (by kernel_rfl) (fun _ _ _ h => h) (Or.inl ⟨by rfl, ?hy9⟩) hS0 ?ry9
                case hy9 => (intro wz hSw; obtain ⟨c0, c1, c2, c3, c4, c5, c6⟩ := (HGx.out.of (hX.trans (hSw.mono hX.size))).cells; obtain ⟨q0, q1⟩ := HQ.out _ (hX.trans (hSw.mono hX.size)); obtain ⟨p0, p1⟩ := HP.out _ (hX.trans (hSw.mono hX.size)); go_simp <;> with_reducible rfl)
                (try simp only [Act.put, List.setIfInBounds_toArray, List.set_cons_zero, List.set_cons_succ])
                refine wpAnyH_take (i := 10) (oi := ⟨some 56, Op.move (Operand.tmp 8), 32, _, _, some (2, false)⟩) (v := ?vy10) rfl (by kernel_rfl) (by kernel_rfl) (by kernel_rfl) (fun _ _ _ h => h) (Or.inl ⟨by rfl, ?hy10⟩) hS0 ?ry10
                case hy10 => (intro wz hSw; go_simp <;> with_reducible rfl)
                (try simp only [Act.put, List.setIfInBounds_toArray, List.set_cons_zero, List.set_cons_succ])
                refine wpAnyH_take (i := 11) (oi := ⟨some 57, Op.move (Operand.tmp 9), 3, _, _, some (2, false)⟩) (v := ?vy11) rfl (by kernel_rfl) (by kernel_rfl) (by kernel_rfl) (fun _ _ _ h => h) (Or.inl ⟨by rfl, ?hy11⟩) hS0 ?ry11
                case hy11 => (intro wz hSw; go_simp <;> with_reducible rfl)
                (try simp only [Act.put, List.setIfInBounds_toArray, List.set_cons_zero, List.set_cons_succ])
                refine wpAnyH_take (i := 12) (oi := ⟨some 58, Op.indexAddr 32 (Operand.tmp 56) (Operand.tmp 57), 0, _, _, some (2, false)⟩) (v := ?vy12) rfl (by kernel_rfl) (by kernel_rfl) (by kernel_rfl) (fun _ _ _ h => h) (Or.inl ⟨by rfl, ?hy12⟩) hS0 ?ry12
                case hy12 => (intro wz hSw; go_simp <;> with_reducible rfl)
                (try simp only [Act.put, List.setIfInBounds_toArray, List.set_cons_zero, List.set_cons_succ])
                refine wpAnyH_take (i := 13) (oi := ⟨some 59, Op.load 26 (Operand.tmp 58), 26, _, _, some (2, false)⟩) (v := ?vy13) rfl (by kernel_rfl) (by kernel_rfl) (by kernel_rfl) (fun _ _ _ h => h) (Or.inl ⟨by rfl, ?hy13⟩) hS0 ?ry13
                case hy13 => (intro wz hSw; obtain ⟨c0, c1, c2, c3, c4, c5, c6⟩ := (HGx.out.of (hX.trans (hSw.mono hX.size))).cells; obtain ⟨q0, q1⟩ := HQ.out _ (hX.trans (hSw.mono hX.size)); obtain ⟨p0, p1⟩ := HP.out _ (hX.trans (hSw.mono hX.size)); go_simp <;> with_reducible rfl)
                (try simp only [Act.put, List.setIfInBounds_toArray, List.set_cons_zero, List.set_cons_succ])
                refine wpAnyH_ready (rs := [8]) (by kernel_rfl) (by simp) ?_
                refine AllReadyH.cons (o := ⟨some 54, Op.call { callee := Callee.value (Operand.func 27), args := #[Operand.tmp 49, Operand.tmp 53], argTypes := #[26, 26] }, 3, _, _, some (2, false)⟩) rfl (fun K hK => ?_) AllReadyH.nil
                go_simp
                (with_reducible refine (rsquare_any ax ay q.1.1 q.1.2 _ fa1 fa2 fq1 fq2).mono ?_); rintro e v2 ⟨rfl, hB2⟩; have hS2 := hS0.trans (hB2.mono hS0.size)
                refine hK.out _ _ hS2 (fun _ => ?_)
                clear hK K
                (try simp only [Act.put, List.setIfInBounds_toArray, List.set_cons_zero, List.set_cons_succ])
                refine wpAnyH_ready (rs := [14]) (by kernel_rfl) (by simp) ?_
                refine AllReadyH.cons (o := ⟨some 60, Op.call { callee := Callee.value (Operand.func 27), args := #[Operand.tmp 55, Operand.tmp 59], argTypes := #[26, 26] }, 3, _, _, some (2, false)⟩) rfl (fun K hK => ?_) AllReadyH.nil
                go_simp
                (with_reducible refine (rsquare_any ax ay p.1.1 p.1.2 _ fa1 fa2 fp1 fp2).mono ?_); rintro e v3 ⟨rfl, hB3⟩; have hS3 := hS2.trans (hB3.mono hS2.size)
                refine hK.out _ _ hS3 (fun _ => ?_)
                clear hK K
                (try simp only [Act.put, List.setIfInBounds_toArray, List.set_cons_zero, List.set_cons_succ])
                refine wpAnyH_take (i := 15) (oi := ⟨some 61, Op.binOp BinOp.lss 3 (Operand.tmp 54) (Operand.tmp 60) 3, 4, _, _, some (2, false)⟩) (v := ?vy15) rfl (by kernel_rfl) (by kernel_rfl) (by kernel_rfl) (fun _ _ _ h => h) (Or.inl ⟨by rfl, ?hy15⟩) hS3 ?ry15
                case hy15 => (intro wz hSw; go_simp <;> with_reducible rfl)
                (try simp only [Act.put, List.setIfInBounds_toArray, List.set_cons_zero, List.set_cons_succ])
                refine wpAnyH_take (i := 16) (oi := ⟨some 62, Op.pick (Operand.tmp 48) (Operand.const (Value.bool true)) (Operand.tmp 61), 4, _, _, none⟩) (v := ?vy16) rfl (by kernel_rfl) (by kernel_rfl) (by kernel_rfl) (fun _ _ _ h => h) (Or.inl ⟨by rfl, ?hy16⟩) hS3 ?ry16
                case hy16 => (intro wz hSw; go_simp <;> with_reducible rfl)
                (try simp only [Act.put, List.setIfInBounds_toArray, List.set_cons_zero, List.set_cons_succ])
                refine wpAnyH_done (by kernel_rfl) ?_ _
                refine NoPanic.normal ?_
                have h8 := hX.trans (hS3.mono hX.size)
                go_wp2
                go_roundg (k1 - (k + 1))
                · exact ⟨k + 1, _, by omega, rfl, rfl, by go_num, HF2, Lib.hid h8⟩
                · omega
              · have HF2 := Lib.hid (FR.more hp hbp HQk.out HWq'.out hlt)
                have hlt' : decide (sqr ax ay q.1.1 q.1.2 < sqr ax ay p.1.1 p.1.2) = false := by simpa using hlt
                clear hbp hp
                go_wp2
                have hS0 : Below V.heap.size V V.drew := (Below.refl _ _).drew
                refine wp_region_noPanic ?_
                refine wp_region_held_drew (S := fun w' => Below V.heap.size V w') (by kernel_rfl) hS0 (fun _ => ?_)
                refine wpAnyH_take (i := 0) (oi := ⟨some 46, Op.move (Operand.tmp 9), 3, _, _, none⟩) (v := ?vz0) rfl (by kernel_rfl) (by kernel_rfl) (by kernel_rfl) (fun _ _ _ h => h) (Or.inl ⟨by rfl, ?hz0⟩) hS0 ?rz0
                case hz0 => (intro wz hSw; go_simp <;> with_reducible rfl)
                (try simp only [Act.put, List.setIfInBounds_toArray, List.set_cons_zero, List.set_cons_succ])
                refine wpAnyH_take (i := 1) (oi := ⟨some 47, Op.binOp BinOp.lss 3 (Operand.tmp 46) (Operand.const (Value.int IntKind.i64 0)) 3, 4, _, _, none⟩) (v := ?vz1) rfl (by kernel_rfl) (by kernel_rfl) (by kernel_rfl) (fun _ _ _ h => h) (Or.inl ⟨by rfl, ?hz1⟩) hS0 ?rz1
                case hz1 => (intro wz hSw; go_simp <;> with_reducible rfl)
                (try simp only [Act.put, List.setIfInBounds_toArray, List.set_cons_zero, List.set_cons_succ])
                refine wpAnyH_take (i := 2) (oi := ⟨some 48, Op.move (Operand.tmp 47), 4, _, _, none⟩) (v := ?vz2) rfl (by kernel_rfl) (by kernel_rfl) (by kernel_rfl) (fun _ _ _ h => h) (Or.inl ⟨by rfl, ?hz2⟩) hS0 ?rz2
                case hz2 => (intro wz hSw; go_simp <;> with_reducible rfl)
                (try simp only [Act.put, List.setIfInBounds_toArray, List.set_cons_zero, List.set_cons_succ])
                refine wpAnyH_take (i := 3) (oi := ⟨some 49, Op.load 26 (Operand.tmp 4), 26, _, _, some (2, false)⟩) (v := ?vz3) rfl (by kernel_rfl) (by kernel_rfl) (by kernel_rfl) (fun _ _ _ h => h) (Or.inl ⟨by rfl, ?hz3⟩) hS0 ?rz3
                case hz3 => (intro wz hSw; obtain ⟨c0, c1, c2, c3, c4, c5, c6⟩ := (HGx.out.of (hX.trans (hSw.mono hX.size))).cells; obtain ⟨q0, q1⟩ := HQ.out _ (hX.trans (hSw.mono hX.size)); obtain ⟨p0, p1⟩ := HP.out _ (hX.trans (hSw.mono hX.size)); go_simp <;> with_reducible rfl)
                (try simp only [Act.put, List.setIfInBounds_toArray, List.set_cons_zero, List.set_cons_succ])
                refine wpAnyH_take (i := 4) (oi := ⟨some 50, Op.move (Operand.tmp 8), 32, _, _, some (2, false)⟩) (v := ?vz4) rfl (by kernel_rfl) (by kernel_rfl) (by kernel_rfl) (fun _ _ _ h => h) (Or.inl ⟨by rfl, ?hz4⟩) hS0 ?rz4
                case hz4 => (intro wz hSw; go_simp <;> with_reducible rfl)
                (try simp only [Act.put, List.setIfInBounds_toArray, List.set_cons_zero, List.set_cons_succ])
                refine wpAnyH_take (i := 5) (oi := ⟨some 51, Op.move (Operand.tmp 10), 3, _, _, some (2, false)⟩) (v := ?vz5) rfl (by kernel_rfl) (by kernel_rfl) (by kernel_rfl) (fun _ _ _ h => h) (Or.inl ⟨by rfl, ?hz5⟩) hS0 ?rz5
                case hz5 => (intro wz hSw; go_simp <;> with_reducible rfl)
                (try simp only [Act.put, List.setIfInBounds_toArray, List.set_cons_zero, List.set_cons_succ])
                refine wpAnyH_take (i := 6) (oi := ⟨some 52, Op.indexAddr 32 (Operand.tmp 50) (Operand.tmp 51), 0, _, _, some (2, false)⟩) (v := ?vz6) rfl (by kernel_rfl) (by kernel_rfl) (by kernel_rfl) (fun _ _ _ h => h) (Or.inl ⟨by rfl, ?hz6⟩) hS0 ?rz6
                case hz6 => (intro wz hSw; go_simp <;> with_reducible rfl)
                (try simp only [Act.put, List.setIfInBounds_toArray, List.set_cons_zero, List.set_cons_succ])
                refine wpAnyH_take (i := 7) (oi := ⟨some 53, Op.load 26 (Operand.tmp 52), 26, _, _, some (2, false)⟩) (v := ?vz7) rfl (by kernel_rfl) (by kernel_rfl) (by kernel_rfl) (fun _ _ _ h => h) (Or.inl ⟨by rfl, ?hz7⟩) hS0 ?rz7
                case hz7 => (intro wz hSw; obtain ⟨c0, c1, c2, c3, c4, c5, c6⟩ := (HGx.out.of (hX.trans (hSw.mono hX.size))).cells; obtain ⟨q0, q1⟩ := HQ.out _ (hX.trans (hSw.mono hX.size)); obtain ⟨p0, p1⟩ := HP.out _ (hX.trans (hSw.mono hX.size)); go_simp <;> with_reducible rfl)
                (try simp only [Act.put, List.setIfInBounds_toArray, List.set_cons_zero, List.set_cons_succ])
                refine wpAnyH_take (i := 9) (oi := ⟨some 55, Op.load 26 (Operand.tmp 4), 26, _, _, some (2, false)⟩) (v := ?vz9) rfl (by kernel_rfl) (by kernel_rfl) (by kernel_rfl) (fun _ _ _ h => h) (Or.inl ⟨by rfl, ?hz9⟩) hS0 ?rz9
                case hz9 => (intro wz hSw; obtain ⟨c0, c1, c2, c3, c4, c5, c6⟩ := (HGx.out.of (hX.trans (hSw.mono hX.size))).cells; obtain ⟨q0, q1⟩ := HQ.out _ (hX.trans (hSw.mono hX.size)); obtain ⟨p0, p1⟩ := HP.out _ (hX.trans (hSw.mono hX.size)); go_simp <;> with_reducible rfl)
                (try simp only [Act.put, List.setIfInBounds_toArray, List.set_cons_zero, List.set_cons_succ])
                refine wpAnyH_take (i := 10) (oi := ⟨some 56, Op.move (Operand.tmp 8), 32, _, _, some (2, false)⟩) (v := ?vz10) rfl (by kernel_rfl) (by kernel_rfl) (by kernel_rfl) (fun _ _ _ h => h) (Or.inl ⟨by rfl, ?hz10⟩) hS0 ?rz10
                case hz10 => (intro wz hSw; go_simp <;> with_reducible rfl)
                (try simp only [Act.put, List.setIfInBounds_toArray, List.set_cons_zero, List.set_cons_succ])
                refine wpAnyH_take (i := 11) (oi := ⟨some 57, Op.move (Operand.tmp 9), 3, _, _, some (2, false)⟩) (v := ?vz11) rfl (by kernel_rfl) (by kernel_rfl) (by kernel_rfl) (fun _ _ _ h => h) (Or.inl ⟨by rfl, ?hz11⟩) hS0 ?rz11
                case hz11 => (intro wz hSw; go_simp <;> with_reducible rfl)
                (try simp only [Act.put, List.setIfInBounds_toArray, List.set_cons_zero, List.set_cons_succ])
                refine wpAnyH_take (i := 12) (oi := ⟨some 58, Op.indexAddr 32 (Operand.tmp 56) (Operand.tmp 57), 0, _, _, some (2, false)⟩) (v := ?vz12) rfl (by kernel_rfl) (by kernel_rfl) (by kernel_rfl) (fun _ _ _ h => h) (Or.inl ⟨by rfl, ?hz12⟩) hS0 ?rz12
                case hz12 => (intro wz hSw; go_simp <;> with_reducible rfl)
                (try simp only [Act.put, List.setIfInBounds_toArray, List.set_cons_zero, List.set_cons_succ])
                refine wpAnyH_take (i := 13) (oi := ⟨some 59, Op.load 26 (Operand.tmp 58), 26, _, _, some (2, false)⟩) (v := ?vz13) rfl (by kernel_rfl) (by kernel_rfl) (by kernel_rfl) (fun _ _ _ h => h) (Or.inl ⟨by rfl, ?hz13⟩) hS0 ?rz13
                case hz13 => (intro wz hSw; obtain ⟨c0, c1, c2, c3, c4, c5, c6⟩ := (HGx.out.of (hX.trans (hSw.mono hX.size))).cells; obtain ⟨q0, q1⟩ := HQ.out _ (hX.trans (hSw.mono hX.size)); obtain ⟨p0, p1⟩ := HP.out _ (hX.trans (hSw.mono hX.size)); go_simp <;> with_reducible rfl)
                (try simp only [Act.put, List.setIfInBounds_toArray, List.set_cons_zero, List.set_cons_succ])
                refine wpAnyH_ready (rs := [8]) (by kernel_rfl) (by simp) ?_
                refine AllReadyH.cons (o := ⟨some 54, Op.call { callee := Callee.value (Operand.func 27), args := #[Operand.tmp 49, Operand.tmp 53], argTypes := #[26, 26] }, 3, _, _, some (2, false)⟩) rfl (fun K hK => ?_) AllReadyH.nil
                go_simp
                (with_reducible refine (rsquare_any ax ay q.1.1 q.1.2 _ fa1 fa2 fq1 fq2).mono ?_); rintro e v4 ⟨rfl, hB4⟩; have hS4 := hS0.trans (hB4.mono hS0.size)
                refine hK.out _ _ hS4 (fun _ => ?_)
                clear hK K
                (try simp only [Act.put, List.setIfInBounds_toArray, List.set_cons_zero, List.set_cons_succ])
                refine wpAnyH_ready (rs := [14]) (by kernel_rfl) (by simp) ?_
                refine AllReadyH.cons (o := ⟨some 60, Op.call { callee := Callee.value (Operand.func 27), args := #[Operand.tmp 55, Operand.tmp 59], argTypes := #[26, 26] }, 3, _, _, some (2, false)⟩) rfl (fun K hK => ?_) AllReadyH.nil
                go_simp
                (with_reducible refine (rsquare_any ax ay p.1.1 p.1.2 _ fa1 fa2 fp1 fp2).mono ?_); rintro e v5 ⟨rfl, hB5⟩; have hS5 := hS4.trans (hB5.mono hS4.size)
                refine hK.out _ _ hS5 (fun _ => ?_)
                clear hK K
                (try simp only [Act.put, List.setIfInBounds_toArray, List.set_cons_zero, List.set_cons_succ])
                refine wpAnyH_take (i := 15) (oi := ⟨some 61, Op.binOp BinOp.lss 3 (Operand.tmp 54) (Operand.tmp 60) 3, 4, _, _, some (2, false)⟩) (v := ?vz15) rfl (by kernel_rfl) (by kernel_rfl) (by kernel_rfl) (fun _ _ _ h => h) (Or.inl ⟨by rfl, ?hz15⟩) hS5 ?rz15
                case hz15 => (intro wz hSw; go_simp <;> with_reducible rfl)
                (try simp only [Act.put, List.setIfInBounds_toArray, List.set_cons_zero, List.set_cons_succ])
                refine wpAnyH_take (i := 16) (oi := ⟨some 62, Op.pick (Operand.tmp 48) (Operand.const (Value.bool true)) (Operand.tmp 61), 4, _, _, none⟩) (v := ?vz16) rfl (by kernel_rfl) (by kernel_rfl) (by kernel_rfl) (fun _ _ _ h => h) (Or.inl ⟨by rfl, ?hz16⟩) hS5 ?rz16
                case hz16 => (intro wz hSw; go_simp <;> with_reducible rfl)
                (try simp only [Act.put, List.setIfInBounds_toArray, List.set_cons_zero, List.set_cons_succ])
                refine wpAnyH_done (by kernel_rfl) ?_ _
                refine NoPanic.normal ?_
                have h8 := hX.trans (hS5.mono hX.size)
                go_wp2
                go_roundg (k1 - (k + 1))
                · exact ⟨k + 1, _, by omega, rfl, rfl, by go_num, HF2, Lib.hid h8⟩
                · omega
    · have hkk : k = k1 := by omega
      have hkl' : decide ((k : Int) < k1) = false := by simp; omega
      have hW := HW.out
      have hRr := HRx.out.kept (hW.block _ HRx.out.lt)
      have x0 := hRr.cell0
      have x1 := hRr.cell1
      have f0 := hRr.frozen 0
      have f1 := hRr.frozen 1
      have hF := HF.out
      unfold FR at hF
      rw [hkk, ← HK1.out, List.take_length, HEND.out] at hF
      have HR2 := Lib.hid hRr
      clear hkk hRr
      rcases hF with ⟨hb1, hbn⟩ | ⟨j, p, hbj, hp, hbp⟩
      · subst hb1
        have HBN := Lib.hid hbn
        clear hbn
        have hbf := HBx.out.trans (hW.mono HBx.out.size)
        go_wp2
        have hR2 := HR2.out.put 0 0
        have u0 := hR2.cell0
        have u1 := hR2.cell1
        refine bodyPost_ret (v := firstV none) (by simp [results, Try.results10, go_sem, u0, u1]; try rfl) rfl ?_
        exact ⟨by rw [HBN.out], (hbf.setCell (p := ⟨w.heap.size + 1 + 1 + 1, 0, none⟩) (by show w.heap.size ≤ w.heap.size + 1 + 1 + 1; omega) _).setCell (p := ⟨w.heap.size + 1 + 1 + 1, 1, none⟩) (by show w.heap.size ≤ w.heap.size + 1 + 1 + 1; omega) _⟩
      · subst hbj
        have HBP := Lib.hid hbp
        obtain ⟨b1, hA1, hpc⟩ := HRT.out.cells hp
        subst hA1
        have hjl : (j : Int) < k1 := by have := (List.getElem?_eq_some_iff.1 hp).1; rw [HK1.out] at this; omega
        have hj0 : (0 : Int) ≤ j := by omega
        have hjm : decide ((j : Int) < 0) = false := by simp
        obtain ⟨p0, p1⟩ := hpc _ hW
        clear hbp hp hpc
        have hbf := HBx.out.trans (hW.mono HBx.out.size)
        go_wp2
        have hR2 := HR2.out.put p.1.1 p.1.2
        have u0 := hR2.cell0
        have u1 := hR2.cell1
        refine bodyPost_ret (v := firstV (some p)) (by simp [results, Try.results10, go_sem, u0, u1]; try rfl) rfl ?_
        exact ⟨by rw [HBP.out], (hbf.setCell (p := ⟨w.heap.size + 1 + 1 + 1, 0, none⟩) (by show w.heap.size ≤ w.heap.size + 1 + 1 + 1; omega) _).setCell (p := ⟨w.heap.size + 1 + 1 + 1, 1, none⟩) (by show w.heap.size ≤ w.heap.size + 1 + 1 + 1; omega) _⟩

end Go.Proofs.Ytiggpmennomplaa.Con
