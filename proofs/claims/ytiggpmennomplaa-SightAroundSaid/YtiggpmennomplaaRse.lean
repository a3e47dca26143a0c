/-
  The contract of the document's own Sees: for every grid whose walls read as a list and every two tiles; only new memory is made.
-/
import Derived.Test.YtiggpmennomplaaRfi
namespace Go.Proofs.Ytiggpmennomplaa.Con
open Go.RowKit Go.Shelf Lin Arn

theorem rsees_eq {W H : Int} {l : List Bool} {ax ay bx by' : Int} : (decide (((lineG W H l.length ax ay bx by').length : Int) > 0) && !(firstB W H l ax ay bx by').isSome) = seesB W H l ax ay bx by' := by
  cases hb : bothB W H l.length ax ay bx by' with
  | false => unfold lineG seesB; rw [hb]; rfl
  | true =>
    rw [first_sees hb, Bool.not_not]
    have hin := both_in hb
    have h := line_len hin.1.1 hin.1.2 hin.2.1 hin.2.2
    have h2 := stp_nonneg ax ay bx by'
    unfold lineG
    rw [if_pos hb]
    have : decide (((lineL ax ay bx by').length : Int) > 0) = true := by simp; omega
    rw [this, Bool.true_and]

set_option maxRecDepth 100000 in
set_option maxHeartbeats 4000000 in
theorem rSees_any (W H : Int) (A : Option Addr) (l : List Bool) (c : Nat) (ax ay bx by' : Int) (w : World) (hrb : RB w w.heap.size A l) :
    Calls Try.prog 15 #[gv W H A l.length c, pv ax ay, pv bx by'] w fun e w' => e = .returned (.bool (seesB W H l ax ay bx by')) ∧ Below w.heap.size w w' := by
  have hb := gab_below W H A l.length c ax ay bx by' w
  have hg := gab_g3 W H A l.length c ax ay bx by' w
  obtain ⟨k1, hk1⟩ : ∃ k1, (lineG W H l.length ax ay bx by').length = k1 := ⟨_, rfl⟩
  obtain ⟨o, ho⟩ : ∃ o, firstB W H l ax ay bx by' = o := ⟨_, rfl⟩
  have he := rsees_eq (W := W) (H := H) (l := l) (ax := ax) (ay := ay) (bx := bx) (by' := by')
  rw [hk1, ho] at he
  have hln : ∀ V : World, Calls Try.prog 13 #[gv W H A l.length c, pv ax ay, pv bx by'] V fun e w' => (∃ A1 c1, e = .returned (.slice A1 k1 c1)) ∧ Below V.heap.size V w' := fun V =>
    (rLine_any W H A l.length c ax ay bx by' V).mono fun e w' h => by
      obtain ⟨⟨v, he, hrow⟩, hbl⟩ := h
      obtain ⟨A1, c1, hv, _⟩ := OwnT.shape (w := w') (v := v) (l := lineG W H l.length ax ay bx by') hrow
      exact ⟨⟨A1, c1, by rw [he, hv, hk1]⟩, hbl⟩
  have hfi : ∀ V : World, Below w.heap.size w V → Calls Try.prog 10 #[gv W H A l.length c, pv ax ay, pv bx by'] V fun e w' => e = .returned (.tuple #[pv (ox o) (oy o), .bool o.isSome]) ∧ Below V.heap.size V w' := fun V hV => by
    have := rFirst_any W H A l c ax ay bx by' V (by
      rcases hrb.below hV (Nat.le_refl _) with e | ⟨b, off, e, hlt, hc⟩
      · exact .inl e
      · exact .inr ⟨b, off, e, Nat.lt_of_lt_of_le hlt hV.size, hc⟩)
    rwa [ho] at this
  generalize o.isSome = is at he hfi
  have HE := Lib.hid he; have HLN := Lib.hid hln; have HFI := Lib.hid hfi; have HG := Lib.hid hg; have HB0 := Lib.hid hb
  clear he hln hfi hg hb hk1 ho
  by_cases hk : (k1 : Int) > 0
  · have hk2 : 0 < k1 := by omega
    go_enter Try.func15, Try.ntmps15
    go_wp2_with (first
      | ((with_reducible refine (HLN.out _).mono ?_); rintro e w1 ⟨⟨A1, c1, rfl⟩, hB1⟩; have HG1 := Lib.hid (HG.out.of hB1); obtain ⟨c0, c1, c2, c3, c4, c5, c6⟩ := HG1.out.cells; have HB1 := Lib.hid (HB0.out.trans (hB1.mono HB0.out.size)); clear hB1)
      | ((with_reducible refine (HFI.out _ HB1.out).mono ?_); rintro e w2 ⟨rfl, hB2⟩))
    go_ret
    refine ⟨?_, (HB1.out.trans (hB2.mono HB1.out.size)).alloc (Nat.le_trans HB1.out.size hB2.size) _⟩
    have := HE.out
    rw [show decide ((k1 : Int) > 0) = true by simpa using hk] at this
    rw [← this]
    rfl
  · have hk' : decide (0 < k1) = false := by simp; omega
    go_enter Try.func15, Try.ntmps15
    go_wp2_with (first
      | ((with_reducible refine (HLN.out _).mono ?_); rintro e w1 ⟨⟨A1, c1, rfl⟩, hB1⟩; have HG1 := Lib.hid (HG.out.of hB1); obtain ⟨c0, c1, c2, c3, c4, c5, c6⟩ := HG1.out.cells; have HB1 := Lib.hid (HB0.out.trans (hB1.mono HB0.out.size)); clear hB1)
      | ((with_reducible refine (HFI.out _ HB1.out).mono ?_); rintro e w2 ⟨rfl, hB2⟩))
    go_ret
    refine ⟨?_, (HB1.out.trans (hB2.mono HB1.out.size)).alloc (Nat.le_trans HB1.out.size hB2.size) _⟩
    have := HE.out
    rw [show decide ((k1 : Int) > 0) = false by simpa using hk] at this
    rw [← this]
    rfl
end Go.Proofs.Ytiggpmennomplaa.Con
