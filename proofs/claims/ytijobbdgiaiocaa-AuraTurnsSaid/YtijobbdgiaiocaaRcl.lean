/-
  The document's first against the first row that may not be; two rows of a call's own that grow side by side.
-/
import Derived.Test.YtijobbdgiaiocaaRck
import Derived.Test.YtijobbdgiaiocaaRig
import Derived.Test.YtijobbdgiaiocaaRgd
namespace Go.Proofs.Ytijobbdgiaiocaa.Con
open Go.RowKit Go.Maps

/-- Whether x is marked: it does not keep P. -/
noncomputable def badOf {α : Type} (P : α → Prop) (x : α) : Bool := @decide (¬ P x) (Classical.propDecidable _)
theorem badOf_iff {α : Type} (P : α → Prop) (x : α) : badOf P x = true ↔ ¬ P x := by unfold badOf; simp
theorem badOf_not {α : Type} {P : α → Prop} {x : α} {b : Bool} (hb : badOf P x = b) : (!b) = true ↔ P x := by
  subst hb
  cases h : badOf P x with
  | true => have := (badOf_iff P x).1 h; simp [this]
  | false =>
    have : ¬ ¬ P x := fun h2 => by have := (badOf_iff P x).2 h2; rw [h] at this; cases this
    simpa using this
theorem flaw_all {α : Type} {ok : α → Prop} {id : α → Int} : ∀ (l : List α) (last : Int) (i : Nat), i ≤ 64 → (Flaw ok id l last i none ↔ i + l.length ≤ 64 ∧ ∀ (j : Nat) x, l[j]? = some x → ok x ∧ (last :: l.map id).getD j 0 < id x)
  | [], last, i, hi => by simp [Flaw]; exact hi
  | x :: s, last, i, hi => by
    constructor
    · rintro (⟨_, h⟩ | ⟨h1, h2⟩)
      · cases h
      · have hi' : i ≠ 64 := fun e => h1 (.inl e)
        have hl : last < id x := by
          by_cases h : id x ≤ last
          · exact absurd (Or.inr (Or.inl h)) h1
          · omega
        have hok : ok x := Classical.byContradiction fun h => h1 (.inr (.inr h))
        obtain ⟨a, b⟩ := (flaw_all s (id x) (i + 1) (by omega)).1 h2
        refine ⟨by simp; omega, fun j y hy => ?_⟩
        cases j with
        | zero => simp at hy; subst hy; exact ⟨hok, by simpa using hl⟩
        | succ j => simpa using b j y (by simpa using hy)
    · rintro ⟨a, b⟩
      simp at a
      obtain ⟨b1, b2⟩ := b 0 x rfl
      simp at b2
      refine .inr ⟨?_, (flaw_all s (id x) (i + 1) (by omega)).2 ⟨by omega, fun j y hy => ?_⟩⟩
      · rintro (h | h | h)
        · omega
        · omega
        · exact h b1
      · simpa using b (j + 1) y (by simpa using hy)
theorem good_flaw {α : Type} {ok : α → Prop} {id : α → Int} (l : List α) : Good (l.map (badOf ok)) (l.map id) ↔ Flaw ok id l 0 0 none := by
  rw [flaw_all l 0 0 (by omega)]
  unfold Good okAt
  simp only [List.length_map]
  constructor
  · rintro ⟨h1, h2⟩
    refine ⟨by omega, fun j x hx => ?_⟩
    have hj : j < l.length := (List.getElem?_eq_some_iff.1 hx).1
    obtain ⟨a, b, c⟩ := h2 j hj
    have hg : (l.map id).getD j 0 = id x := by simp [List.getD, hx]
    refine ⟨?_, ?_⟩
    · rw [List.getElem?_map, hx] at a
      injection a with a
      exact Classical.byContradiction fun hn => by rw [(badOf_iff ok x).2 hn] at a; cases a
    · cases j with
      | zero => rw [hg] at b; simp; omega
      | succ j => have := c (by omega); rw [hg] at this; simpa using this
  · rintro ⟨h1, h2⟩
    have hpos : ∀ j, j < l.length → 1 ≤ (l.map id).getD j 0 := by
      intro j
      induction j with
      | zero =>
        intro hj
        have := (h2 0 l[0] (List.getElem?_eq_getElem hj)).2
        simp at this
        simp [List.getD, List.getElem?_eq_getElem hj]; omega
      | succ j ih =>
        intro hj
        have h3 := (h2 (j + 1) l[j + 1] (List.getElem?_eq_getElem hj)).2
        have h4 := ih (by omega)
        have hg : (l.map id).getD (j + 1) 0 = id l[j + 1] := by simp [List.getD, List.getElem?_eq_getElem hj]
        rw [hg]
        have : ((0 : Int) :: l.map id).getD (j + 1) 0 = (l.map id).getD j 0 := by simp
        rw [this] at h3
        omega
    refine ⟨by omega, fun j hj => ?_⟩
    have hx := List.getElem?_eq_getElem hj
    obtain ⟨a, b⟩ := h2 j _ hx
    have hg : (l.map id).getD j 0 = id l[j] := by simp [List.getD, hx]
    refine ⟨?_, hpos j hj, fun h0 => ?_⟩
    · rw [List.getElem?_map, hx]
      cases h : badOf ok l[j] with
      | false => simp [h]
      | true => exact absurd a ((badOf_iff ok _).1 h)
    · obtain ⟨i, rfl⟩ : ∃ i, j = i + 1 := ⟨j - 1, by omega⟩
      rw [hg]
      have : ((0 : Int) :: l.map id).getD (i + 1) 0 = (l.map id).getD i 0 := by simp
      rw [this] at b
      simpa using b
/-- A place that is no wall lies on a map that is right. -/
theorem map_wall {W H : Int} {l : List Bool} {x y : Int} (h : wallB W H l x y = false) : rightB W H l.length = true := by
  unfold wallB inB at h
  simp at h
  exact h.1.1.1.1.1

/-- TwoB rows of the call's own, in blocks apart: marks and numbers. -/
structure TwoB (w : World) (base : Nat) (A4 : Option Addr) (c4 : Nat) (bad : List Bool) (A5 : Option Addr) (c5 : Nat) (ids : List Int) : Prop where
  o4 : OW bo w base (.slice A4 bad.length c4) bad
  o5 : OW nu w base (.slice A5 ids.length c5) ids
  ne : ∀ b, (Value.slice A4 bad.length c4).ownBlock = some b → (Value.slice A5 ids.length c5).ownBlock ≠ some b
theorem TwoB.nil (w : World) (base : Nat) : TwoB w base none 0 [] none 0 [] := ⟨OW.nil bo w base, OW.nil nu w base, fun b h => by simp [Value.ownBlock] at h⟩
theorem TwoB.below {w w' : World} {base : Nat} {A4 A5 : Option Addr} {c4 c5 : Nat} {bad : List Bool} {ids : List Int} (h : TwoB w base A4 c4 bad A5 c5 ids) (hb : Below w.heap.size w w') : TwoB w' base A4 c4 bad A5 c5 ids :=
  ⟨h.o4.of hb, h.o5.of hb, h.ne⟩
theorem TwoB.app4 {w w' : World} {base : Nat} {A4 A5 A' : Option Addr} {c4 c5 c' : Nat} {bad lm : List Bool} {ids : List Int} (h : TwoB w base A4 c4 bad A5 c5 ids) (ho : OW bo w' base (.slice A' lm.length c') lm) (hg : w.grownBy w' (Value.slice A4 bad.length c4).ownBlock) (hw : (Value.slice A' lm.length c').ownBlock = (Value.slice A4 bad.length c4).ownBlock ∨ (Value.slice A' lm.length c').ownBlock = some w.heap.size) : TwoB w' base A' c' lm A5 c5 ids := by
  refine ⟨ho, h.o5.keep fun k hk => hg.block k (h.o5.lt hk).2 (fun e => h.ne k e.symm hk), fun b hb e => ?_⟩
  rcases hw with h1 | h1
  · exact h.ne b (h1.symm.trans hb) e
  · rw [h1] at hb; injection hb with hb; have := (h.o5.lt e).2; omega
theorem TwoB.app5 {w w' : World} {base : Nat} {A4 A5 A' : Option Addr} {c4 c5 c' : Nat} {bad : List Bool} {ids lm : List Int} (h : TwoB w base A4 c4 bad A5 c5 ids) (ho : OW nu w' base (.slice A' lm.length c') lm) (hg : w.grownBy w' (Value.slice A5 ids.length c5).ownBlock) (hw : (Value.slice A' lm.length c').ownBlock = (Value.slice A5 ids.length c5).ownBlock ∨ (Value.slice A' lm.length c').ownBlock = some w.heap.size) : TwoB w' base A4 c4 bad A' c' lm := by
  refine ⟨h.o4.keep fun k hk => hg.block k (h.o4.lt hk).2 (fun e => h.ne k hk e.symm), ho, fun b hb e => ?_⟩
  rcases hw with h1 | h1
  · exact h.ne b hb (h1.symm.trans e)
  · rw [h1] at e; injection e with e; have := (h.o4.lt hb).2; omega
theorem TwoB.rb {w : World} {base : Nat} {A4 A5 : Option Addr} {c4 c5 : Nat} {bad : List Bool} {ids : List Int} (h : TwoB w base A4 c4 bad A5 c5 ids) : RB w w.heap.size A4 bad := by
  obtain ⟨A', c', hv, hr, _⟩ := h.o4.shape
  injection hv with e1 e2 e3
  subst e1
  exact rw_rb hr
theorem TwoB.rd {w : World} {base : Nat} {A4 A5 : Option Addr} {c4 c5 : Nat} {bad : List Bool} {ids : List Int} (h : TwoB w base A4 c4 bad A5 c5 ids) : RW nu w w.heap.size A5 ids := h.o5.pw.rw'
/-- What the call says of two rows, in a later world. -/
theorem TwoB.first {w : World} {base : Nat} {A4 A5 : Option Addr} {c4 c5 : Nat} {bad : List Bool} {ids : List Int} (h : TwoB w base A4 c4 bad A5 c5 ids) (hn : ids.length = bad.length) (hl : (bad.length : Int) ≤ 1000000) (x : Bool) (hx : x = true ↔ Good bad ids) :
    ∀ V, Below w.heap.size w V → Calls Try.prog 72 #[.slice A4 bad.length c4, .slice A5 ids.length c5] V fun e w' => (∃ p : Int, e = .returned (.int .i64 p) ∧ decide (p ≥ 0) = !x) ∧ Below V.heap.size V w' :=
  fun _ hV => first_any A4 A5 c4 c5 bad ids hn hl (h.rb.below hV (Nat.le_refl _)) (h.rd.below hV (Nat.le_refl _)) hV.size x hx
end Go.Proofs.Ytijobbdgiaiocaa.Con
