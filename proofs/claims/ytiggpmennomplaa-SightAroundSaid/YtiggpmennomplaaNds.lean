/-
  Plain mathematics of lines: they have both ends, are alike both ways, and so is whether one sees; walls more or fewer.
-/
import Derived.Test.YtiggpmennomplaaFir
import Derived.Test.YtiggpmennomplaaSam
import Derived.Test.YtiggpmennomplaaTch
namespace Go.Proofs.Ytiggpmennomplaa.Con
open Go.RowKit Go.Shelf Lin Arn

theorem mem_rows {l t : Int} {m k i j : Nat} (hi : i < k) (hj : j < m) : tileAt (l + (j : Int)) (t + (i : Int)) ∈ rowsAt l t m k := by
  unfold rowsAt rowAt
  rw [List.mem_flatMap]
  exact ⟨i, List.mem_range.2 hi, List.mem_map.2 ⟨j, List.mem_range.2 hj, rfl⟩⟩
theorem of_rows {l t : Int} {m k : Nat} {q : Tile} (h : q ∈ rowsAt l t m k) : ∃ i j : Nat, i < k ∧ j < m ∧ q = tileAt (l + (j : Int)) (t + (i : Int)) := by
  unfold rowsAt rowAt at h
  rw [List.mem_flatMap] at h
  obtain ⟨i, hi, h⟩ := h
  obtain ⟨j, hj, rfl⟩ := List.mem_map.1 h
  exact ⟨i, j, List.mem_range.1 hi, List.mem_range.1 hj, rfl⟩

theorem line_mem {ax ay bx by' x y : Int} (h1 : On ax) (h2 : On ay) (h3 : On bx) (h4 : On by') (hx : lo ax bx ≤ x ∧ x ≤ hi ax bx) (hy : lo ay by' ≤ y ∧ y ≤ hi ay by') (hs : sd ax ay bx by' x y = 0) : tileAt x y ∈ lineL ax ay bx by' := by
  have i1 := lo_in h1 h3
  have i2 := lo_in h2 h4
  unfold lineL
  rw [List.mem_filter]
  refine ⟨?_, ?_⟩
  · have := mem_rows (l := lo ax bx) (t := lo ay by') (m := span ax bx) (k := span ay by') (i := (y - lo ay by').toNat) (j := (x - lo ax bx).toNat) (by unfold span; omega) (by unfold span; omega)
    rwa [show lo ax bx + ((x - lo ax bx).toNat : Int) = x by omega, show lo ay by' + ((y - lo ay by').toNat : Int) = y by omega] at this
  · rw [touch_at (by omega), hs]; rfl
/-- A tile of the line lies between both. -/
theorem line_of {ax ay bx by' : Int} (h1 : On ax) (h2 : On ay) (h3 : On bx) (h4 : On by') {q : Tile} (h : q ∈ lineL ax ay bx by') : (lo ax bx ≤ q.1.1 ∧ q.1.1 ≤ hi ax bx) ∧ lo ay by' ≤ q.1.2 ∧ q.1.2 ≤ hi ay by' := by
  have i1 := lo_in h1 h3
  have i2 := lo_in h2 h4
  unfold lineL at h
  obtain ⟨i, j, hi', hj, rfl⟩ := of_rows (List.mem_filter.1 h).1
  unfold span at hi' hj
  rw [tileAt_eq (by omega)]
  dsimp only
  omega
theorem has_of {l : List Tile} {x y : Int} (hxy : (0 ≤ x ∧ x ≤ 256) ∧ 0 ≤ y ∧ y ≤ 256) (h : tileAt x y ∈ l) : hasB l x y = true := List.any_eq_true.2 ⟨_, h, by rw [tileAt_eq hxy]; simp⟩
theorem has_mem {l : List Tile} {q : Tile} (h : q ∈ l) : hasB l q.1.1 q.1.2 = true := List.any_eq_true.2 ⟨_, h, by simp⟩
theorem lo_hi (a b : Int) : (lo a b ≤ a ∧ a ≤ hi a b) ∧ lo a b ≤ b ∧ b ≤ hi a b := by unfold lo hi; split <;> omega
theorem line_a {ax ay bx by' : Int} (h1 : On ax) (h2 : On ay) (h3 : On bx) (h4 : On by') : hasB (lineL ax ay bx by') ax ay = true := by
  have e1 := lo_hi ax bx
  have e2 := lo_hi ay by'
  refine has_of ⟨h1, h2⟩ (line_mem h1 h2 h3 h4 e1.1 e2.1 (sd_zero.2 ?_))
  have h : off ax ay bx by' ax ay = 0 := by unfold off; grind
  have := most_nonneg ax ay bx by'
  omega
theorem line_b {ax ay bx by' : Int} (h1 : On ax) (h2 : On ay) (h3 : On bx) (h4 : On by') : hasB (lineL ax ay bx by') bx by' = true := by
  have e1 := lo_hi ax bx
  have e2 := lo_hi ay by'
  refine has_of ⟨h3, h4⟩ (line_mem h1 h2 h3 h4 e1.2 e2.2 (sd_zero.2 ?_))
  have h : off ax ay bx by' bx by' = 0 := by unfold off; grind
  have := most_nonneg ax ay bx by'
  omega

theorem both_comm (W H : Int) (n : Nat) (ax ay bx by' : Int) : bothB W H n bx by' ax ay = bothB W H n ax ay bx by' := Bool.and_comm _ _
theorem lineG_comm (W H : Int) (n : Nat) (ax ay bx by' : Int) : lineG W H n bx by' ax ay = lineG W H n ax ay bx by' := by unfold lineG; rw [both_comm, lineL_comm]
theorem wcond_comm (W H : Int) (l : List Bool) (ax ay bx by' : Int) : wcond W H l bx by' ax ay = wcond W H l ax ay bx by' := by
  funext q; unfold wcond; rw [Bool.and_comm (!(decide (q.1.1 = bx) && decide (q.1.2 = by')))]
theorem walls_comm (W H : Int) (l : List Bool) (ax ay bx by' : Int) : wallsL W H l bx by' ax ay = wallsL W H l ax ay bx by' := by unfold wallsL; rw [lineL_comm, wcond_comm]
theorem sees_comm (W H : Int) (l : List Bool) (ax ay bx by' : Int) : seesB W H l bx by' ax ay = seesB W H l ax ay bx by' := by unfold seesB; rw [both_comm, walls_comm]

/-- A tile of the line of two tiles of a grid is one of it. -/
theorem line_inB {W H : Int} {n : Nat} {ax ay bx by' : Int} (h : bothB W H n ax ay bx by' = true) {q : Tile} (hq : q ∈ lineL ax ay bx by') : inB W H n q.1.1 q.1.2 = true := by
  have hin := both_in h
  unfold bothB at h
  rw [Bool.and_eq_true] at h
  have ha := at_in h.1
  have hb := at_in h.2
  have hl := line_of hin.1.1 hin.1.2 hin.2.1 hin.2.2 hq
  have hr : rightB W H n = true := by
    have := h.1
    unfold inB at this
    simp only [Bool.and_eq_true] at this
    exact this.1.1.1.1
  unfold inB
  rw [hr]
  unfold lo hi at hl
  simp only [Bool.true_and, Bool.and_eq_true, decide_eq_true_eq]
  split at hl <;> split at hl <;> omega

/-- Where nothing is a wall one sees. -/
theorem sees_open {W H : Int} {l : List Bool} {ax ay bx by' : Int} (h : bothB W H l.length ax ay bx by' = true) (ho : ∀ i, l.getD i false = false) : seesB W H l ax ay bx by' = true := by
  unfold seesB
  rw [h, Bool.true_and, List.isEmpty_iff]
  unfold wallsL
  rw [List.filter_eq_nil_iff]
  intro q hq
  unfold wcond wallB
  rw [line_inB h hq, ho]
  simp
/-- A wall more hides no less. -/
theorem wall_more {W H : Int} {l m : List Bool} (hn : m.length = l.length) (hm : ∀ i, l.getD i false = true → m.getD i false = true) {x y : Int} (h : wallB W H l x y = true) : wallB W H m x y = true := by
  unfold wallB at h ⊢
  rw [hn]
  cases hi : inB W H l.length x y with
  | false => rfl
  | true =>
    rw [hi] at h
    exact hm _ h
theorem sees_more {W H : Int} {l m : List Bool} {ax ay bx by' : Int} (hn : m.length = l.length) (hm : ∀ i, l.getD i false = true → m.getD i false = true) (h : seesB W H m ax ay bx by' = true) : seesB W H l ax ay bx by' = true := by
  unfold seesB at h ⊢
  rw [hn, Bool.and_eq_true, List.isEmpty_iff] at h
  rw [h.1, Bool.true_and, List.isEmpty_iff]
  have h2 := h.2
  unfold wallsL at h2 ⊢
  rw [List.filter_eq_nil_iff] at h2 ⊢
  intro q hq hc
  refine h2 q hq ?_
  unfold wcond at hc ⊢
  simp only [Bool.and_eq_true] at hc ⊢
  exact ⟨hc.1, wall_more hn hm hc.2⟩
theorem sees_self {W H : Int} {l : List Bool} {ax ay : Int} (h : inB W H l.length ax ay = true) : seesB W H l ax ay ax ay = true := by
  have hb : bothB W H l.length ax ay ax ay = true := by unfold bothB; rw [h]; rfl
  have hin := both_in hb
  unfold seesB
  rw [hb, Bool.true_and, List.isEmpty_iff]
  unfold wallsL
  rw [List.filter_eq_nil_iff]
  intro q hq
  have hl := line_of hin.1.1 hin.1.2 hin.2.1 hin.2.2 hq
  unfold lo hi at hl
  simp only [Int.le_refl, if_true] at hl
  have e1 : q.1.1 = ax := by omega
  have e2 : q.1.2 = ay := by omega
  unfold wcond
  rw [e1, e2]
  simp

theorem best_some (ax ay : Int) (l : List Tile) (o : Option Tile) (ho : o.isSome = true) : (l.foldl (stepB ax ay) o).isSome = true := by
  induction l generalizing o with
  | nil => exact ho
  | cons q r ih =>
    refine ih _ ?_
    cases o with
    | none => cases ho
    | some p => unfold stepB; dsimp only; split <;> rfl
theorem best_isSome (ax ay : Int) (l : List Tile) : (bestB ax ay l).isSome = !l.isEmpty := by
  cases l with
  | nil => rfl
  | cons q r => exact best_some ax ay r (some q) rfl
theorem best_mem_of (ax ay : Int) (l : List Tile) (o : Option Tile) {p : Tile} (h : l.foldl (stepB ax ay) o = some p) : p ∈ l ∨ o = some p := by
  induction l generalizing o with
  | nil => exact .inr h
  | cons q r ih =>
    rcases ih _ h with h | h
    · exact .inl (List.mem_cons_of_mem _ h)
    · cases o with
      | none => unfold stepB at h; dsimp only at h; injection h with h; subst h; exact .inl (List.mem_cons_self ..)
      | some s =>
        unfold stepB at h
        dsimp only at h
        split at h
        · injection h with h; subst h; exact .inl (List.mem_cons_self ..)
        · exact .inr h
theorem best_mem {ax ay : Int} {l : List Tile} {p : Tile} (h : bestB ax ay l = some p) : p ∈ l := by
  rcases best_mem_of ax ay l none h with h | h
  · exact h
  · cases h
/-- First tells a wall just where one does not see. -/
theorem first_sees {W H : Int} {l : List Bool} {ax ay bx by' : Int} (h : bothB W H l.length ax ay bx by' = true) : (firstB W H l ax ay bx by').isSome = !seesB W H l ax ay bx by' := by
  unfold firstB seesB
  rw [if_pos h, h, Bool.true_and, best_isSome]
theorem first_is {W H : Int} {l : List Bool} {ax ay bx by' : Int} (h : bothB W H l.length ax ay bx by' = true) {p : Tile} (hp : firstB W H l ax ay bx by' = some p) :
    wallB W H l p.1.1 p.1.2 = true ∧ hasB (lineG W H l.length ax ay bx by') p.1.1 p.1.2 = true ∧ ¬ (p.1.1 = ax ∧ p.1.2 = ay) ∧ ¬ (p.1.1 = bx ∧ p.1.2 = by') := by
  unfold firstB at hp
  rw [if_pos h] at hp
  have hm := best_mem hp
  unfold wallsL at hm
  rw [List.mem_filter] at hm
  obtain ⟨h1, h2⟩ := hm
  unfold wcond at h2
  simp only [Bool.and_eq_true, Bool.not_eq_true', Bool.and_eq_false_iff, decide_eq_false_iff_not] at h2
  refine ⟨h2.2, ?_, ?_, ?_⟩
  · unfold lineG; rw [if_pos h]; exact has_mem h1
  · rintro ⟨e1, e2⟩
    rcases h2.1.1 with k | k
    · exact k e1
    · exact k e2
  · rintro ⟨e1, e2⟩
    rcases h2.1.2 with k | k
    · exact k e1
    · exact k e2
theorem lineG_few {W H : Int} {n : Nat} {ax ay bx by' : Int} : (lineG W H n ax ay bx by').length ≤ 66049 := by
  unfold lineG
  split
  · next h =>
    have hin := both_in h
    obtain ⟨px, py, qx, qy, g, hl, _⟩ := line_any hin.1.1 hin.1.2 hin.2.1 hin.2.2
    rw [← hl]
    exact line_few g
  · simp
end Go.Proofs.Ytiggpmennomplaa.Con
