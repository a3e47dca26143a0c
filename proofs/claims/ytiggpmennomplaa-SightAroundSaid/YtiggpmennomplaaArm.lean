/-
  Plain mathematics of Around: the kept tiles of the box are those of the whole map, in the same order.
-/
import Derived.Test.YtiggpmennomplaaArn
import Derived.Test.YtiggpmennomplaaAlk
namespace Go.Proofs.Ytiggpmennomplaa.Arn
open Wlk Con

theorem flat_nil {α β : Type} {g : α → List β} {l : List α} (h : ∀ x ∈ l, g x = []) : l.flatMap g = [] := by
  rw [List.flatMap_eq_nil_iff]
  exact h
theorem filter_map_flat {α β : Type} (p : β → Bool) (f : α → β) (l : List α) : (l.map f).filter p = l.flatMap fun x => if p (f x) = true then [f x] else [] := by
  induction l with
  | nil => rfl
  | cons x l ih =>
    rw [List.map_cons, List.filter_cons, List.flatMap_cons, ih]
    split <;> rfl
theorem range_cut {β : Type} (g : Nat → List β) {n lo m : Nat} (hl : lo + m ≤ n) (h1 : ∀ i, i < lo → g i = []) (h2 : ∀ i, lo + m ≤ i → i < n → g i = []) :
    (List.range n).flatMap g = (List.range m).flatMap fun j => g (lo + j) := by
  obtain ⟨k, rfl⟩ : ∃ k, n = lo + (m + k) := ⟨n - (lo + m), by omega⟩
  rw [List.range_add, List.flatMap_append, flat_nil (l := List.range lo) (fun x hx => h1 x (List.mem_range.1 hx)), List.nil_append, List.range_add, List.map_append, List.flatMap_append]
  rw [flat_nil (l := ((List.range k).map (m + ·)).map (lo + ·)), List.append_nil]
  · rw [List.flatMap_map]
  · intro x hx
    simp only [List.mem_map, List.mem_range] at hx
    obtain ⟨y, ⟨z, hz, rfl⟩, rfl⟩ := hx
    exact h2 _ (by omega) (by omega)
/-- The same between whole numbers: only what lies from lo to hi counts. -/
theorem int_cut {β : Type} (g : Int → List β) {n : Nat} {lo hi : Int} (h0 : 0 ≤ lo) (h1 : hi + 1 ≤ n) (h : ∀ i : Int, 0 ≤ i → i < n → g i ≠ [] → lo ≤ i ∧ i ≤ hi) :
    ((List.range n).flatMap fun (i : Nat) => g (i : Int)) = (List.range (hi + 1 - lo).toNat).flatMap fun (j : Nat) => g (lo + (j : Int)) := by
  by_cases hm : hi + 1 ≤ lo
  · rw [show (hi + 1 - lo).toNat = 0 by omega]
    refine flat_nil fun x hx => ?_
    have hx' := List.mem_range.1 hx
    by_cases e : g (x : Int) = []
    · exact e
    · have := h x (by omega) (by omega) e
      omega
  · rw [range_cut (fun (i : Nat) => g (i : Int)) (n := n) (lo := lo.toNat) (m := (hi + 1 - lo).toNat) (by omega)]
    · congr 1
      funext j
      rw [show ((lo.toNat + j : Nat) : Int) = lo + (j : Int) by omega]
    · intro i hi'
      by_cases e : g (i : Int) = []
      · exact e
      · have := h i (by omega) (by omega) e
        omega
    · intro i h2 h3
      by_cases e : g (i : Int) = []
      · exact e
      · have := h i (by omega) (by omega) e
        omega

/-- The tiles of the whole map, row by row. -/
def allTiles (a : Ask) : List Tile := rowsAt 0 0 a.W.toNat a.H.toNat

theorem near_in {a : Ask} (hr : a.r ≤ 256) {q : Tile} (hk : kept a q = true) : 0 ≤ a.r ∧ far a.px q.1.1 ≤ a.r ∧ far a.py q.1.2 ≤ a.r := by
  unfold kept at hk
  simp only [Bool.and_eq_true] at hk
  have hn := hk.2
  have h0 : 0 ≤ a.r := by
    unfold nearB at hn
    simp only [Bool.and_eq_true, decide_eq_true_eq] at hn
    exact hn.1
  have hs := near_steps h0 (by omega) hn
  unfold stp at hs
  split at hs <;> exact ⟨h0, by omega, by omega⟩
theorem far_le_iff {p x r : Int} (_hx : 0 ≤ x ∧ x ≤ 256) (hr : 0 ≤ r ∧ r ≤ 256) (h : far p x ≤ r) : p - r ≤ x ∧ x ≤ p + r := by
  unfold far held at h
  split at h <;> (split at h <;> (try split at h) <;> omega)

theorem around_all (a : Ask) (hR : rightB a.W a.H a.l.length = true) (hr : a.r ≤ 256) : around a = (allTiles a).filter (kept a) := by
  have hWH : (1 ≤ a.W ∧ a.W ≤ 256) ∧ 1 ≤ a.H ∧ a.H ≤ 256 := by
    unfold rightB at hR
    simp only [Bool.and_eq_true] at hR
    exact ⟨side_in hR.1.1, side_in hR.1.2⟩
  obtain ⟨e1, e2⟩ := ends a hWH.1 hWH.2
  have key : ∀ x y : Int, 0 ≤ x → x < a.W → 0 ≤ y → y < a.H → kept a (tileAt x y) = true → (bL a ≤ x ∧ x ≤ bR a) ∧ bT a ≤ y ∧ y ≤ bB a := by
    intro x y x0 x1 y0 y1 hk
    obtain ⟨r0, f1, f2⟩ := near_in hr hk
    rw [tileAt_eq ⟨⟨x0, by omega⟩, y0, by omega⟩] at f1 f2
    have g1 := far_le_iff (p := a.px) (x := x) (r := a.r) ⟨x0, by omega⟩ ⟨r0, hr⟩ f1
    have g2 := far_le_iff (p := a.py) (x := y) (r := a.r) ⟨y0, by omega⟩ ⟨r0, hr⟩ f2
    have i1 : held (a.px - a.r) = a.px - a.r := held_in ⟨by omega, by omega⟩
    have i2 : held (a.px + a.r) = a.px + a.r := held_in ⟨by omega, by omega⟩
    have i3 : held (a.py - a.r) = a.py - a.r := held_in ⟨by omega, by omega⟩
    have i4 : held (a.py + a.r) = a.py + a.r := held_in ⟨by omega, by omega⟩
    unfold bL bR bT bB
    rw [i1, i2, i3, i4]
    refine ⟨⟨?_, ?_⟩, ?_, ?_⟩ <;> split <;> omega
  have hbR : bR a + 1 ≤ a.W := by unfold bR; split <;> omega
  have hbB : bB a + 1 ≤ a.H := by unfold bB; split <;> omega
  -- a row of the map, filtered, is a row of the box, filtered
  have row : ∀ y : Int, 0 ≤ y → y < a.H → (Con.rowAt 0 y a.W.toNat).filter (kept a) = (Con.rowAt (bL a) y (bR a + 1 - bL a).toNat).filter (kept a) := by
    intro y y0 y1
    unfold Con.rowAt
    rw [filter_map_flat, filter_map_flat]
    simp only [Int.zero_add]
    refine int_cut (fun x => if kept a (tileAt x y) = true then [tileAt x y] else []) e1.1 (by omega) ?_
    intro i i0 i1 hne
    by_cases hk : kept a (tileAt i y) = true
    · exact (key i y i0 (by omega) y0 y1 hk).1
    · rw [if_neg hk] at hne; exact (hne rfl).elim
  unfold around boxed allTiles rowsAt
  rw [List.filter_flatMap, List.filter_flatMap]
  simp only [Int.zero_add]
  have cut := int_cut (fun y => (Con.rowAt (bL a) y (bR a + 1 - bL a).toNat).filter (kept a)) (n := a.H.toNat) (lo := bT a) (hi := bB a) e2.1 (by omega) ?_
  · rw [← cut]
    have e : ∀ l : List Nat, (∀ y ∈ l, y < a.H.toNat) → (l.flatMap fun (y : Nat) => (Con.rowAt (bL a) (y : Int) (bR a + 1 - bL a).toNat).filter (kept a)) = l.flatMap fun (y : Nat) => (Con.rowAt 0 (y : Int) a.W.toNat).filter (kept a) := by
      intro l hl
      induction l with
      | nil => rfl
      | cons y l ih =>
        rw [List.flatMap_cons, List.flatMap_cons, ih (fun z hz => hl z (List.mem_cons_of_mem _ hz)), row y (by omega) (by have := hl y (List.mem_cons_self ..); omega)]
    exact e _ (fun y hy => List.mem_range.1 hy)
  · intro y y0 y1 hne
    obtain ⟨t, ht⟩ := List.exists_mem_of_ne_nil _ hne
    obtain ⟨h1, h2⟩ := List.mem_filter.1 ht
    unfold Con.rowAt at h1
    obtain ⟨j, hj, rfl⟩ := List.mem_map.1 h1
    have hj' := List.mem_range.1 hj
    exact (key (bL a + (j : Int)) y (by omega) (by omega) y0 (by omega) h2).2
end Go.Proofs.Ytiggpmennomplaa.Arn
