/-
  Plain mathematics of straight walks: where one is after k steps, the path, and the walk that stops ahead of a wall.
-/
import Derived.Test.YtiggpmennomplaaGrd
namespace Go.Proofs.Ytiggpmennomplaa.Wlk
open Con

/-- Where one is on a line after k steps from a toward b. -/
def it (b : Int) (k : Nat) (a : Int) : Int := if a ≤ b then (if a + k ≤ b then a + k else b) else (if b ≤ a - k then a - k else b)
def dist (ax ay bx by' : Int) : Nat := if (bx - ax).natAbs ≤ (by' - ay).natAbs then (by' - ay).natAbs else (bx - ax).natAbs
def pos (ax ay bx by' : Int) (k : Nat) : Int × Int := (it bx k ax, it by' k ay)

theorem it_zero (b a : Int) : it b 0 a = a := by unfold it; split <;> split <;> omega
theorem it_succ (b a : Int) (k : Nat) : it b (k + 1) a = nxt (it b k a) b := by
  unfold it nxt; split <;> split <;> (try split) <;> (try split) <;> (try split) <;> omega
theorem it_in (b a : Int) (k : Nat) {lo hi : Int} (h1 : lo ≤ a) (h2 : a ≤ hi) (h3 : lo ≤ b) (h4 : b ≤ hi) : lo ≤ it b k a ∧ it b k a ≤ hi := by
  unfold it; split <;> split <;> omega
theorem it_left (b a : Int) (k : Nat) : (b - it b k a).natAbs = (b - a).natAbs - k := by unfold it; split <;> split <;> omega
theorem it_gone (b a : Int) (k : Nat) : (it b k a - a).natAbs = if k ≤ (b - a).natAbs then k else (b - a).natAbs := by unfold it; split <;> split <;> split <;> omega

theorem pos_zero (ax ay bx by' : Int) : pos ax ay bx by' 0 = (ax, ay) := by unfold pos; rw [it_zero, it_zero]
theorem pos_succ (ax ay bx by' : Int) (k : Nat) : pos ax ay bx by' (k + 1) = (nxt (pos ax ay bx by' k).1 bx, nxt (pos ax ay bx by' k).2 by') := by unfold pos; rw [it_succ, it_succ]
theorem pos_end {ax ay bx by' : Int} {k : Nat} (h : dist ax ay bx by' ≤ k) : pos ax ay bx by' k = (bx, by') := by
  have h1 := it_left bx ax k
  have h2 := it_left by' ay k
  unfold dist at h
  unfold pos
  rw [Prod.mk.injEq]
  split at h <;> constructor <;> omega
theorem pos_ne {ax ay bx by' : Int} {k : Nat} (h : k < dist ax ay bx by') : ¬ (it bx k ax = bx ∧ it by' k ay = by') := by
  have h1 := it_left bx ax k
  have h2 := it_left by' ay k
  unfold dist at h
  rintro ⟨e1, e2⟩
  split at h <;> omega

/-- The tiles of a walk, but the first. -/
def path (ax ay bx by' : Int) : List (Int × Int) := (List.range (dist ax ay bx by')).map fun i => pos ax ay bx by' (i + 1)
theorem path_len (ax ay bx by' : Int) : (path ax ay bx by').length = dist ax ay bx by' := by simp [path]
theorem path_take {ax ay bx by' : Int} {k : Nat} (h : k < dist ax ay bx by') : (path ax ay bx by').take (k + 1) = (path ax ay bx by').take k ++ [pos ax ay bx by' (k + 1)] := by
  rw [List.take_succ_eq_append_getElem (by rw [path_len]; exact h)]
  simp [path]
theorem path_last {ax ay bx by' : Int} {k : Nat} (h : k ≤ dist ax ay bx by') : ((path ax ay bx by').take k).getLastD (ax, ay) = pos ax ay bx by' k := by
  cases k with
  | zero => simp [pos_zero]
  | succ k => rw [path_take (by omega)]; simp
theorem path_mem {ax ay bx by' : Int} {k i : Nat} (h : k ≤ dist ax ay bx by') (hi : i < k) : pos ax ay bx by' (i + 1) ∈ (path ax ay bx by').take k := by
  rw [List.mem_iff_getElem?]
  exact ⟨i, by rw [List.getElem?_take_of_lt hi]; simp [path, List.getElem?_range (show i < dist ax ay bx by' by omega)]⟩

/-- The walk: at most n steps toward the goal, ahead of the first wall. -/
def tw (wl : Int × Int → Bool) (g : Int × Int) : Nat → Int × Int → Int × Int
  | 0, p => p
  | n + 1, p => if p = g then p else if wl (nxt p.1 g.1, nxt p.2 g.2) = true then p else tw wl g n (nxt p.1 g.1, nxt p.2 g.2)

theorem tw_goal (wl : Int × Int → Bool) (g : Int × Int) (n : Nat) : tw wl g n g = g := by cases n <;> simp [tw]
theorem tw_wall {wl : Int × Int → Bool} {g p : Int × Int} (h : wl (nxt p.1 g.1, nxt p.2 g.2) = true) (n : Nat) : tw wl g n p = p := by cases n <;> simp [tw, h]
theorem tw_step {wl : Int × Int → Bool} {g p : Int × Int} (h : wl (nxt p.1 g.1, nxt p.2 g.2) = false) (hp : p ≠ g) (n : Nat) : tw wl g (n + 1) p = tw wl g n (nxt p.1 g.1, nxt p.2 g.2) := by simp [tw, h, hp]
theorem tw_add (wl : Int × Int → Bool) (g : Int × Int) (n m : Nat) (p : Int × Int) : tw wl g (n + m) p = tw wl g m (tw wl g n p) := by
  induction n generalizing p with
  | zero => simp [tw]
  | succ n ih =>
    by_cases hp : p = g
    · subst hp; rw [tw_goal, tw_goal, tw_goal]
    · cases hw : wl (nxt p.1 g.1, nxt p.2 g.2) with
      | true => rw [tw_wall hw, tw_wall hw, tw_wall hw]
      | false => rw [show n + 1 + m = (n + m) + 1 by omega, tw_step hw hp, tw_step hw hp, ih]

theorem tw_along {wl : Int × Int → Bool} {ax ay bx by' : Int} {k n : Nat} (hk : k ≤ dist ax ay bx by') (hn : k ≤ n) (hw : ∀ i, i < k → wl (pos ax ay bx by' (i + 1)) = false) :
    tw wl (bx, by') n (ax, ay) = tw wl (bx, by') (n - k) (pos ax ay bx by' k) := by
  induction k with
  | zero => rw [pos_zero]; rfl
  | succ k ih =>
    rw [ih (by omega) (by omega) (fun i hi => hw i (by omega))]
    have h1 := hw k (by omega)
    have h2 := pos_succ ax ay bx by' k
    rw [h2] at h1 ⊢
    rw [show n - k = (n - (k + 1)) + 1 by omega]
    refine tw_step h1 (fun e => pos_ne (ax := ax) (ay := ay) (bx := bx) (by' := by') (k := k) (by omega) ?_) _
    unfold pos at e
    rw [Prod.mk.injEq] at e
    exact e

/-- Where a walk of n steps ends: after j steps. -/
theorem tw_ends (wl : Int × Int → Bool) (ax ay bx by' : Int) (n : Nat) :
    ∃ j, j ≤ n ∧ j ≤ dist ax ay bx by' ∧ tw wl (bx, by') n (ax, ay) = pos ax ay bx by' j ∧ (∀ i, i < j → wl (pos ax ay bx by' (i + 1)) = false) ∧
      (j = n ∨ j = dist ax ay bx by' ∨ wl (pos ax ay bx by' (j + 1)) = true) := by
  induction n with
  | zero => exact ⟨0, by omega, by omega, by rw [pos_zero]; rfl, fun i hi => by omega, .inl rfl⟩
  | succ n ih =>
    obtain ⟨j, h1, h2, h3, h4, h5⟩ := ih
    have h6 := tw_along (n := n + 1) h2 (by omega) h4
    by_cases hd : j = dist ax ay bx by'
    · refine ⟨j, by omega, h2, ?_, h4, .inr (.inl hd)⟩
      rw [h6, pos_end (by omega), tw_goal]
    · cases hw : wl (pos ax ay bx by' (j + 1)) with
      | true =>
        refine ⟨j, by omega, h2, ?_, h4, .inr (.inr hw)⟩
        rw [h6]
        rw [pos_succ] at hw
        exact tw_wall hw _
      | false =>
        have hj : j = n := by
          rcases h5 with h | h | h
          · exact h
          · exact (hd h).elim
          · rw [hw] at h; cases h
        subst hj
        have h4' : ∀ i, i < j + 1 → wl (pos ax ay bx by' (i + 1)) = false := fun i hi => by
          by_cases e : i = j
          · subst e; exact hw
          · exact h4 i (by omega)
        refine ⟨j + 1, by omega, by omega, ?_, h4', .inl rfl⟩
        rw [tw_along (k := j + 1) (n := j + 1) (by omega) (by omega) h4', Nat.sub_self]
        rfl
end Go.Proofs.Ytiggpmennomplaa.Wlk
