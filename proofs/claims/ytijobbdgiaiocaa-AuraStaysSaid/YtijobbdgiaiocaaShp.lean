/-
  What shields take away, and hundredths more, as plain mathematics. No memory, no program.
-/
import Derived.Test.YtijobbdgiaiocaaKnd
import Derived.Test.YtijobbdgiaiocaaCon
import Derived.Test.YtijobbdgiaiocaaBmx
namespace Go.Proofs.Ytijobbdgiaiocaa.Con

/-- The sum of what is left, held. -/
def leftI (l : List Sh) : Int := l.foldl (fun n x => held (n + mx x.left 0)) 0
theorem sleft_next {l : List Sh} {k : Nat} {x : Sh} (h : l[k]? = some x) : leftI (l.take (k + 1)) = held (leftI (l.take k) + mx x.left 0) := by
  unfold leftI
  rw [List.take_add_one, List.foldl_append, h]
  rfl
theorem left_fits (l : List Sh) : Fits (leftI l) := by
  have key : ∀ (l : List Sh) (n : Int), Fits n → Fits (l.foldl (fun n x => held (n + mx x.left 0)) n) := by
    intro l
    induction l with
    | nil => intro n h; exact h
    | cons x r ih => intro n _; exact ih _ (held_fits _)
  exact key l 0 ⟨by omega, by omega⟩

/-- What one shield takes: those that are left, what is left of n, the Auras of those that are gone. -/
def stp (s : List Sh × Int × List Int) (x : Sh) : List Sh × Int × List Int :=
  if s.2.1 < x.left then (s.1 ++ [⟨x.aura, x.left - s.2.1⟩], 0, s.2.2) else (s.1, (if 0 < x.left then s.2.1 - x.left else s.2.1), s.2.2 ++ [x.aura])
def run (l : List Sh) (n : Int) : List Sh × Int × List Int := l.foldl stp ([], n, [])
theorem run_zero (l : List Sh) (n : Int) : run (l.take 0) n = ([], n, []) := rfl
theorem run_next {l : List Sh} {k : Nat} {x : Sh} (h : l[k]? = some x) (n : Int) : run (l.take (k + 1)) n = stp (run (l.take k) n) x := by
  unfold run
  rw [List.take_add_one, List.foldl_append, h]
  rfl
theorem run_more {l : List Sh} {k : Nat} {x : Sh} (h : l[k]? = some x) (n : Int) {L : List Sh} {m : Int} {G : List Int} (hs : run (l.take k) n = (L, m, G)) (hm : m < x.left) : run (l.take (k + 1)) n = (L ++ [⟨x.aura, x.left - m⟩], 0, G) := by
  rw [run_next h, hs]; unfold stp; rw [if_pos hm]
theorem run_less {l : List Sh} {k : Nat} {x : Sh} (h : l[k]? = some x) (n : Int) {L : List Sh} {m : Int} {G : List Int} (hs : run (l.take k) n = (L, m, G)) (hm : ¬ m < x.left) (hp : 0 < x.left) : run (l.take (k + 1)) n = (L, m - x.left, G ++ [x.aura]) := by
  rw [run_next h, hs]; unfold stp; rw [if_neg hm]; simp only [hp, if_true]
theorem run_none {l : List Sh} {k : Nat} {x : Sh} (h : l[k]? = some x) (n : Int) {L : List Sh} {m : Int} {G : List Int} (hs : run (l.take k) n = (L, m, G)) (hm : ¬ m < x.left) (hp : ¬ 0 < x.left) : run (l.take (k + 1)) n = (L, m, G ++ [x.aura]) := by
  rw [run_next h, hs]; unfold stp; rw [if_neg hm]; simp only [hp, if_false]

/-- What holds of the three along the way. -/
structure Way (n : Int) (p : List Sh) (L : List Sh) (m : Int) (G : List Int) : Prop where
  lo : 0 ≤ m
  hi : m ≤ n
  len : L.length + G.length = p.length
theorem Way.step {n : Int} {p : List Sh} {s : List Sh × Int × List Int} {x : Sh} (h : Way n p s.1 s.2.1 s.2.2) : Way n (p ++ [x]) (stp s x).1 (stp s x).2.1 (stp s x).2.2 := by
  obtain ⟨h1, h2, h3⟩ := h
  unfold stp
  split
  · exact ⟨by simp, by simp; omega, by simp; omega⟩
  · refine ⟨?_, ?_, by simp; omega⟩ <;> (simp only; split <;> omega)
theorem way_run (n : Int) (hn : 0 ≤ n) : ∀ (l p : List Sh) (s : List Sh × Int × List Int), Way n p s.1 s.2.1 s.2.2 → Way n (p ++ l) (l.foldl stp s).1 (l.foldl stp s).2.1 (l.foldl stp s).2.2
  | [], p, s, h => by simpa using h
  | x :: r, p, s, h => by
    have := way_run n hn r (p ++ [x]) (stp s x) h.step
    simpa using this
theorem way (n : Int) (hn : 0 ≤ n) (l : List Sh) : Way n l (run l n).1 (run l n).2.1 (run l n).2.2 := by
  have := way_run n hn l [] ([], n, []) ⟨hn, Int.le_refl _, rfl⟩
  simpa [run] using this
theorem way_at {n : Int} (hn : 0 ≤ n) {l : List Sh} {k : Nat} {L : List Sh} {m : Int} {G : List Int} (hs : run (l.take k) n = (L, m, G)) (hk : k ≤ l.length) : 0 ≤ m ∧ m ≤ n ∧ L.length + G.length = k := by
  have := way n hn (l.take k)
  rw [hs] at this
  exact ⟨this.lo, this.hi, by rw [this.len, List.length_take]; omega⟩

/-- What Take answers. -/
def takeI (l : List Sh) (n : Int) : List Sh × Int × List Int := if n < 1 then (l, 0, []) else run l n
theorem take_low {l : List Sh} {n : Int} (h : n < 1) : takeI l n = (l, 0, []) := by unfold takeI; rw [if_pos h]
theorem take_high {l : List Sh} {n : Int} (h : ¬ n < 1) : takeI l n = run l n := by unfold takeI; rw [if_neg h]
theorem take_len (l : List Sh) (n : Int) : (takeI l n).1.length + (takeI l n).2.2.length = l.length := by
  by_cases h : n < 1
  · rw [take_low h]; simp
  · rw [take_high h]; exact (way n (by omega) l).len

/-! ### amounts: the sums are plain -/
def Amts (l : List Sh) : Prop := ∀ x ∈ l, 0 ≤ x.left ∧ x.left ≤ 1000000
def plain (l : List Sh) : Int := (l.map Sh.left).sum
theorem plain_app (l m : List Sh) : plain (l ++ m) = plain l + plain m := by simp [plain]
theorem plain_bound {l : List Sh} (h : Amts l) : 0 ≤ plain l ∧ plain l ≤ l.length * 1000000 := by
  induction l with
  | nil => simp [plain]
  | cons x r ih =>
    have hx := h x (by simp)
    have hr := ih (fun y hy => h y (by simp [hy]))
    have e : plain (x :: r) = x.left + plain r := by simp [plain]
    rw [e, List.length_cons]
    omega
theorem left_plain {l : List Sh} (h : Amts l) (hl : l.length ≤ 200) : leftI l = plain l := by
  have key : ∀ k, k ≤ l.length → leftI (l.take k) = plain (l.take k) := by
    intro k
    induction k with
    | zero => intro _; rfl
    | succ k ih =>
      intro hk
      obtain ⟨x, hx⟩ : ∃ x, l[k]? = some x := ⟨_, List.getElem?_eq_getElem hk⟩
      have hxm : x ∈ l := List.mem_of_getElem? hx
      rw [sleft_next hx, ih (by omega)]
      have hb := plain_bound (l := l.take k) (fun y hy => h y (List.mem_of_mem_take hy))
      have hb2 := h x hxm
      have hlen : (l.take k).length ≤ 200 := by rw [List.length_take]; omega
      have e : plain (l.take (k + 1)) = plain (l.take k) + x.left := by
        rw [List.take_add_one, plain_app, hx]; simp [plain]
      have e2 : mx x.left 0 = x.left := by unfold mx; split <;> omega
      rw [e, e2]
      exact held_in ⟨by omega, by omega⟩
  have := key l.length (Nat.le_refl _)
  rwa [List.take_of_length_le (Nat.le_refl _)] at this
/-- What holds of sums along the way. -/
structure Sum (n : Int) (p : List Sh) (L : List Sh) (m : Int) : Prop where
  lo : 0 ≤ m
  amt : Amts L
  sum : plain p - plain L = n - m
  one : m = 0 ∨ L = []
theorem Sum.step {n : Int} {p : List Sh} {s : List Sh × Int × List Int} {x : Sh} (h : Sum n p s.1 s.2.1) (hx : 0 ≤ x.left ∧ x.left ≤ 1000000) : Sum n (p ++ [x]) (stp s x).1 (stp s x).2.1 := by
  obtain ⟨h1, h2, h3, h4⟩ := h
  have e : plain (p ++ [x]) = plain p + x.left := by rw [plain_app]; simp [plain]
  unfold stp
  split
  · refine ⟨by simp, fun y hy => ?_, ?_, .inl rfl⟩
    · rcases List.mem_append.1 hy with hy | hy
      · exact h2 y hy
      · simp at hy; subst hy; simp only; omega
    · have e2 : plain (s.1 ++ [⟨x.aura, x.left - s.2.1⟩]) = plain s.1 + (x.left - s.2.1) := by rw [plain_app]; simp [plain]
      simp only
      rw [e, e2]; omega
  · refine ⟨?_, h2, ?_, ?_⟩
    · simp only; split <;> omega
    · simp only; rw [e]; split <;> omega
    · simp only
      rcases h4 with h4 | h4
      · left; split <;> omega
      · exact .inr h4
theorem sum_run (n : Int) : ∀ (l p : List Sh) (s : List Sh × Int × List Int), Amts l → Sum n p s.1 s.2.1 → Sum n (p ++ l) (l.foldl stp s).1 (l.foldl stp s).2.1
  | [], p, s, _, h => by simpa using h
  | x :: r, p, s, ha, h => by
    have := sum_run n r (p ++ [x]) (stp s x) (fun y hy => ha y (by simp [hy])) (h.step (ha x (by simp)))
    simpa using this
/-- The law's own words. -/
theorem sums {l : List Sh} {n : Int} (ha : Amts l) (hl : l.length ≤ 200) (h0 : 0 ≤ n) {L : List Sh} {m : Int} {G : List Int} (e : takeI l n = (L, m, G)) :
    0 ≤ m ∧ m ≤ n ∧ leftI l - leftI L = n - m ∧ (m = 0 ∨ leftI L = 0) ∧ L.length + G.length = l.length ∧ 0 ≤ leftI L ∧ leftI L ≤ 200000000 ∧ 0 ≤ leftI l ∧ leftI l ≤ 200000000 := by
  have hlen := take_len l n
  rw [e] at hlen
  have hLl : L.length ≤ 200 := by simp only at hlen; omega
  have hb := plain_bound ha
  by_cases h : n < 1
  · rw [take_low h] at e
    injection e with e1 e2
    injection e2 with e2 e3
    subst e1; subst e2
    rw [left_plain ha hl]
    exact ⟨by omega, by omega, by omega, .inl rfl, hlen, by omega, by omega, by omega, by omega⟩
  · rw [take_high h] at e
    have hs := sum_run n l [] ([], n, []) ha ⟨h0, by simp [Amts], by simp [plain], .inr rfl⟩
    have hw := way n h0 l
    rw [e] at hw
    have e' : l.foldl stp ([], n, []) = (L, m, G) := e
    rw [e'] at hs
    simp at hs
    have hb2 := plain_bound hs.amt
    rw [left_plain ha hl, left_plain hs.amt hLl]
    refine ⟨hs.lo, hw.hi, hs.sum, ?_, hlen, by omega, by omega, by omega, by omega⟩
    rcases hs.one with h1 | h1
    · exact .inl h1
    · right; rw [h1]; rfl
open Go.RowKit Go.Maps in
theorem below_box (w : World) (o : Obj) : Below w.heap.size w (w.alloc o) := (Below.refl _ w).alloc (Nat.le_refl _) o
end Go.Proofs.Ytijobbdgiaiocaa.Con
