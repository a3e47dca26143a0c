/-
  Plain mathematics of fair draws: what the document's words ask of Fair, Pick and Deal, over lists of integers; nothing of the program.
-/
namespace Go.Proofs.Ytieohegflcfnaaa.Mth

/-- Is it no word? -/
def noWord (x : Int) : Bool := decide (x < 0) || decide (4294967296 ≤ x)

theorem noWord_true {x : Int} (h : x < 0 ∨ 4294967296 ≤ x) : noWord x = true := by
  unfold noWord; rcases h with h | h <;> simp [h]
theorem noWord_false {x : Int} (h0 : 0 ≤ x) (h1 : x < 4294967296) : noWord x = false := by
  unfold noWord; simp; omega
theorem of_noWord_true {x : Int} (h : noWord x = true) : x < 0 ∨ 4294967296 ≤ x := by
  unfold noWord at h; simpa using h
theorem of_noWord_false {x : Int} (h : noWord x = false) : 0 ≤ x ∧ x < 4294967296 := by
  unfold noWord at h; simp at h; omega

/-- The first word below lim, and how many are used. -/
def seek (n lim : Int) : List Int → Nat → Option (Int × Nat)
  | [], _ => none
  | x :: r, i => if noWord x = true then none else if x < lim then some (x % n, i + 1) else seek n lim r (i + 1)

/-- A fair draw below n: the draw and how many words it uses. -/
def fair (l : List Int) (n : Int) : Option (Int × Nat) :=
  if n < 1 ∨ 4294967296 < n then none else seek n (4294967296 - 4294967296 % n) l 0

def dr : Option (Int × Nat) → Int
  | some (d, _) => d
  | none => 0
def us : Option (Int × Nat) → Nat
  | some (_, u) => u
  | none => 0
def ok : Option (Int × Nat) → Bool
  | some _ => true
  | none => false

theorem drop_at {l : List Int} {k : Nat} {x : Int} (h : l[k]? = some x) : l.drop k = x :: l.drop (k + 1) := by
  obtain ⟨hk, rfl⟩ := List.getElem?_eq_some_iff.1 h
  exact List.drop_eq_getElem_cons hk

theorem seek_end {n lim : Int} {l : List Int} {k : Nat} (h : l.length ≤ k) : seek n lim (l.drop k) k = none := by
  rw [List.drop_eq_nil_of_le h]; rfl
theorem seek_no {n lim : Int} {l : List Int} {k : Nat} {x : Int} (h : l[k]? = some x) (hx : noWord x = true) : seek n lim (l.drop k) k = none := by
  rw [drop_at h]; simp [seek, hx]
theorem seek_hit {n lim : Int} {l : List Int} {k : Nat} {x : Int} (h : l[k]? = some x) (hx : noWord x = false) (hl : x < lim) : seek n lim (l.drop k) k = some (x % n, k + 1) := by
  rw [drop_at h]; simp [seek, hx, hl]
theorem seek_next {n lim : Int} {l : List Int} {k : Nat} {x : Int} (h : l[k]? = some x) (hx : noWord x = false) (hl : ¬ x < lim) : seek n lim (l.drop k) k = seek n lim (l.drop (k + 1)) (k + 1) := by
  rw [drop_at h]; simp [seek, hx, hl]

theorem seek_some {n lim : Int} (hn : 1 ≤ n) {l : List Int} {i : Nat} {d : Int} {u : Nat} (h : seek n lim l i = some (d, u)) : 0 ≤ d ∧ d < n ∧ i + 1 ≤ u ∧ u ≤ i + l.length := by
  induction l generalizing i with
  | nil => simp [seek] at h
  | cons x r ih =>
    unfold seek at h
    split at h
    · cases h
    · split at h
      · injection h with h
        injection h with h1 h2
        subst h1; subst h2
        refine ⟨Int.emod_nonneg _ (by omega), Int.emod_lt_of_pos _ (by omega), by omega, by simp⟩
      · have := ih h
        simp only [List.length_cons]
        omega

theorem fair_some {l : List Int} {n d : Int} {u : Nat} (h : fair l n = some (d, u)) : 1 ≤ n ∧ n ≤ 4294967296 ∧ 0 ≤ d ∧ d < n ∧ 1 ≤ u ∧ u ≤ l.length := by
  unfold fair at h
  split at h
  · cases h
  · have := seek_some (by omega) h
    omega
theorem us_le (l : List Int) (n : Int) : us (fair l n) ≤ l.length := by
  rcases h : fair l n with _ | ⟨d, u⟩
  · exact Nat.zero_le _
  · exact (fair_some h).2.2.2.2.2

/-- The first place of what is no word, or -1. -/
def ix : List Int → Nat → Int
  | [], _ => -1
  | x :: r, k => if noWord x = true then (k : Int) else ix r (k + 1)
theorem ix_end {l : List Int} {k : Nat} (h : l.length ≤ k) : ix (l.drop k) k = -1 := by
  rw [List.drop_eq_nil_of_le h]; rfl
theorem ix_hit {l : List Int} {k : Nat} {x : Int} (h : l[k]? = some x) (hx : noWord x = true) : ix (l.drop k) k = (k : Int) := by
  rw [drop_at h]; simp [ix, hx]
theorem ix_next {l : List Int} {k : Nat} {x : Int} (h : l[k]? = some x) (hx : noWord x = false) : ix (l.drop k) k = ix (l.drop (k + 1)) (k + 1) := by
  rw [drop_at h]; simp [ix, hx]
/-- Is one of them no word? -/
def bad (l : List Int) : Bool := l.any noWord
theorem ix_bad (l : List Int) (k : Nat) : decide (0 ≤ ix l k) = bad l := by
  induction l generalizing k with
  | nil => rfl
  | cons x r ih =>
    unfold ix bad
    cases h : noWord x with
    | true => simp [h]
    | false =>
      have := ih (k + 1)
      simp only [List.any_cons, h, Bool.false_or]
      exact this
theorem bad_false {l : List Int} (h : bad l = false) : ∀ x ∈ l, 0 ≤ x ∧ x < 4294967296 := by
  intro x hx
  unfold bad at h
  rw [List.any_eq_false] at h
  exact of_noWord_false (by simpa using h x hx)
theorem bad_append (a b : List Int) : bad (a ++ b) = (bad a || bad b) := by unfold bad; exact List.any_append

/-- What Feed answers, and what waits behind it. -/
def feedE (l m : List Int) : Int := if bad m = true then 1 else if 4096 < l.length + m.length then 4 else 0
def feedL (l m : List Int) : List Int := if bad m = true then l else if 4096 < l.length + m.length then l else l ++ m
theorem feed_bad {l m : List Int} (h : bad m = true) : feedE l m = 1 ∧ feedL l m = l := by unfold feedE feedL; simp [h]
theorem feed_full {l m : List Int} (h : bad m = false) (h2 : 4096 < l.length + m.length) : feedE l m = 4 ∧ feedL l m = l := by unfold feedE feedL; simp [h, h2]
theorem feed_ok {l m : List Int} (h : bad m = false) (h2 : l.length + m.length ≤ 4096) : feedE l m = 0 ∧ feedL l m = l ++ m := by
  unfold feedE feedL
  simp only [h, Bool.false_eq_true, if_false]
  rw [if_neg (by omega), if_neg (by omega)]
  exact ⟨rfl, rfl⟩
theorem feedL_len {l m : List Int} (h : l.length ≤ 4096) : (feedL l m).length ≤ 4096 := by
  unfold feedL
  split
  · exact h
  · split
    · exact h
    · rw [List.length_append]; omega

/-- The sum of weights, if each is from 0 on and the sum is at most 2^32. -/
def tot : List Int → Int → Option Int
  | [], s => some s
  | x :: r, s => if x < 0 ∨ 4294967296 - s < x then none else tot r (s + x)
def tv : Option Int → Int
  | some s => s
  | none => 0
def tb : Option Int → Bool
  | some _ => true
  | none => false

theorem tot_end {l : List Int} {k : Nat} {s : Int} (h : l.length ≤ k) : tot (l.drop k) s = some s := by
  rw [List.drop_eq_nil_of_le h]; rfl
theorem tot_no {l : List Int} {k : Nat} {x s : Int} (h : l[k]? = some x) (hx : x < 0 ∨ 4294967296 - s < x) : tot (l.drop k) s = none := by
  rw [drop_at h]; simp only [tot]; rw [if_pos hx]
theorem tot_next {l : List Int} {k : Nat} {x s : Int} (h : l[k]? = some x) (h0 : 0 ≤ x) (h1 : x ≤ 4294967296 - s) : tot (l.drop k) s = tot (l.drop (k + 1)) (s + x) := by
  rw [drop_at h]; simp only [tot]; rw [if_neg (by omega)]

/-- All are from 0 on, and their sum is that. -/
theorem tot_some {l : List Int} {s t : Int} (h : tot l s = some t) : (∀ x ∈ l, 0 ≤ x) ∧ t = s + l.sum := by
  induction l generalizing s with
  | nil => simp [tot] at h; simp [h]
  | cons x r ih =>
    unfold tot at h
    split at h
    · cases h
    · have := ih h
      refine ⟨fun y hy => ?_, ?_⟩
      · rcases List.mem_cons.1 hy with rfl | hy
        · omega
        · exact this.1 y hy
      · rw [this.2, List.sum_cons]; omega
theorem tot_le {l : List Int} {s t : Int} (h : tot l s = some t) (hs : s ≤ 4294967296) : t ≤ 4294967296 := by
  induction l generalizing s with
  | nil => simp [tot] at h; omega
  | cons x r ih =>
    unfold tot at h
    split at h
    · cases h
    · exact ih h (by omega)

/-- The first place at which the sum of the weights up to it is above d. -/
def place : List Int → Int → Nat
  | [], _ => 0
  | x :: r, d => if d < x then 0 else place r (d - x) + 1

theorem place_lt {l : List Int} {d : Int} (h : d < l.sum) (h0 : 0 ≤ d) (hn : ∀ x ∈ l, 0 ≤ x) : place l d < l.length ∧ ∃ x, l[place l d]? = some x ∧ 0 < x := by
  induction l generalizing d with
  | nil => simp at h; omega
  | cons x r ih =>
    unfold place
    split
    · next hx => exact ⟨by simp, x, by simp, by omega⟩
    · next hx =>
      rw [List.sum_cons] at h
      have := ih (d := d - x) (by omega) (by omega) (fun y hy => hn y (List.mem_cons_of_mem _ hy))
      refine ⟨by simp only [List.length_cons]; omega, ?_⟩
      simpa using this.2

/-- What Pick answers: the place, and how many words it uses. -/
def pick (l ws : List Int) : Option (Nat × Nat) :=
  match tot ws 0 with
  | none => none
  | some s =>
    match fair l s with
    | none => none
    | some (d, u) => some (place ws d, u)
def pv : Option (Nat × Nat) → Nat
  | some (p, _) => p
  | none => 0
def pu : Option (Nat × Nat) → Nat
  | some (_, u) => u
  | none => 0
def pb : Option (Nat × Nat) → Bool
  | some _ => true
  | none => false

theorem pick_tot {l ws : List Int} (h : tot ws 0 = none) : pick l ws = none := by unfold pick; rw [h]
theorem pick_fair {l ws : List Int} {s : Int} (h : tot ws 0 = some s) (hf : fair l s = none) : pick l ws = none := by unfold pick; rw [h]; simp only; rw [hf]
theorem pick_some {l ws : List Int} {s d : Int} {u : Nat} (h : tot ws 0 = some s) (hf : fair l s = some (d, u)) : pick l ws = some (place ws d, u) := by unfold pick; rw [h]; simp only; rw [hf]

theorem pick_lt {l ws : List Int} {p u : Nat} (h : pick l ws = some (p, u)) : p < ws.length ∧ u ≤ l.length ∧ ∃ x, ws[p]? = some x ∧ 0 < x := by
  unfold pick at h
  split at h
  · cases h
  · next s hs =>
    split at h
    · cases h
    · next d u' hf =>
      injection h with h
      injection h with h1 h2
      subst h1; subst h2
      have ht := tot_some hs
      have hb := fair_some hf
      have := place_lt (l := ws) (d := d) (by omega) (by omega) ht.1
      exact ⟨this.1, by omega, this.2⟩
end Go.Proofs.Ytieohegflcfnaaa.Mth
