/-
  Plain mathematics: how many tiles a line has: at least one more than the steps between its ends, at most three times the steps and one.
-/
import Derived.Test.YtiggpmennomplaaLin
import Derived.Test.YtiggpmennomplaaAlk
namespace Go.Proofs.Ytiggpmennomplaa.Lin
open Con

/-- How many of the first m are let. -/
def cnt (g : Nat → Bool) : Nat → Nat
  | 0 => 0
  | m + 1 => cnt g m + (if g m = true then 1 else 0)
/-- How many of a box. -/
def cnt2 (f : Nat → Nat → Bool) (m : Nat) : Nat → Nat
  | 0 => 0
  | k + 1 => cnt2 f m k + cnt (f k) m
theorem cnt2_col (f : Nat → Nat → Bool) (m k : Nat) : cnt2 f (m + 1) k = cnt2 f m k + cnt (fun i => f i m) k := by
  induction k with
  | zero => rfl
  | succ k ih => simp only [cnt2, cnt, ih]; omega
theorem cnt2_zero (f : Nat → Nat → Bool) (k : Nat) : cnt2 f 0 k = 0 := by
  induction k with
  | zero => rfl
  | succ k ih => simp only [cnt2, cnt, ih]
theorem cnt2_flip (f : Nat → Nat → Bool) (m k : Nat) : cnt2 f m k = cnt2 (fun i j => f j i) k m := by
  induction m with
  | zero => rw [cnt2_zero]; rfl
  | succ m ih => rw [cnt2_col, ih]; rfl
theorem cnt_from {g : Nat → Bool} {a : Nat} : ∀ {m : Nat}, (∀ j, j < m → g j = true → a ≤ j) → cnt g m ≤ m - a := by
  intro m
  induction m with
  | zero => intro _; simp [cnt]
  | succ m ih =>
    intro h
    have h1 := ih (fun j hj => h j (by omega))
    unfold cnt
    split
    · rename_i hg
      have := h m (by omega) hg
      omega
    · omega
theorem cnt_le {g : Nat → Bool} {d : Nat} : ∀ {m : Nat}, (∀ i j, i < j → j < m → g i = true → g j = true → j ≤ i + d) → cnt g m ≤ d + 1 := by
  intro m
  induction m with
  | zero => intro _; simp [cnt]
  | succ m ih =>
    intro h
    have h1 := ih (fun i j hi hj => h i j hi (by omega))
    unfold cnt
    split
    · rename_i hg
      have := cnt_from (g := g) (a := m - d) (m := m) (fun i hi hgi => by have := h i m hi (by omega) hgi hg; omega)
      omega
    · omega
theorem cnt_pos {g : Nat → Bool} {m j : Nat} (hj : j < m) (h : g j = true) : 1 ≤ cnt g m := by
  induction m with
  | zero => omega
  | succ m ih =>
    unfold cnt
    by_cases e : j = m
    · subst e; rw [if_pos h]; omega
    · have := ih (by omega); omega
theorem cnt2_ge {f : Nat → Nat → Bool} {m k : Nat} (h : ∀ i, i < k → 1 ≤ cnt (f i) m) : k ≤ cnt2 f m k := by
  induction k with
  | zero => omega
  | succ k ih => have h1 := ih (fun i hi => h i (by omega)); have h2 := h k (by omega); unfold cnt2; omega
theorem cnt2_le {f : Nat → Nat → Bool} {m k : Nat} (h : ∀ i, i < k → cnt (f i) m ≤ 3) (h0 : cnt (f 0) m ≤ 2) : cnt2 f m k ≤ 3 * k - 1 := by
  induction k with
  | zero => simp [cnt2]
  | succ k ih =>
    have h1 := ih (fun i hi => h i (by omega)); have h2 := h k (by omega); unfold cnt2
    cases k with
    | zero => simp only [cnt2]; omega
    | succ k => omega
/-- The first row and the last one have two at most. -/
theorem cnt2_ends {f : Nat → Nat → Bool} {m k : Nat} (hk : 1 ≤ k) (h : ∀ i, i < k + 1 → cnt (f i) m ≤ 3) (h0 : cnt (f 0) m ≤ 2) (h1 : cnt (f k) m ≤ 2) : cnt2 f m (k + 1) ≤ 3 * k + 1 := by
  have h2 := cnt2_le (f := f) (m := m) (k := k) (fun i hi => h i (by omega)) h0
  unfold cnt2
  omega

/-- Is the tile so far from the box's corner on the line? -/
def cell (ax ay bx by' : Int) (i j : Nat) : Bool := decide (sd ax ay bx by' (lo ax bx + (j : Int)) (lo ay by' + (i : Int)) = 0)
theorem row_cnt {ax ay bx by' : Int} {k : Nat} (hx : 0 ≤ lo ax bx ∧ hi ax bx ≤ 256) (hy : 0 ≤ lo ay by' + (k : Int) ∧ lo ay by' + (k : Int) ≤ 256) {m : Nat} (hm : m ≤ span ax bx) :
    (rowF ax ay bx by' (lo ay by' + (k : Int)) m).length = cnt (cell ax ay bx by' k) m := by
  induction m with
  | zero => rfl
  | succ m ih =>
    unfold cnt
    by_cases h : sd ax ay bx by' (lo ax bx + (m : Int)) (lo ay by' + (k : Int)) = 0
    · rw [rowF_yes (by omega) hx hy h, List.length_append, ih (by omega), if_pos (by unfold cell; simpa using h)]; rfl
    · rw [rowF_no (by omega) hx hy h, ih (by omega), if_neg (by unfold cell; simpa using h)]; rfl
theorem rows_cnt {ax ay bx by' : Int} (hx : 0 ≤ lo ax bx ∧ hi ax bx ≤ 256) (hy : 0 ≤ lo ay by' ∧ hi ay by' ≤ 256) {k : Nat} (hk : k ≤ span ay by') :
    ((rowsAt (lo ax bx) (lo ay by') (span ax bx) k).filter (touch ax ay bx by')).length = cnt2 (cell ax ay bx by') (span ax bx) k := by
  induction k with
  | zero => rfl
  | succ k ih =>
    have := lo_span (a := ay) (b := by') (j := k) (by omega)
    rw [rows_next, List.length_append, ih (by omega), row_cnt hx (by omega) (Nat.le_refl _)]
    rfl
theorem line_cnt {ax ay bx by' : Int} (hx : 0 ≤ lo ax bx ∧ hi ax bx ≤ 256) (hy : 0 ≤ lo ay by' ∧ hi ay by' ≤ 256) : (lineL ax ay bx by').length = cnt2 (cell ax ay bx by') (span ax bx) (span ay by') := rows_cnt hx hy (Nat.le_refl _)

/-- Turned over: what is said of rows is said of columns. -/
theorem off_flip (ax ay bx by' x y : Int) : off ay ax by' bx y x = - off ax ay bx by' x y := by unfold off; grind
theorem most_flip (ax ay bx by' : Int) : most ay ax by' bx = most ax ay bx by' := by unfold most; omega
theorem sd_flip (ax ay bx by' x y : Int) : (sd ay ax by' bx y x = 0) ↔ (sd ax ay bx by' x y = 0) := by
  have := most_nonneg ax ay bx by'
  unfold sd; rw [off_flip, most_flip]; split <;> split <;> (try split) <;> (try split) <;> omega
theorem cell_flip (ax ay bx by' : Int) : (fun i j => cell ax ay bx by' j i) = cell ay ax by' bx := by
  funext i j
  unfold cell
  simp only [sd_flip]
theorem sd_zero {ax ay bx by' x y : Int} : sd ax ay bx by' x y = 0 ↔ (- most ax ay bx by' ≤ off ax ay bx by' x y ∧ off ax ay bx by' x y ≤ most ax ay bx by') := by
  unfold sd; split
  · omega
  · split <;> omega

/-- Between two of a row that are on the line there are at most so many steps. -/
theorem row_two {ax ay bx by' x x' y : Int} (hh : ab (bx - ax) ≤ ab (by' - ay)) (hne : by' ≠ ay) (h1 : sd ax ay bx by' x y = 0) (h2 : sd ax ay bx by' x' y = 0) : x' ≤ x + 2 := by
  rw [sd_zero] at h1 h2
  refine Int.not_lt.1 fun hc => ?_
  have e : off ax ay bx by' x' y - off ax ay bx by' x y = 2 * ((by' - ay) * (x' - x)) := by unfold off; grind
  have hm : most ax ay bx by' ≤ 2 * ab (by' - ay) := by unfold most; omega
  rcases Int.lt_or_gt_of_ne (show by' - ay ≠ 0 by omega) with hs | hs
  · have h3 := Int.mul_le_mul_of_nonneg_left (show 3 ≤ x' - x by omega) (show 0 ≤ -(by' - ay) by omega)
    have e2 : -(by' - ay) * (x' - x) = -((by' - ay) * (x' - x)) := Int.neg_mul _ _
    have e3 : ab (by' - ay) = -(by' - ay) := by unfold ab; rw [if_pos hs]
    omega
  · have h3 := Int.mul_le_mul_of_nonneg_left (show 3 ≤ x' - x by omega) (show 0 ≤ by' - ay by omega)
    have e3 : ab (by' - ay) = by' - ay := by unfold ab; rw [if_neg (by omega)]
    omega
/-- In the row of an end: within one step of that end. -/
theorem row_end {ax ay bx by' x y ex : Int} (hh : ab (bx - ax) ≤ ab (by' - ay)) (hne : by' ≠ ay) (he : off ax ay bx by' x y = 2 * ((by' - ay) * (x - ex))) (h1 : sd ax ay bx by' x y = 0) : ex - 1 ≤ x ∧ x ≤ ex + 1 := by
  rw [sd_zero, he] at h1
  have hm : most ax ay bx by' ≤ 2 * ab (by' - ay) := by unfold most; omega
  have hab : ab (by' - ay) = by' - ay ∨ ab (by' - ay) = -(by' - ay) := by unfold ab; split <;> omega
  have hp : 1 ≤ ab (by' - ay) := by unfold ab; split <;> omega
  generalize ab (by' - ay) = H at hh hm hab hp
  constructor
  · refine Int.not_lt.1 fun hc => ?_
    have h3 := Int.mul_le_mul_of_nonneg_left (show 2 ≤ ex - x by omega) (show 0 ≤ H by omega)
    have e2 : H * (ex - x) = (by' - ay) * (ex - x) ∨ H * (ex - x) = -((by' - ay) * (ex - x)) := by
      rcases hab with h | h
      · rw [h]; exact .inl rfl
      · rw [h]; exact .inr (Int.neg_mul _ _)
    have e3 : (by' - ay) * (ex - x) = -((by' - ay) * (x - ex)) := by grind
    omega
  · refine Int.not_lt.1 fun hc => ?_
    have h3 := Int.mul_le_mul_of_nonneg_left (show 2 ≤ x - ex by omega) (show 0 ≤ H by omega)
    have e2 : H * (x - ex) = (by' - ay) * (x - ex) ∨ H * (x - ex) = -((by' - ay) * (x - ex)) := by
      rcases hab with h | h
      · rw [h]; exact .inl rfl
      · rw [h]; exact .inr (Int.neg_mul _ _)
    omega
theorem off_a (ax ay bx by' x : Int) : off ax ay bx by' x ay = 2 * ((by' - ay) * (x - ax)) := by unfold off; grind
theorem off_b (ax ay bx by' x : Int) : off ax ay bx by' x by' = 2 * ((by' - ay) * (x - bx)) := by unfold off; grind
/-- Each row has one. -/
theorem row_one {ax ay bx by' y : Int} (hne : ay < by') (h1 : ay ≤ y) (h2 : y ≤ by') : ∃ x, lo ax bx ≤ x ∧ x ≤ hi ax bx ∧ sd ax ay bx by' x y = 0 := by
  obtain ⟨d, hd⟩ : ∃ d, d = (2 * ((bx - ax) * (y - ay)) + (by' - ay)) / (2 * (by' - ay)) := ⟨_, rfl⟩
  have hp : 0 < 2 * (by' - ay) := by omega
  have d1 := Int.mul_ediv_self_le (x := 2 * ((bx - ax) * (y - ay)) + (by' - ay)) (k := 2 * (by' - ay)) (by omega)
  have d2 := Int.lt_mul_ediv_self_add (x := 2 * ((bx - ax) * (y - ay)) + (by' - ay)) hp
  rw [← hd] at d1 d2
  have e1 : 2 * (by' - ay) * d = 2 * ((by' - ay) * d) := by grind
  rw [e1] at d1 d2
  have ho : off ax ay bx by' (ax + d) y = 2 * ((by' - ay) * d) - 2 * ((bx - ax) * (y - ay)) := by unfold off; grind
  have hm : by' - ay ≤ most ax ay bx by' := by unfold most ab; split <;> split <;> omega
  refine ⟨ax + d, ?_, ?_, sd_zero.2 (by omega)⟩
  · by_cases hw : ax ≤ bx
    · have p := Int.mul_nonneg (show 0 ≤ bx - ax by omega) (show 0 ≤ y - ay by omega)
      rw [show lo ax bx = ax by unfold lo; rw [if_pos hw]]
      refine Int.not_lt.1 fun hc => ?_
      have q := Int.mul_le_mul_of_nonneg_left (show d ≤ -1 by omega) (show 0 ≤ by' - ay by omega)
      omega
    · have p := Int.mul_le_mul_of_nonneg_left (show y - ay ≤ by' - ay by omega) (show 0 ≤ ax - bx by omega)
      have p1 : (ax - bx) * (y - ay) = -((bx - ax) * (y - ay)) := by grind
      have p2 : (ax - bx) * (by' - ay) = (by' - ay) * (ax - bx) := Int.mul_comm _ _
      rw [show lo ax bx = bx by unfold lo; rw [if_neg hw]]
      refine Int.not_lt.1 fun hc => ?_
      have q := Int.mul_le_mul_of_nonneg_left (show d ≤ -(ax - bx) - 1 by omega) (show 0 ≤ by' - ay by omega)
      have q1 : (by' - ay) * (-(ax - bx) - 1) = -((by' - ay) * (ax - bx)) - (by' - ay) := by grind
      omega
  · by_cases hw : ax ≤ bx
    · have p := Int.mul_le_mul_of_nonneg_left (show y - ay ≤ by' - ay by omega) (show 0 ≤ bx - ax by omega)
      have p2 : (bx - ax) * (by' - ay) = (by' - ay) * (bx - ax) := Int.mul_comm _ _
      rw [show hi ax bx = bx by unfold hi; rw [if_pos hw]]
      refine Int.not_lt.1 fun hc => ?_
      have q := Int.mul_le_mul_of_nonneg_left (show bx - ax + 1 ≤ d by omega) (show 0 ≤ by' - ay by omega)
      have q1 : (by' - ay) * (bx - ax + 1) = (by' - ay) * (bx - ax) + (by' - ay) := by grind
      omega
    · have p := Int.mul_nonneg (show 0 ≤ ax - bx by omega) (show 0 ≤ y - ay by omega)
      have p1 : (ax - bx) * (y - ay) = -((bx - ax) * (y - ay)) := by grind
      rw [show hi ax bx = ax by unfold hi; rw [if_neg hw]]
      refine Int.not_lt.1 fun hc => ?_
      have q := Int.mul_le_mul_of_nonneg_left (show 1 ≤ d by omega) (show 0 ≤ by' - ay by omega)
      omega

/-- By rows, where the line is no flatter than steep, and its second end lies below the first. -/
theorem count_up {ax ay bx by' : Int} (hlt : ay < by') (hh : ab (bx - ax) ≤ ab (by' - ay)) :
    span ay by' ≤ cnt2 (cell ax ay bx by') (span ax bx) (span ay by') ∧ cnt2 (cell ax ay bx by') (span ax bx) (span ay by') ≤ 3 * (span ay by' - 1) + 1 := by
  have hlo : lo ay by' = ay := by unfold lo; rw [if_pos (by omega)]
  have hhi : hi ay by' = by' := by unfold hi; rw [if_pos (by omega)]
  have hsp : (span ay by' : Int) = by' + 1 - ay := by unfold span; rw [hlo, hhi]; omega
  have hsx : (span ax bx : Int) = hi ax bx + 1 - lo ax bx := by unfold span lo hi; split <;> omega
  have hax : lo ax bx ≤ ax ∧ ax ≤ hi ax bx ∧ lo ax bx ≤ bx ∧ bx ≤ hi ax bx := by unfold lo hi; split <;> omega
  have hend : (lo ax bx = ax ∨ hi ax bx = ax) ∧ (lo ax bx = bx ∨ hi ax bx = bx) := by unfold lo hi; split <;> omega
  have zero : ∀ {i j : Nat}, cell ax ay bx by' i j = true → sd ax ay bx by' (lo ax bx + (j : Int)) (ay + (i : Int)) = 0 := fun h => by unfold cell at h; rw [hlo] at h; simpa using h
  constructor
  · refine cnt2_ge fun i hi' => ?_
    obtain ⟨x, x1, x2, x3⟩ := row_one (ax := ax) (bx := bx) (y := ay + (i : Int)) hlt (by omega) (by omega)
    refine cnt_pos (j := (x - lo ax bx).toNat) (by omega) ?_
    unfold cell
    rw [hlo, show lo ax bx + (((x - lo ax bx).toNat : Nat) : Int) = x by omega]
    simpa using x3
  · obtain ⟨k, hk⟩ : ∃ k, span ay by' = k + 1 := ⟨span ay by' - 1, by omega⟩
    rw [hk]
    refine Nat.le_trans (cnt2_ends (by omega) (fun i _ => ?_) ?_ ?_) (by omega)
    · refine cnt_le (d := 2) fun j j' hj hj' g1 g2 => ?_
      have := row_two hh (by omega) (zero g1) (zero g2)
      omega
    · refine cnt_le (d := 1) fun j j' hj hj' g1 g2 => ?_
      have r1 := row_end (ex := ax) hh (by omega) (by rw [show ay + ((0 : Nat) : Int) = ay by omega]; exact off_a ..) (zero g1)
      have r2 := row_end (ex := ax) hh (by omega) (by rw [show ay + ((0 : Nat) : Int) = ay by omega]; exact off_a ..) (zero g2)
      omega
    · refine cnt_le (d := 1) fun j j' hj hj' g1 g2 => ?_
      have r1 := row_end (ex := bx) hh (by omega) (by rw [show ay + ((k : Nat) : Int) = by' by omega]; exact off_b ..) (zero g1)
      have r2 := row_end (ex := bx) hh (by omega) (by rw [show ay + ((k : Nat) : Int) = by' by omega]; exact off_b ..) (zero g2)
      omega

theorem cell_comm (ax ay bx by' : Int) : cell bx by' ax ay = cell ax ay bx by' := by
  funext i j
  unfold cell
  rw [lo_comm, lo_comm ay by', sd_comm]
  have : (-sd ax ay bx by' (lo ax bx + (j : Int)) (lo ay by' + (i : Int)) = 0) ↔ (sd ax ay bx by' (lo ax bx + (j : Int)) (lo ay by' + (i : Int)) = 0) := by omega
  simp only [this]
theorem ab_neg (x : Int) : ab (-x) = ab x := by unfold ab; split <;> split <;> omega
theorem count_rows {ax ay bx by' : Int} (hne : ay ≠ by') (hh : ab (bx - ax) ≤ ab (by' - ay)) :
    span ay by' ≤ cnt2 (cell ax ay bx by') (span ax bx) (span ay by') ∧ cnt2 (cell ax ay bx by') (span ax bx) (span ay by') ≤ 3 * (span ay by' - 1) + 1 := by
  by_cases h : ay < by'
  · exact count_up h hh
  · have := count_up (ax := bx) (ay := by') (bx := ax) (by' := ay) (by omega) (by
      rw [show ax - bx = -(bx - ax) by omega, show ay - by' = -(by' - ay) by omega, ab_neg, ab_neg]; exact hh)
    rwa [cell_comm, span_comm, span_comm ax bx] at this
theorem span_ab (a b : Int) : (span a b : Int) = ab (b - a) + 1 := by unfold span lo hi ab; split <;> split <;> omega

/-- The line has at least one tile more than its ends are steps apart, and at most three times the steps and one. -/
theorem line_len {ax ay bx by' : Int} (h1 : 0 ≤ ax ∧ ax ≤ 256) (h2 : 0 ≤ ay ∧ ay ≤ 256) (h3 : 0 ≤ bx ∧ bx ≤ 256) (h4 : 0 ≤ by' ∧ by' ≤ 256) :
    stp ax ay bx by' + 1 ≤ ((lineL ax ay bx by').length : Int) ∧ ((lineL ax ay bx by').length : Int) ≤ 3 * stp ax ay bx by' + 1 := by
  have f : ∀ a b : Int, (0 ≤ a ∧ a ≤ 256) → (0 ≤ b ∧ b ≤ 256) → far a b = ab (b - a) := fun a b ha hb => by unfold far held ab; split <;> split <;> (try split) <;> (try split) <;> omega
  have i1 := lo_in h1 h3
  have i2 := lo_in h2 h4
  rw [line_cnt ⟨i1.1, i1.2.2⟩ ⟨i2.1, i2.2.2⟩]
  unfold stp
  rw [f ax bx h1 h3, f ay by' h2 h4]
  have s1 := span_ab ax bx
  have s2 := span_ab ay by'
  have p1 : 0 ≤ ab (bx - ax) := by unfold ab; split <;> omega
  have p2 : 0 ≤ ab (by' - ay) := by unfold ab; split <;> omega
  by_cases hh : ab (bx - ax) ≤ ab (by' - ay)
  · by_cases hne : ay = by'
    · have hz : ab (by' - ay) = 0 := by rw [hne, Int.sub_self]; rfl
      have hbx : ab (bx - ax) = 0 := by omega
      have hx : bx = ax := by unfold ab at hbx; split at hbx <;> omega
      subst hne hx
      have e1 : span bx bx = 1 := by omega
      have e2 : span ay ay = 1 := by omega
      rw [e1, e2]
      have e3 : cell bx ay bx ay 0 0 = true := by unfold cell sd off most; simp [lo, ab]
      simp only [cnt2, cnt, e3]
      split <;> simp [ab]
    · have := count_rows hne hh
      split <;> omega
  · have hne : ax ≠ bx := fun e => by subst e; rw [Int.sub_self] at hh; exact hh (by rw [show ab 0 = 0 from rfl]; exact p2)
    rw [cnt2_flip, cell_flip]
    have := count_rows (ax := ay) (ay := ax) (bx := by') (by' := bx) hne (by omega)
    split <;> omega
end Go.Proofs.Ytiggpmennomplaa.Lin
