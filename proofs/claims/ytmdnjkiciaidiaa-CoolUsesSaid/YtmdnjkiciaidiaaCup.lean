/-
  When abilities may be used again, as plain mathematics: rows of an ability's Id and its Back. No memory, no program.
-/
import Derived.Test.YtmdnjkiciaidiaaCon
namespace Go.Proofs.Ytmdnjkiciaidiaa.Con

abbrev Cp := Int × List Int
/-- Those above `now`. -/
def awI (b : List Int) (now : Int) : List Int := b.filter (fun x => decide (now < x))
/-- The Back of the first one of that Id. -/
def bkI : List Cp → Int → List Int
  | [], _ => []
  | x :: r, id => if x.1 = id then x.2 else bkI r id
/-- The charges that are away. -/
def wyI (l : List Cp) (id now : Int) : List Int := awI (bkI l id) now
def rdI (ch : Int) (n : Nat) : Int := if (n : Int) < ch then ch - n else 0
def RtC (l : List Cp) : Prop := (∀ x ∈ l, 1 ≤ x.1 ∧ 1 ≤ x.2.length ∧ x.2.length ≤ 100 ∧ x.2.Pairwise (· ≤ ·)) ∧ l.Pairwise (fun x y => x.1 < y.1)
/-- The Back behind a use, of those that are away. -/
def nbI (b : List Int) (cool now : Int) : List Int := if 0 < cool then b ++ [held (b.getLastD now + cool)] else b
def oneI (id : Int) (b : List Int) : List Cp := if b.length = 0 then [] else [(id, b)]
def putI : List Cp → Int → List Int → List Cp
  | [], id, b => oneI id b
  | x :: r, id, b => if x.1 < id then x :: putI r id b else oneI id b ++ (if x.1 = id then r else x :: r)
def usB (l : List Cp) (id ch now : Int) : Prop := RtC l ∧ 1 ≤ id ∧ ((wyI l id now).length : Int) < ch ∧ (wyI l id now).length < 100
def usL (l : List Cp) (id cool now : Int) : List Cp := putI l id (nbI (wyI l id now) cool now)
def nxI (l : List Cp) (id ch now : Int) : Int := if ((wyI l id now).length : Int) < ch then now else if ch < 1 then 9223372036854775807 else (wyI l id now).headD 0
def clI (l : List Cp) (now : Int) : List Cp := (l.map (fun x => (x.1, awI x.2 now))).filter (fun x => decide (x.2.length ≠ 0))
def rsI (l : List Cp) (id : Int) : List Cp := l.filter (fun x => decide (x.1 ≠ id))

/-! ### those that are away -/
theorem aw_sorted {b : List Int} {now : Int} (h : b.Pairwise (· ≤ ·)) : (awI b now).Pairwise (· ≤ ·) := h.filter _
theorem aw_len (b : List Int) (now : Int) : (awI b now).length ≤ b.length := List.length_filter_le _ _
theorem aw_above {b : List Int} {now x : Int} (h : x ∈ awI b now) : now < x := by
  have := (List.mem_filter.1 h).2
  simpa using this
theorem aw_in {b : List Int} {now x : Int} (h : x ∈ awI b now) : x ∈ b := (List.mem_filter.1 h).1
theorem aw_later {n m : Int} (h : n ≤ m) : ∀ b : List Int, awI (awI b n) m = awI b m
  | [] => rfl
  | x :: r => by
    have ih := aw_later h r
    unfold awI at ih ⊢
    by_cases h1 : n < x
    · rw [List.filter_cons_of_pos (by simpa using h1)]
      by_cases h2 : m < x
      · rw [List.filter_cons_of_pos (by simpa using h2), List.filter_cons_of_pos (by simpa using h2), ih]
      · rw [List.filter_cons_of_neg (by simpa using h2), List.filter_cons_of_neg (by simpa using h2), ih]
    · rw [List.filter_cons_of_neg (by simpa using h1), ih, List.filter_cons_of_neg (by simp; omega)]
theorem aw_all {now : Int} {b : List Int} (h : ∀ x ∈ b, now < x) : awI b now = b := List.filter_eq_self.2 (fun x hx => by simpa using h x hx)
theorem aw_none {now : Int} {b : List Int} (h : ∀ x ∈ b, x ≤ now) : awI b now = [] := List.filter_eq_nil_iff.2 (fun x hx => by have := h x hx; simp; omega)
theorem aw_append (b c : List Int) (now : Int) : awI (b ++ c) now = awI b now ++ awI c now := List.filter_append ..
/-- As many away as there are: all of them are, ahead of the first too. -/
theorem aw_full {b : List Int} {now : Int} (h : b.length ≤ (awI b now).length) : awI b now = b :=
  (List.filter_sublist).eq_of_length_le h
theorem aw_head {b : List Int} (hs : b.Pairwise (· ≤ ·)) (h1 : 1 ≤ b.length) : (awI b (b.headD 0)).length < b.length ∧ awI b (b.headD 0 - 1) = b := by
  cases b with
  | nil => simp at h1
  | cons x r =>
    refine ⟨?_, aw_all fun y hy => ?_⟩
    · show (awI (x :: r) x).length < _
      unfold awI
      rw [List.filter_cons_of_neg (by simp)]
      exact Nat.lt_of_le_of_lt (List.length_filter_le _ _) (by simp)
    · show x - 1 < y
      rcases List.mem_cons.1 hy with rfl | hy
      · omega
      · have := (List.pairwise_cons.1 hs).1 y hy; omega

/-! ### rows -/
theorem bk_in {id : Int} : ∀ {l : List Cp}, 1 ≤ (bkI l id).length → (id, bkI l id) ∈ l
  | [], h => by simp [bkI] at h
  | x :: r, h => by
    unfold bkI at h ⊢
    by_cases e : x.1 = id
    · rw [if_pos e]; subst e; exact List.mem_cons_self ..
    · rw [if_neg e] at h ⊢; exact List.mem_cons_of_mem _ (bk_in h)
theorem bk_none {id : Int} : ∀ {l : List Cp}, (∀ x ∈ l, x.1 ≠ id) → bkI l id = []
  | [], _ => rfl
  | x :: r, h => by
    unfold bkI
    rw [if_neg (h x (List.mem_cons_self ..))]
    exact bk_none (fun y hy => h y (List.mem_cons_of_mem _ hy))
theorem bk_sorted {l : List Cp} (h : RtC l) (id : Int) : (bkI l id).Pairwise (· ≤ ·) := by
  by_cases e : 1 ≤ (bkI l id).length
  · exact (h.1 _ (bk_in e)).2.2.2
  · have : bkI l id = [] := List.eq_nil_of_length_eq_zero (by omega)
    rw [this]; exact List.Pairwise.nil
theorem bk_len {l : List Cp} (h : RtC l) (id : Int) : (bkI l id).length ≤ 100 := by
  by_cases e : 1 ≤ (bkI l id).length
  · exact (h.1 _ (bk_in e)).2.2.1
  · omega
theorem rt_tail {x : Cp} {r : List Cp} (h : RtC (x :: r)) : RtC r := ⟨fun y hy => h.1 y (List.mem_cons_of_mem _ hy), (List.pairwise_cons.1 h.2).2⟩
theorem rt_nil : RtC [] := ⟨fun x hx => (by cases hx), List.Pairwise.nil⟩
theorem rt_one {id : Int} {b : List Int} (h1 : 1 ≤ id) (h2 : b.length ≤ 100) (h3 : b.Pairwise (· ≤ ·)) : ∀ x ∈ oneI id b, 1 ≤ x.1 ∧ 1 ≤ x.2.length ∧ x.2.length ≤ 100 ∧ x.2.Pairwise (· ≤ ·) := by
  intro x hx
  unfold oneI at hx
  by_cases e : b.length = 0
  · rw [if_pos e] at hx; cases hx
  · rw [if_neg e] at hx
    rcases List.mem_singleton.1 hx with rfl
    exact ⟨h1, Nat.one_le_iff_ne_zero.2 e, h2, h3⟩
theorem one_id {id : Int} {b : List Int} {x : Cp} (h : x ∈ oneI id b) : x.1 = id := by
  unfold oneI at h
  by_cases e : b.length = 0
  · rw [if_pos e] at h; cases h
  · rw [if_neg e] at h
    rcases List.mem_singleton.1 h with rfl
    rfl
theorem one_pair (id : Int) (b : List Int) : (oneI id b).Pairwise (fun x y => x.1 < y.1) := by
  unfold oneI
  by_cases e : b.length = 0
  · rw [if_pos e]; exact List.Pairwise.nil
  · rw [if_neg e]; exact List.pairwise_singleton ..
theorem put_mem {id : Int} {b : List Int} {x : Cp} : ∀ {l : List Cp}, x ∈ putI l id b → x ∈ oneI id b ∨ x ∈ l
  | [], h => .inl h
  | y :: r, h => by
    unfold putI at h
    by_cases e : y.1 < id
    · rw [if_pos e] at h
      rcases List.mem_cons.1 h with rfl | h
      · exact .inr (List.mem_cons_self ..)
      · rcases put_mem h with h | h
        · exact .inl h
        · exact .inr (List.mem_cons_of_mem _ h)
    · rw [if_neg e] at h
      rcases List.mem_append.1 h with h | h
      · exact .inl h
      · by_cases f : y.1 = id
        · rw [if_pos f] at h; exact .inr (List.mem_cons_of_mem _ h)
        · rw [if_neg f] at h; exact .inr h
theorem put_right {id : Int} {b : List Int} (h1 : 1 ≤ id) (h2 : b.length ≤ 100) (h3 : b.Pairwise (· ≤ ·)) : ∀ {l : List Cp}, RtC l → RtC (putI l id b) := by
  intro l hl
  refine ⟨fun x hx => ?_, ?_⟩
  · rcases put_mem hx with h | h
    · exact rt_one h1 h2 h3 x h
    · exact hl.1 x h
  · clear h1 h2 h3
    induction l with
    | nil => exact one_pair id b
    | cons y r ih =>
      have hy := List.pairwise_cons.1 hl.2
      unfold putI
      by_cases e : y.1 < id
      · rw [if_pos e, List.pairwise_cons]
        refine ⟨fun x hx => ?_, ih (rt_tail hl)⟩
        rcases put_mem hx with h | h
        · rw [one_id h]; exact e
        · exact hy.1 x h
      · rw [if_neg e, List.pairwise_append]
        refine ⟨one_pair id b, ?_, fun x hx z hz => ?_⟩
        · by_cases f : y.1 = id
          · rw [if_pos f]; exact hy.2
          · rw [if_neg f]; exact hl.2
        · rw [one_id hx]
          by_cases f : y.1 = id
          · rw [if_pos f] at hz; have := hy.1 z hz; omega
          · rw [if_neg f] at hz
            rcases List.mem_cons.1 hz with rfl | hz
            · omega
            · have := hy.1 z hz; omega
theorem bk_one (id j : Int) (b : List Int) (r : List Cp) : bkI (oneI id b ++ r) j = if id = j ∧ b.length ≠ 0 then b else bkI r j := by
  unfold oneI
  by_cases e : b.length = 0
  · rw [if_pos e, if_neg (fun h => h.2 e)]; rfl
  · rw [if_neg e]
    show (if id = j then b else bkI r j) = _
    by_cases f : id = j
    · rw [if_pos f, if_pos ⟨f, e⟩]
    · rw [if_neg f, if_neg (fun h => f h.1)]
theorem put_bk {id : Int} {b : List Int} (j : Int) : ∀ {l : List Cp}, RtC l → bkI (putI l id b) j = if j = id then b else bkI l j
  | [], _ => by
    have := bk_one id j b []
    rw [List.append_nil] at this
    show bkI (oneI id b) j = _
    rw [this]
    by_cases e : j = id
    · rw [if_pos e]
      by_cases f : b.length = 0
      · rw [if_neg (fun h => h.2 f), List.eq_nil_of_length_eq_zero f]; rfl
      · rw [if_pos ⟨e.symm, f⟩]
    · rw [if_neg e, if_neg (fun h => e h.1.symm)]
  | y :: r, hl => by
    have hy := List.pairwise_cons.1 hl.2
    have hn : ∀ i : Int, i ≤ y.1 → bkI r i = [] := fun i hi => bk_none (fun x hx e => by have := hy.1 x hx; omega)
    unfold putI
    by_cases e : y.1 < id
    · rw [if_pos e]
      show (if y.1 = j then y.2 else bkI (putI r id b) j) = if j = id then b else (if y.1 = j then y.2 else bkI r j)
      rw [put_bk j (rt_tail hl)]
      by_cases f : y.1 = j
      · rw [if_pos f, if_pos f, if_neg (by omega)]
      · rw [if_neg f, if_neg f]
    · rw [if_neg e, bk_one]
      have hr : bkI (if y.1 = id then r else y :: r) j = if j = id then [] else bkI (y :: r) j := by
        by_cases f : y.1 = id
        · rw [if_pos f]
          by_cases g : j = id
          · rw [if_pos g]; exact hn j (by omega)
          · rw [if_neg g]
            show _ = if y.1 = j then y.2 else bkI r j
            rw [if_neg (by omega)]
        · rw [if_neg f]
          by_cases g : j = id
          · rw [if_pos g]
            show (if y.1 = j then y.2 else bkI r j) = []
            rw [if_neg (by omega)]
            exact hn j (by omega)
          · rw [if_neg g]
      rw [hr]
      by_cases g : j = id
      · rw [if_pos g, if_pos g]
        by_cases f : b.length = 0
        · rw [if_neg (fun h => h.2 f), List.eq_nil_of_length_eq_zero f]
        · rw [if_pos ⟨g.symm, f⟩]
      · rw [if_neg g, if_neg g, if_neg (fun h => g h.1.symm)]
/-! ### a use -/
theorem rd_zero {ch : Int} {n : Nat} : rdI ch n = 0 ↔ ch ≤ (n : Int) := by unfold rdI; split <;> omega
theorem rd_pos {ch : Int} {n : Nat} : 0 < rdI ch n ↔ (n : Int) < ch := by unfold rdI; split <;> omega
theorem held_above {a b now : Int} (h : now ≤ a) (h2 : 1 ≤ b) (hn : now < 9223372036854775807) (hm : -9223372036854775808 ≤ now) : now < held (a + b) ∧ (a ≤ 9223372036854775807 → a ≤ held (a + b)) := by
  unfold held
  constructor
  · split
    · exact hn
    · split
      · omega
      · omega
  · intro ha
    split
    · exact ha
    · split <;> omega
theorem last_in {b : List Int} (now : Int) : (b = [] ∧ b.getLastD now = now) ∨ b.getLastD now ∈ b := by
  cases b with
  | nil => exact .inl ⟨rfl, rfl⟩
  | cons x r =>
    refine .inr ?_
    rw [List.getLastD_eq_getLast?, List.getLast?_eq_some_getLast (by simp)]
    exact List.getLast_mem _
theorem last_max {b : List Int} (h : b.Pairwise (· ≤ ·)) (now x : Int) (hx : x ∈ b) : x ≤ b.getLastD now := by
  obtain ⟨q, y, rfl⟩ : ∃ q y, b = q ++ [y] := ⟨_, _, (List.dropLast_concat_getLast (List.ne_nil_of_mem hx)).symm⟩
  rw [List.getLastD_concat]
  rcases List.mem_append.1 hx with h' | h'
  · exact (List.pairwise_append.1 h).2.2 x h' y (by simp)
  · rcases List.mem_singleton.1 h' with rfl; exact Int.le_refl _
/-- What a use makes of those that are away: it rises, and all of it is away. -/
theorem nb_facts {b : List Int} {cool now : Int} (hs : b.Pairwise (· ≤ ·)) (ha : ∀ x ∈ b, now < x) (hf : ∀ x ∈ b, x ≤ 9223372036854775807) (hn : now < 9223372036854775807) (hm : -9223372036854775808 ≤ now) :
    (nbI b cool now).Pairwise (· ≤ ·) ∧ (∀ x ∈ nbI b cool now, now < x ∧ x ≤ 9223372036854775807) ∧ (nbI b cool now).length = b.length + (if 0 < cool then 1 else 0) := by
  unfold nbI
  by_cases hc : 0 < cool
  · rw [if_pos hc, if_pos hc]
    have hl : now ≤ b.getLastD now ∧ b.getLastD now ≤ 9223372036854775807 := by
      rcases last_in (b := b) now with ⟨_, e⟩ | e
      · rw [e]; omega
      · exact ⟨Int.le_of_lt (ha _ e), hf _ e⟩
    obtain ⟨h1, h2⟩ := held_above (b := cool) hl.1 (by omega) hn hm
    have h3 : held (b.getLastD now + cool) ≤ 9223372036854775807 := by
      unfold held
      split
      · exact Int.le_refl _
      · split <;> omega
    refine ⟨List.pairwise_append.2 ⟨hs, List.pairwise_singleton .., fun x hx y hy => ?_⟩, fun x hx => ?_, by simp⟩
    · rcases List.mem_singleton.1 hy with rfl
      exact Int.le_trans (last_max hs now x hx) (h2 hl.2)
    · rcases List.mem_append.1 hx with h | h
      · exact ⟨ha x h, hf x h⟩
      · rcases List.mem_singleton.1 h with rfl
        exact ⟨h1, h3⟩
  · rw [if_neg hc, if_neg hc]
    exact ⟨hs, fun x hx => ⟨ha x hx, hf x hx⟩, by simp⟩
/-- Numbers of 64 bits. -/
def FtC (l : List Cp) : Prop := ∀ x ∈ l, ∀ y ∈ x.2, y ≤ 9223372036854775807
theorem ft_bk {l : List Cp} (h : FtC l) (id : Int) : ∀ y ∈ bkI l id, y ≤ 9223372036854775807 := fun y hy => h _ (bk_in (by have := List.length_pos_of_mem hy; omega)) y hy
theorem us_bk {l : List Cp} (h : RtC l) (id cool now j : Int) : bkI (usL l id cool now) j = if j = id then nbI (wyI l id now) cool now else bkI l j := put_bk j h
theorem us_right {l : List Cp} (h : RtC l) (hf : FtC l) {id cool now : Int} (h1 : 1 ≤ id) (hl : (wyI l id now).length < 100) (hn : now < 9223372036854775807) (hm : -9223372036854775808 ≤ now) : RtC (usL l id cool now) ∧ FtC (usL l id cool now) := by
  obtain ⟨q1, q2, q3⟩ := nb_facts (b := wyI l id now) (cool := cool) (aw_sorted (bk_sorted h id)) (fun x hx => aw_above hx) (fun x hx => ft_bk hf id x (aw_in hx)) hn hm
  refine ⟨put_right h1 (by rw [q3]; split <;> omega) q1 h, fun x hx => ?_⟩
  rcases put_mem hx with h | h
  · unfold oneI at h
    split at h
    · cases h
    · rcases List.mem_singleton.1 h with rfl
      exact fun y hy => (q2 y hy).2
  · exact hf x h
/-- What is away of that ability just behind a use of it. -/
theorem us_way {l : List Cp} (h : RtC l) (hf : FtC l) {id cool now : Int} (hn : now < 9223372036854775807) (hm : -9223372036854775808 ≤ now) : (wyI (usL l id cool now) id now).length = (wyI l id now).length + (if 0 < cool then 1 else 0) := by
  obtain ⟨_, q2, q3⟩ := nb_facts (b := wyI l id now) (cool := cool) (aw_sorted (bk_sorted h id)) (fun x hx => aw_above hx) (fun x hx => ft_bk hf id x (aw_in hx)) hn hm
  show (awI (bkI (usL l id cool now) id) now).length = _
  rw [us_bk h, if_pos rfl, aw_all (fun x hx => (q2 x hx).1), q3]
/-- WHO WAITS UP TO NEXT: with no more in the Back than there are charges. -/
theorem nx_facts {l : List Cp} (h : RtC l) {id ch now : Int} (hc : 1 ≤ ch) (hl : ((bkI l id).length : Int) ≤ ch) :
    now ≤ nxI l id ch now ∧ ((wyI l id now).length < ch → nxI l id ch now = now) ∧ ((wyI l id (nxI l id ch now)).length : Int) < ch ∧ (¬ ((wyI l id now).length : Int) < ch → ch ≤ (wyI l id (nxI l id ch now - 1)).length) := by
  unfold nxI
  by_cases e : ((wyI l id now).length : Int) < ch
  · rw [if_pos e]
    exact ⟨Int.le_refl _, fun _ => rfl, e, fun f => absurd e f⟩
  · rw [if_neg e, if_neg (by omega)]
    have hw : wyI l id now = bkI l id := aw_full (by show (bkI l id).length ≤ (wyI l id now).length; omega)
    have h1 : 1 ≤ (bkI l id).length := by rw [← hw]; omega
    obtain ⟨q1, q2⟩ := aw_head (bk_sorted h id) h1
    rw [hw] at e
    refine ⟨?_, fun f => absurd f (by rw [hw]; exact e), ?_, fun _ => ?_⟩
    · have : (wyI l id now).headD 0 ∈ wyI l id now := by
        cases hq : wyI l id now with
        | nil => rw [hw] at hq; rw [hq] at h1; simp at h1
        | cons x r => exact List.mem_cons_self ..
      exact Int.le_of_lt (aw_above this)
    · rw [hw]; show ((awI (bkI l id) ((bkI l id).headD 0)).length : Int) < ch; omega
    · rw [hw]; show ch ≤ ((awI (bkI l id) ((bkI l id).headD 0 - 1)).length : Int); rw [q2]; omega

/-! ### Clean -/
theorem cl_bk {l : List Cp} (h : RtC l) (now j : Int) : bkI (clI l now) j = awI (bkI l j) now := by
  induction l with
  | nil => rfl
  | cons x r ih =>
    have hx := List.pairwise_cons.1 h.2
    have ih := ih (rt_tail h)
    unfold clI at ih ⊢
    rw [List.map_cons]
    by_cases e : (awI x.2 now).length = 0
    · rw [List.filter_cons_of_neg (by simpa using e), ih]
      show _ = awI (if x.1 = j then x.2 else bkI r j) now
      by_cases f : x.1 = j
      · rw [if_pos f, List.eq_nil_of_length_eq_zero e, bk_none (fun y hy g => by have := hx.1 y hy; omega)]; rfl
      · rw [if_neg f]
    · rw [List.filter_cons_of_pos (by simpa using e)]
      show (if x.1 = j then awI x.2 now else bkI _ j) = awI (if x.1 = j then x.2 else bkI r j) now
      by_cases f : x.1 = j
      · rw [if_pos f, if_pos f]
      · rw [if_neg f, if_neg f]; exact ih
theorem cl_mem {l : List Cp} {now : Int} {y : Cp} (h : y ∈ clI l now) : ∃ x ∈ l, y = (x.1, awI x.2 now) ∧ (awI x.2 now).length ≠ 0 := by
  obtain ⟨h1, h2⟩ := List.mem_filter.1 h
  obtain ⟨x, hx, rfl⟩ := List.mem_map.1 h1
  exact ⟨x, hx, rfl, by simpa using h2⟩
theorem cl_right {l : List Cp} (h : RtC l) (now : Int) : RtC (clI l now) := by
  refine ⟨fun y hy => ?_, ?_⟩
  · obtain ⟨x, hx, rfl, hl⟩ := cl_mem hy
    obtain ⟨q1, q2, q3, q4⟩ := h.1 x hx
    exact ⟨q1, Nat.one_le_iff_ne_zero.2 hl, Nat.le_trans (aw_len x.2 now) q3, aw_sorted q4⟩
  · have q : (l.map (fun x : Cp => ((x.1, awI x.2 now) : Cp))).Pairwise (fun x y => x.1 < y.1) := List.pairwise_map.2 h.2
    exact q.filter _
theorem cl_way {l : List Cp} (h : RtC l) {now later : Int} (hl : now ≤ later) (id : Int) : wyI (clI l now) id later = wyI l id later := by
  unfold wyI
  rw [cl_bk h, aw_later hl]
theorem cl_cl {now later : Int} (hl : now ≤ later) : ∀ l : List Cp, clI (clI l now) later = clI l later
  | [] => rfl
  | x :: r => by
    have ih := cl_cl hl r
    have ha := aw_later hl x.2
    unfold clI at ih ⊢
    rw [List.map_cons, List.map_cons]
    by_cases e : (awI x.2 now).length = 0
    · rw [List.filter_cons_of_neg (by simpa using e), ih]
      rw [List.eq_nil_of_length_eq_zero e] at ha
      have : (awI x.2 later).length = 0 := by rw [← ha]; rfl
      rw [List.filter_cons_of_neg (by simpa using this)]
    · rw [List.filter_cons_of_pos (by simpa using e), List.map_cons]
      show List.filter _ ((x.1, awI (awI x.2 now) later) :: _) = _
      rw [ha]
      by_cases f : (awI x.2 later).length = 0
      · rw [List.filter_cons_of_neg (by simpa using f), List.filter_cons_of_neg (by simpa using f), ih]
      · rw [List.filter_cons_of_pos (by simpa using f), List.filter_cons_of_pos (by simpa using f), ih]
theorem cl_len (l : List Cp) (now : Int) : (clI l now).length ≤ l.length := by
  have := List.length_filter_le (fun x : Cp => decide (x.2.length ≠ 0)) (l.map (fun x => (x.1, awI x.2 now)))
  rw [List.length_map] at this
  exact this

/-! ### n charges, used at once -/
def stepsI (now wait : Int) (i : Nat) : List Int := (List.range i).map (fun j : Nat => now + ((j : Int) + 1) * wait)
theorem steps_len (now wait : Int) (i : Nat) : (stepsI now wait i).length = i := by unfold stepsI; simp
theorem steps_succ (now wait : Int) (i : Nat) : stepsI now wait (i + 1) = stepsI now wait i ++ [now + ((i : Int) + 1) * wait] := by
  unfold stepsI; rw [List.range_succ, List.map_append]; rfl
theorem steps_last (now wait : Int) (i : Nat) : (stepsI now wait i).getLastD now = now + (i : Int) * wait := by
  cases i with
  | zero => simp [stepsI]
  | succ i => rw [steps_succ, List.getLastD_concat]; simp
/-- How many are away at a time: those whose time has not come. -/
theorem steps_away {now wait : Int} (hw : 1 ≤ wait) (i : Nat) (k : Nat) (d : Int) (hd : 0 ≤ d) (hd2 : d < wait) : ∀ n, (awI (stepsI now wait n) (now + (k : Int) * wait + d)).length = n - k
  | 0 => by simp [stepsI, awI]
  | n + 1 => by
    rw [steps_succ, aw_append, List.length_append, steps_away hw i k d hd hd2 n]
    by_cases e : k ≤ n
    · have hm : (k : Int) * wait ≤ (n : Int) * wait := Int.mul_le_mul_of_nonneg_right (by omega) (by omega)
      have : now + (k : Int) * wait + d < now + ((n : Int) + 1) * wait := by rw [Int.add_mul]; omega
      have h1 : awI [now + ((n : Int) + 1) * wait] (now + (k : Int) * wait + d) = [now + ((n : Int) + 1) * wait] := aw_all (fun x hx => by rcases List.mem_singleton.1 hx with rfl; exact this)
      rw [h1]
      simp only [List.length_singleton]
      omega
    · have hm : ((n : Int) + 1) * wait ≤ (k : Int) * wait := Int.mul_le_mul_of_nonneg_right (by omega) (by omega)
      have h1 : awI [now + ((n : Int) + 1) * wait] (now + (k : Int) * wait + d) = [] := aw_none (fun x hx => by rcases List.mem_singleton.1 hx with rfl; omega)
      rw [h1]
      simp only [List.length_nil]
      omega
theorem one_way (b : List Int) (id now : Int) : wyI (oneI id b) id now = awI b now := by
  have h := bk_one id id b []
  rw [List.append_nil] at h
  unfold wyI
  rw [h]
  by_cases e : b.length = 0
  · rw [if_neg (fun h => h.2 e), List.eq_nil_of_length_eq_zero e]; rfl
  · rw [if_pos ⟨rfl, e⟩]
theorem steps_above {now wait : Int} (hw : 1 ≤ wait) (n : Nat) : ∀ x ∈ stepsI now wait n, now < x := by
  intro x hx
  obtain ⟨j, _, rfl⟩ := List.mem_map.1 hx
  have : 1 * 1 ≤ ((j : Int) + 1) * wait := Int.mul_le_mul (by omega) hw (by omega) (by omega)
  omega
theorem steps_sorted {now wait : Int} (hw : 1 ≤ wait) (n : Nat) : (stepsI now wait n).Pairwise (· ≤ ·) := by
  refine List.pairwise_map.2 (List.pairwise_lt_range.imp fun {a b} h => ?_)
  have : ((a : Int) + 1) * wait ≤ ((b : Int) + 1) * wait := Int.mul_le_mul_of_nonneg_right (by omega) (by omega)
  omega
/-- One more use at the same time. -/
theorem all_use {now wait : Int} (hw : 1 ≤ wait) (hw2 : wait ≤ 1000000) (hn : 0 ≤ now) (hn2 : now ≤ 1099511627776) {i : Nat} (hi : i < 100) : usL (oneI 1 (stepsI now wait i)) 1 wait now = oneI 1 (stepsI now wait (i + 1)) := by
  have h1 : (i : Int) * wait ≤ 100 * wait := Int.mul_le_mul_of_nonneg_right (by omega) (by omega)
  have h2 : 0 ≤ (i : Int) * wait := Int.mul_nonneg (by omega) (by omega)
  have e : nbI (wyI (oneI 1 (stepsI now wait i)) 1 now) wait now = stepsI now wait (i + 1) := by
    rw [one_way, aw_all (steps_above hw i)]
    unfold nbI
    rw [if_pos (by omega), steps_last, steps_succ]
    have : held (now + (i : Int) * wait + wait) = now + ((i : Int) + 1) * wait := by
      rw [Int.add_mul, Int.one_mul]
      unfold held
      rw [if_neg (by omega), if_neg (by omega)]
      omega
    rw [this]
  unfold usL
  rw [e]
  unfold oneI
  by_cases f : (stepsI now wait i).length = 0
  · rw [if_pos f]; rfl
  · rw [if_neg f]
    show (if (1 : Int) < 1 then _ else oneI 1 _ ++ (if (1 : Int) = 1 then [] else _)) = _
    rw [if_neg (by omega), if_pos rfl, List.append_nil]; rfl
theorem all_right {now wait : Int} (hw : 1 ≤ wait) {i : Nat} (hi : i ≤ 100) : RtC (oneI 1 (stepsI now wait i)) :=
  ⟨rt_one (by omega) (by rw [steps_len]; exact hi) (steps_sorted hw i), one_pair 1 _⟩
/-- How many are ready of n that were used at once, k waits and d behind. -/
theorem all_ready {now wait : Int} (hw : 1 ≤ wait) {n k : Nat} (hk : k ≤ n) {d : Int} (hd : 0 ≤ d) (hd2 : d < wait) : rdI n (wyI (oneI 1 (stepsI now wait n)) 1 (now + (k : Int) * wait + d)).length = k := by
  rw [one_way, steps_away hw 0 k d hd hd2 n]
  unfold rdI
  split <;> omega
theorem all_next {now wait : Int} (hw : 1 ≤ wait) {n : Nat} (hn : 1 ≤ n) : nxI (oneI 1 (stepsI now wait n)) 1 n now = now + wait := by
  unfold nxI
  rw [one_way, aw_all (steps_above hw n), steps_len, if_neg (by omega), if_neg (by omega)]
  obtain ⟨m, rfl⟩ : ∃ m, n = m + 1 := ⟨n - 1, by omega⟩
  unfold stepsI
  rw [List.range_succ_eq_map]
  simp

/-! ### any uses at rising times -/
/-- What holds of a row that uses made: no more in a Back than the ability has charges. -/
def UI (l : List Cp) (f : Int → Int) : Prop := RtC l ∧ FtC l ∧ ∀ id, 1 ≤ (bkI l id).length → ((bkI l id).length : Int) ≤ f id
theorem ui_nil (f : Int → Int) : UI [] f := ⟨rt_nil, (fun x hx => by cases hx), (fun id h => by simp [bkI] at h)⟩
theorem ui_use {l : List Cp} {f : Int → Int} (h : UI l f) {id cool now : Int} (h1 : 1 ≤ id) (h2 : f id ≤ 100) (hr : ((wyI l id now).length : Int) < f id) (hn : now < 9223372036854775807) (hm : -9223372036854775808 ≤ now) : UI (usL l id cool now) f := by
  obtain ⟨q1, q2⟩ := us_right (cool := cool) h.1 h.2.1 h1 (now := now) (by omega) hn hm
  refine ⟨q1, q2, fun j hj => ?_⟩
  rw [us_bk h.1] at hj ⊢
  by_cases e : j = id
  · rw [if_pos e] at hj ⊢
    rw [e]
    have : (nbI (wyI l id now) cool now).length ≤ (wyI l id now).length + 1 := by unfold nbI; split <;> simp
    omega
  · rw [if_neg e] at hj ⊢
    exact h.2.2 j hj
theorem ui_len {l : List Cp} {f : Int → Int} (h : UI l f) {id : Int} (h1 : 1 ≤ f id) : ((bkI l id).length : Int) ≤ f id := by
  by_cases e : 1 ≤ (bkI l id).length
  · exact h.2.2 id e
  · omega
end Go.Proofs.Ytmdnjkiciaidiaa.Con
