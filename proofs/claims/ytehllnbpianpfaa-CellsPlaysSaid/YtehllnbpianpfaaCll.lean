/-
  Plain mathematics of a row of units in the order of their numbers: who is there, who comes and goes, who is near, who is nearest. No program.
-/
import Derived.Test.YtehllnbpianpfaaSqu
namespace Go.Proofs.Ytehllnbpianpfaa.Cll
open Go.Proofs.Ytehllnbpianpfaa.Con

/-- A unit: its number and its tile. -/
structure Un where
  id : Int
  x : Int
  y : Int
def g (L : List Un) (k : Nat) : Un := L.getD k ⟨0, 0, 0⟩
theorem g_at {L : List Un} {k : Nat} (hk : k < L.length) : L[k]? = some (g L k) := by simp [g, List.getD, List.getElem?_eq_getElem hk]
theorem g_mem {L : List Un} {k : Nat} (hk : k < L.length) : g L k ∈ L := List.mem_of_getElem? (g_at hk)
theorem g_of {L : List Un} {k : Nat} {t : Un} (h : L[k]? = some t) : g L k = t := by simp [g, List.getD, h]
theorem idx_of {L : List Un} {t : Un} (h : t ∈ L) : ∃ k, k < L.length ∧ g L k = t := by
  obtain ⟨k, hk, e⟩ := List.getElem_of_mem h
  exact ⟨k, hk, by simp [g, List.getD, List.getElem?_eq_getElem hk, e]⟩
/-- May a unit stand at such a tile? -/
def Okay (t : Un) : Prop := Fits t.id ∧ (0 ≤ t.x ∧ t.x ≤ 255) ∧ (0 ≤ t.y ∧ t.y ≤ 255)
/-- In the order of their numbers, each once, each at a tile. -/
structure Good (L : List Un) : Prop where
  asc : L.Pairwise (fun a b => a.id < b.id)
  ok : ∀ t ∈ L, Okay t
theorem Good.nil : Good [] := ⟨List.Pairwise.nil, fun t h => by cases h⟩
theorem one_of {L : List Un} (h : L.Pairwise (fun a b => a.id < b.id)) {s t : Un} (hs : s ∈ L) (ht : t ∈ L) (e : s.id = t.id) : s = t := by
  induction L with
  | nil => cases hs
  | cons a r ih =>
    rw [List.pairwise_cons] at h
    rcases List.mem_cons.1 hs with e1 | hs
    · rcases List.mem_cons.1 ht with e2 | ht
      · rw [e1, e2]
      · have := h.1 t ht; rw [← e1] at this; omega
    · rcases List.mem_cons.1 ht with e2 | ht
      · have := h.1 s hs; rw [← e2] at this; omega
      · exact ih h.2 hs ht
theorem Good.one {L : List Un} (h : Good L) {s t : Un} (hs : s ∈ L) (ht : t ∈ L) (e : s.id = t.id) : s = t := one_of h.asc hs ht e
theorem asc_lt {L : List Un} (h : L.Pairwise (fun a b => a.id < b.id)) {i j : Nat} (hij : i < j) (hj : j < L.length) : (g L i).id < (g L j).id := by
  have := List.pairwise_iff_getElem.1 h i j (by omega) hj hij
  simpa [g, List.getD, List.getElem?_eq_getElem hj, List.getElem?_eq_getElem (show i < L.length by omega)] using this
/-- Is there a unit of that number? -/
def hasId (L : List Un) (k : Int) : Bool := L.any (fun t => t.id == k)
theorem hasId_iff {L : List Un} {k : Int} : hasId L k = true ↔ ∃ t ∈ L, t.id = k := by simp [hasId]
/-- Where the unit of that number is. -/
def lk (L : List Un) (k : Int) : Option Un := L.find? (fun t => t.id == k)
theorem lk_some {L : List Un} {k : Int} {t : Un} (h : lk L k = some t) : t ∈ L ∧ t.id = k := ⟨List.mem_of_find?_eq_some h, by simpa using List.find?_some h⟩
theorem lk_none {L : List Un} {k : Int} (h : lk L k = none) {t : Un} (ht : t ∈ L) : t.id ≠ k := by simpa using List.find?_eq_none.1 h t ht
theorem lk_of {L : List Un} (hL : Good L) {k : Int} {t : Un} (ht : t ∈ L) (e : t.id = k) : lk L k = some t := by
  cases h : lk L k with
  | none => exact absurd e (lk_none h ht)
  | some s => obtain ⟨h1, h2⟩ := lk_some h; rw [hL.one h1 ht (h2.trans e.symm)]
theorem lk_not {L : List Un} {k : Int} (h : ∀ t ∈ L, t.id ≠ k) : lk L k = none := List.find?_eq_none.2 (fun t ht => by simpa using h t ht)
theorem lk_is {L : List Un} {k : Int} : (lk L k).isSome = hasId L k := by
  rw [Bool.eq_iff_iff]
  unfold lk hasId
  rw [List.find?_isSome, List.any_eq_true]
theorem lk_no {L : List Un} {k : Int} (h : hasId L k = false) : lk L k = none := by
  rw [← lk_is] at h
  cases e : lk L k with
  | none => rfl
  | some t => rw [e] at h; cases h
theorem lk_yes {L : List Un} {k : Int} (h : hasId L k = true) : ∃ t, lk L k = some t := by
  rw [← lk_is] at h
  exact Option.isSome_iff_exists.1 h
/-- Without the unit of that number. -/
def del (L : List Un) (k : Int) : List Un := L.filter (fun t => t.id != k)
theorem mem_del {L : List Un} {k : Int} {t : Un} : t ∈ del L k ↔ t ∈ L ∧ t.id ≠ k := by simp [del]
theorem del_none {L : List Un} {k : Int} (h : hasId L k = false) : del L k = L := by
  unfold del
  rw [List.filter_eq_self]
  intro t ht
  simp only [bne_iff_ne, ne_eq]
  intro e
  have := hasId_iff.2 ⟨t, ht, e⟩
  rw [h] at this; cases this
theorem Good.del {L : List Un} (h : Good L) (k : Int) : Good (del L k) := ⟨h.asc.filter _, fun t ht => h.ok t (mem_del.1 ht).1⟩
theorem del_len (L : List Un) (k : Int) : (del L k).length ≤ L.length := List.length_filter_le _ _
theorem lk_del {L : List Un} (h : Good L) (k j : Int) : lk (del L k) j = if j = k then none else lk L j := by
  split
  · rename_i e
    subst e
    exact lk_not fun t ht => (mem_del.1 ht).2
  · rename_i e
    cases hl : lk L j with
    | none => exact lk_not fun t ht => lk_none hl (mem_del.1 ht).1
    | some t =>
      obtain ⟨h1, h2⟩ := lk_some hl
      exact lk_of (h.del k) (mem_del.2 ⟨h1, by omega⟩) h2
theorem del_at {L : List Un} (h : L.Pairwise (fun a b => a.id < b.id)) {k : Nat} (hk : k < L.length) : del L (g L k).id = L.take k ++ L.drop (k + 1) := by
  induction L generalizing k with
  | nil => simp at hk
  | cons x r ih =>
    rw [List.pairwise_cons] at h
    cases k with
    | zero =>
      have : hasId r x.id = false := by
        rw [Bool.eq_false_iff]
        intro e
        obtain ⟨u, hu, e⟩ := hasId_iff.1 e
        have := h.1 u hu
        omega
      have e := del_none this
      have eg : g (x :: r) 0 = x := rfl
      rw [eg]
      unfold del at e ⊢
      rw [List.filter_cons_of_neg (by simp), e]
      rfl
    | succ k =>
      have hk' : k < r.length := by simpa using hk
      have eg : g (x :: r) (k + 1) = g r k := rfl
      have hne : x.id ≠ (g r k).id := by have := h.1 _ (g_mem hk'); omega
      have := ih h.2 hk'
      rw [eg]
      unfold del at this ⊢
      rw [List.filter_cons_of_pos (by simpa using hne), this]
      rfl
theorem has_idx {L : List Un} {k : Int} (h : hasId L k = true) : ∃ i, i < L.length ∧ (g L i).id = k := by
  obtain ⟨t, ht, e⟩ := hasId_iff.1 h
  obtain ⟨i, hi, rfl⟩ := idx_of ht
  exact ⟨i, hi, e⟩
/-- With the unit t, which was not there, at its place. -/
def ins (L : List Un) (t : Un) : List Un := L.filter (fun s => decide (s.id < t.id)) ++ t :: L.filter (fun s => decide (t.id < s.id))
theorem mem_ins {L : List Un} {t s : Un} (hn : hasId L t.id = false) : s ∈ ins L t ↔ s = t ∨ s ∈ L := by
  unfold ins
  simp only [List.mem_append, List.mem_filter, List.mem_cons, decide_eq_true_eq]
  constructor
  · rintro (⟨h, _⟩ | h | ⟨h, _⟩)
    · exact .inr h
    · exact .inl h
    · exact .inr h
  · rintro (h | h)
    · exact .inr (.inl h)
    · rcases Int.lt_trichotomy s.id t.id with h1 | h1 | h1
      · exact .inl ⟨h, h1⟩
      · have := hasId_iff.2 ⟨s, h, h1⟩
        rw [hn] at this; cases this
      · exact .inr (.inr ⟨h, h1⟩)
theorem Good.ins {L : List Un} (h : Good L) {t : Un} (ht : Okay t) (hn : hasId L t.id = false) : Good (ins L t) := by
  refine ⟨?_, fun s hs => ?_⟩
  · unfold Cll.ins
    rw [List.pairwise_append]
    refine ⟨h.asc.filter _, List.pairwise_cons.2 ⟨fun s hs => by simpa using (List.mem_filter.1 hs).2, h.asc.filter _⟩, fun a ha b hb => ?_⟩
    have ha' : a.id < t.id := by simpa using (List.mem_filter.1 ha).2
    rcases List.mem_cons.1 hb with rfl | hb
    · exact ha'
    · have hb' : t.id < b.id := by simpa using (List.mem_filter.1 hb).2
      omega
  · rcases (mem_ins hn).1 hs with rfl | hs
    · exact ht
    · exact h.ok s hs
theorem lk_ins {L : List Un} (h : Good L) {t : Un} (ht : Okay t) (hn : hasId L t.id = false) (j : Int) : lk (ins L t) j = if j = t.id then some t else lk L j := by
  split
  · rename_i e
    exact lk_of (h.ins ht hn) ((mem_ins hn).2 (.inl rfl)) e.symm
  · rename_i e
    cases hl : lk L j with
    | none =>
      refine lk_not fun s hs => ?_
      rcases (mem_ins hn).1 hs with rfl | hs
      · exact fun e' => e e'.symm
      · exact lk_none hl hs
    | some s =>
      obtain ⟨h1, h2⟩ := lk_some hl
      exact lk_of (h.ins ht hn) ((mem_ins hn).2 (.inr h1)) h2
theorem ins_len (L : List Un) (t : Un) : (ins L t).length ≤ L.length + 1 := by
  unfold ins
  rw [List.length_append, List.length_cons]
  have : ∀ M : List Un, (M.filter (fun s => decide (s.id < t.id))).length + (M.filter (fun s => decide (t.id < s.id))).length ≤ M.length := by
    intro M
    induction M with
    | nil => simp
    | cons a r ih =>
      rcases Int.lt_trichotomy a.id t.id with h1 | h1 | h1
      · rw [List.filter_cons_of_pos (by simpa using h1), List.filter_cons_of_neg (by simp; omega)]; simp; omega
      · rw [List.filter_cons_of_neg (by simp; omega), List.filter_cons_of_neg (by simp; omega)]; simp; omega
      · rw [List.filter_cons_of_neg (by simp; omega), List.filter_cons_of_pos (by simpa using h1)]; simp; omega
  have := this L
  omega
/-- Where a search for the place ends. -/
theorem ins_at {L : List Un} (h : L.Pairwise (fun a b => a.id < b.id)) {t : Un} {k : Nat} (hk : k ≤ L.length) (h1 : ∀ i, i < k → (g L i).id < t.id) (h2 : k < L.length → ¬ (g L k).id < t.id) (hn : hasId L t.id = false) : ins L t = L.take k ++ t :: L.drop k := by
  have e1 : L.filter (fun s => decide (s.id < t.id)) = L.take k := by
    conv => lhs; rw [← List.take_append_drop k L]
    rw [List.filter_append]
    have a1 : (L.take k).filter (fun s => decide (s.id < t.id)) = L.take k := by
      rw [List.filter_eq_self]
      intro s hs
      obtain ⟨i, hi, e⟩ := List.getElem_of_mem hs
      have hi' : i < k := by simp at hi; omega
      have := h1 i hi'
      rw [List.getElem_take] at e
      simp [g, List.getD, List.getElem?_eq_getElem (show i < L.length by simp at hi; omega), e] at this
      simpa using this
    have a2 : (L.drop k).filter (fun s => decide (s.id < t.id)) = [] := by
      rw [List.filter_eq_nil_iff]
      intro s hs
      obtain ⟨i, hi, e⟩ := List.getElem_of_mem hs
      simp at hi
      rw [List.getElem_drop] at e
      have e' : g L (k + i) = s := by simp [g, List.getD, List.getElem?_eq_getElem (show k + i < L.length by omega), e]
      have hk0 := h2 (by omega)
      have : (g L k).id ≤ s.id := by
        rw [← e']
        rcases (by omega : i = 0 ∨ 0 < i) with rfl | hp
        · simp
        · have := asc_lt h (show k < k + i by omega) (by omega); omega
      simp; omega
    rw [a1, a2, List.append_nil]
  have e2 : L.filter (fun s => decide (t.id < s.id)) = L.drop k := by
    conv => lhs; rw [← List.take_append_drop k L]
    rw [List.filter_append]
    have a1 : (L.take k).filter (fun s => decide (t.id < s.id)) = [] := by
      rw [List.filter_eq_nil_iff]
      intro s hs
      obtain ⟨i, hi, e⟩ := List.getElem_of_mem hs
      have hi' : i < k := by simp at hi; omega
      have := h1 i hi'
      rw [List.getElem_take] at e
      simp [g, List.getD, List.getElem?_eq_getElem (show i < L.length by simp at hi; omega), e] at this
      simp; omega
    have a2 : (L.drop k).filter (fun s => decide (t.id < s.id)) = L.drop k := by
      rw [List.filter_eq_self]
      intro s hs
      obtain ⟨i, hi, e⟩ := List.getElem_of_mem hs
      simp at hi
      rw [List.getElem_drop] at e
      have e' : g L (k + i) = s := by simp [g, List.getD, List.getElem?_eq_getElem (show k + i < L.length by omega), e]
      have hk0 := h2 (by omega)
      have h3 : (g L k).id ≤ s.id := by
        rw [← e']
        rcases (by omega : i = 0 ∨ 0 < i) with rfl | hp
        · simp
        · have := asc_lt h (show k < k + i by omega) (by omega); omega
      have h4 : s.id ≠ t.id := by
        intro e3
        have hm : s ∈ L := by rw [← e']; exact g_mem (by omega)
        have := hasId_iff.2 ⟨s, hm, e3⟩
        rw [hn] at this; cases this
      simp; omega
    rw [a1, a2, List.nil_append]
  unfold ins
  rw [e1, e2]

/-! ### numbers of those that are asked for -/
/-- The numbers, rising, of those of which P says yes. -/
def ids (L : List Un) (P : Un → Bool) : List Int := (L.filter P).map (·.id)
theorem ids_asc {L : List Un} (h : L.Pairwise (fun a b => a.id < b.id)) (P : Un → Bool) : (ids L P).Pairwise (· < ·) := by
  unfold ids
  rw [List.pairwise_map]
  exact h.filter _
theorem ids_len (L : List Un) (P : Un → Bool) : (ids L P).length ≤ L.length := by
  unfold ids
  rw [List.length_map]
  exact List.length_filter_le _ _
theorem ids_congr {L : List Un} {P Q : Un → Bool} (h : ∀ t ∈ L, P t = Q t) : ids L P = ids L Q := by
  unfold ids
  rw [List.filter_congr h]
theorem ids_none {L : List Un} {P : Un → Bool} (h : ∀ t ∈ L, P t = false) : ids L P = [] := by
  unfold ids
  rw [List.filter_eq_nil_iff.2 (fun t ht => by simp [h t ht])]
  rfl
/-- One unit more is asked for, and says yes. -/
theorem ids_more {L : List Un} (h : L.Pairwise (fun a b => a.id < b.id)) {P Q : Un → Bool} {t : Un} (ht : t ∈ L) (hp : P t = false) (hq : Q t = true) (he : ∀ s ∈ L, s.id ≠ t.id → Q s = P s) : (ids L Q).Perm (ids L P ++ [t.id]) := by
  unfold ids
  have : (L.filter Q).Perm (L.filter P ++ [t]) := by
    induction L with
    | nil => cases ht
    | cons a r ih =>
      rw [List.pairwise_cons] at h
      by_cases e : a.id = t.id
      · have hat : a = t := one_of (List.pairwise_cons.2 h) (by simp) ht e
        subst hat
        rw [List.filter_cons_of_pos hq, List.filter_cons_of_neg (by simp [hp])]
        have : r.filter Q = r.filter P := List.filter_congr fun s hs => he s (by simp [hs]) (by have := h.1 s hs; omega)
        rw [this]
        exact (List.perm_append_singleton _ _).symm
      · have hr : t ∈ r := by
          rcases List.mem_cons.1 ht with e' | e'
          · exact absurd (by rw [e']) e
          · exact e'
        have hi := ih h.2 hr (fun s hs => he s (by simp [hs]))
        have hqa := he a (by simp) e
        cases hpa : P a
        · rw [hpa] at hqa
          rw [List.filter_cons_of_neg (by simp [hqa]), List.filter_cons_of_neg (by simp [hpa])]
          exact hi
        · rw [hpa] at hqa
          rw [List.filter_cons_of_pos hqa, List.filter_cons_of_pos hpa]
          exact hi.cons a
  have := this.map (·.id)
  simpa using this
theorem sorted_ids {L : List Un} (h : L.Pairwise (fun a b => a.id < b.id)) {P : Un → Bool} {ss : List Int} (hp : ss.Perm (ids L P)) : ss.mergeSort (fun x y => decide (x ≤ y)) = ids L P := by
  have p1 : (ss.mergeSort (fun x y => decide (x ≤ y))).Perm (ids L P) := (List.mergeSort_perm _ _).trans hp
  refine List.Perm.eq_of_pairwise (le := fun a b => a ≤ b) (fun a b _ _ h1 h2 => by omega) ?_ ((ids_asc h P).imp (fun h => by omega)) p1
  have := List.pairwise_mergeSort (le := fun x y : Int => decide (x ≤ y)) (fun a b c h1 h2 => by simp at *; omega) (fun a b => by simp; omega) ss
  exact this.imp (fun h => by simpa using h)
theorem sorted_len {ss : List Int} : (ss.mergeSort (fun x y => decide (x ≤ y))).length = ss.length := List.length_mergeSort _

/-! ### near -/
theorem far_comm (a b : Int) : far a b = far b a := by unfold far held; split <;> split <;> (try split) <;> (try split) <;> (try split) <;> (try split) <;> omega
theorem sqr_comm (ax ay bx by' : Int) : sqr ax ay bx by' = sqr bx by' ax ay := by unfold sqr; rw [far_comm ax bx, far_comm ay by']
theorem nearB_comm (ax ay bx by' r : Int) : nearB ax ay bx by' r = nearB bx by' ax ay r := by unfold nearB; rw [sqr_comm]
/-- Is the unit near the tile? -/
def nr (px py r : Int) (t : Un) : Bool := nearB px py t.x t.y r
def dist (px py : Int) (t : Un) : Int := sqr px py t.x t.y
/-- The number of a cell that a tile lies in, and the tile of a cell that is nearest. -/
def cut (c n : Int) : Int := max (c * 16) (min n (c * 16 + 15))
theorem held_mono {a b : Int} (h : a ≤ b) : held a ≤ held b := by unfold held; split <;> split <;> (try split) <;> (try split) <;> omega
theorem far_cut {c n m : Int} (h0 : c * 16 ≤ m) (h1 : m ≤ c * 16 + 15) : far n (cut c n) ≤ far n m := by
  have : cut c n = (if n < c * 16 then c * 16 else if c * 16 + 15 < n then c * 16 + 15 else n) := by
    unfold cut
    simp only [Int.max_def, Int.min_def]
    split <;> split <;> (try split) <;> (try split) <;> omega
  rw [this]
  unfold far
  split <;> split <;> (try split) <;> (try split) <;> (try split) <;> (try omega) <;> (apply held_mono; omega)
theorem sqr_cut {c r px py mx my : Int} (h0 : c * 16 ≤ mx) (h1 : mx ≤ c * 16 + 15) (h2 : r * 16 ≤ my) (h3 : my ≤ r * 16 + 15) : sqr px py (cut c px) (cut r py) ≤ sqr px py mx my := by
  have a1 := far_cut (n := px) h0 h1
  have a2 := far_cut (n := py) h2 h3
  have b1 := far_nonneg px (cut c px)
  have b2 := far_nonneg py (cut r py)
  have m1 := Int.mul_le_mul a1 a1 b1 (by omega)
  have m2 := Int.mul_le_mul a2 a2 b2 (by omega)
  unfold sqr
  exact held_mono (Int.add_le_add (held_mono m1) (held_mono m2))
theorem near_cut {c q px py mx my r : Int} (h0 : c * 16 ≤ mx) (h1 : mx ≤ c * 16 + 15) (h2 : q * 16 ≤ my) (h3 : my ≤ q * 16 + 15) (h : nearB px py (cut c px) (cut q py) r = false) : nearB px py mx my r = false := by
  have := sqr_cut (px := px) (py := py) h0 h1 h2 h3
  unfold nearB at h ⊢
  simp only [Bool.and_eq_false_iff, decide_eq_false_iff_not] at h ⊢
  omega
theorem cut_fits {c n : Int} (h0 : 0 ≤ c) (h1 : c ≤ 15) : 0 ≤ cut c n ∧ cut c n ≤ 255 := by
  unfold cut
  simp only [Int.max_def, Int.min_def]
  split <;> split <;> (try split) <;> omega

/-! ### nearest -/
/-- Of those that V tells, but the one of the number not: (d, k) is the least distance, and of alike ones the least number. -/
structure Best (L : List Un) (px py not : Int) (V : Un → Bool) (found : Bool) (d k : Int) : Prop where
  no : found = false → (∀ t ∈ L, V t = true → t.id = not) ∧ d = 0 ∧ k = 0
  yes : found = true → (∃ t ∈ L, V t = true ∧ t.id ≠ not ∧ t.id = k ∧ dist px py t = d) ∧ ∀ t ∈ L, V t = true → t.id ≠ not → d < dist px py t ∨ (d = dist px py t ∧ k ≤ t.id)
theorem Best.start (L : List Un) (px py not : Int) : Best L px py not (fun _ => false) false 0 0 := ⟨fun _ => ⟨fun t _ h => by simp at h, rfl, rfl⟩, fun h => by cases h⟩
theorem Best.congr {L : List Un} {px py not : Int} {V V' : Un → Bool} {found : Bool} {d k : Int} (h : Best L px py not V found d k) (e : ∀ t ∈ L, V' t = V t) : Best L px py not V' found d k :=
  ⟨fun hf => ⟨fun t ht hv => (h.no hf).1 t ht (by rw [← e t ht]; exact hv), (h.no hf).2⟩, fun hf => by
    obtain ⟨⟨t, ht, hv, r⟩, hall⟩ := h.yes hf
    exact ⟨⟨t, ht, by rw [e t ht]; exact hv, r⟩, fun s hs hv => hall s hs (by rw [← e s hs]; exact hv)⟩⟩
/-- More are told, all of them farther than the least. -/
theorem Best.far {L : List Un} {px py not : Int} {V V' : Un → Bool} {d k : Int} (h : Best L px py not V true d k) (e : ∀ t ∈ L, V t = true → V' t = true) (hf : ∀ t ∈ L, V' t = true → V t = true ∨ d < dist px py t) : Best L px py not V' true d k :=
  ⟨fun hf => (by cases hf), fun _ => by
    obtain ⟨⟨t, ht, hv, r⟩, hall⟩ := h.yes rfl
    refine ⟨⟨t, ht, e t ht hv, r⟩, fun s hs hv' hn => ?_⟩
    rcases hf s hs hv' with h1 | h1
    · exact hall s hs h1 hn
    · exact .inl h1⟩
/-- One more is told, who is not asked for. -/
theorem Best.skip {L : List Un} {px py not : Int} {V V' : Un → Bool} {found : Bool} {d k : Int} {u : Un} (h : Best L px py not V found d k) (e : ∀ t ∈ L, V' t = (V t || t.id == u.id)) (hu : u.id = not) : Best L px py not V' found d k :=
  ⟨fun hf => ⟨fun t ht hv => by
      rw [e t ht] at hv
      simp only [Bool.or_eq_true, beq_iff_eq] at hv
      rcases hv with hv | hv
      · exact (h.no hf).1 t ht hv
      · omega, (h.no hf).2⟩, fun hf => by
    obtain ⟨⟨t, ht, hv, r⟩, hall⟩ := h.yes hf
    refine ⟨⟨t, ht, by rw [e t ht, hv]; rfl, r⟩, fun s hs hv hn => hall s hs ?_ hn⟩
    rw [e s hs] at hv
    simp only [Bool.or_eq_true, beq_iff_eq] at hv
    rcases hv with hv | hv
    · exact hv
    · omega⟩
/-- One more is told, who is better. -/
theorem Best.take {L : List Un} {px py not : Int} {V V' : Un → Bool} {found : Bool} {d k : Int} {u : Un} (hL : Good L) (h : Best L px py not V found d k) (hm : u ∈ L) (e : ∀ t ∈ L, V' t = (V t || t.id == u.id)) (hu : u.id ≠ not)
    (hb : found = false ∨ dist px py u < d ∨ (dist px py u = d ∧ u.id < k)) : Best L px py not V' true (dist px py u) u.id :=
  ⟨fun hf => (by cases hf), fun _ => by
    refine ⟨⟨u, hm, by rw [e u hm]; simp, hu, rfl, rfl⟩, fun s hs hv hn => ?_⟩
    rw [e s hs] at hv
    simp only [Bool.or_eq_true, beq_iff_eq] at hv
    rcases hv with hv | hv
    · cases hf : found
      · exact absurd ((h.no hf).1 s hs hv) hn
      · have := (h.yes hf).2 s hs hv hn
        rcases hb with hb | hb | hb
        · rw [hf] at hb; cases hb
        · omega
        · omega
    · have := hL.one hs hm hv
      subst this
      exact .inr ⟨rfl, Int.le_refl _⟩⟩
/-- One more is told, who is no better. -/
theorem Best.leave {L : List Un} {px py not : Int} {V V' : Un → Bool} {d k : Int} {u : Un} (hL : Good L) (h : Best L px py not V true d k) (hm : u ∈ L) (e : ∀ t ∈ L, V' t = (V t || t.id == u.id))
    (hb : ¬ (dist px py u < d ∨ (dist px py u = d ∧ u.id < k))) : Best L px py not V' true d k :=
  ⟨fun hf => (by cases hf), fun _ => by
    obtain ⟨⟨t, ht, hv, r⟩, hall⟩ := h.yes rfl
    refine ⟨⟨t, ht, by rw [e t ht, hv]; rfl, r⟩, fun s hs hv hn => ?_⟩
    rw [e s hs] at hv
    simp only [Bool.or_eq_true, beq_iff_eq] at hv
    rcases hv with hv | hv
    · exact hall s hs hv hn
    · have := hL.one hs hm hv
      subst this
      omega⟩
theorem Best.one {L : List Un} {px py not : Int} {V : Un → Bool} {f f' : Bool} {d k d' k' : Int} (h : Best L px py not V f d k) (h' : Best L px py not V f' d' k') : f = f' ∧ d = d' ∧ k = k' := by
  cases f <;> cases f'
  · exact ⟨rfl, by rw [(h.no rfl).2.1, (h'.no rfl).2.1], by rw [(h.no rfl).2.2, (h'.no rfl).2.2]⟩
  · obtain ⟨⟨t, ht, hv, hn, _⟩, _⟩ := h'.yes rfl
    exact absurd ((h.no rfl).1 t ht hv) hn
  · obtain ⟨⟨t, ht, hv, hn, _⟩, _⟩ := h.yes rfl
    exact absurd ((h'.no rfl).1 t ht hv) hn
  · obtain ⟨⟨t, ht, hv, hn, e1, e2⟩, ha⟩ := h.yes rfl
    obtain ⟨⟨s, hs, hv', hn', e1', e2'⟩, ha'⟩ := h'.yes rfl
    have a := ha s hs hv' hn'
    have b := ha' t ht hv hn
    exact ⟨rfl, by omega, by omega⟩
end Go.Proofs.Ytehllnbpianpfaa.Cll
