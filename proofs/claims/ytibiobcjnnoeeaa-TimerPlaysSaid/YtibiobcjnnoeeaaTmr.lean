/-
  Plain mathematics of timers: their order, heaps of them by swaps up and down, and a queue as a row in the order of numbers: which is first, which come by a time, what is left.
-/
namespace Go.Proofs.Ytibiobcjnnoeeaa.Tmr

/-- A timer. -/
structure Tm where
  due : Int
  tag : Int
  id : Int
deriving DecidableEq

def lt (a b : Tm) : Bool := if a.due = b.due then decide (a.id < b.id) else decide (a.due < b.due)
def Le (a b : Tm) : Prop := a.due < b.due ∨ (a.due = b.due ∧ a.id ≤ b.id)
theorem le_of_lt {a b : Tm} (h : lt a b = true) : Le a b := by
  unfold lt at h; unfold Le
  split at h <;> simp at h <;> omega
theorem le_of_not {a b : Tm} (h : lt a b = false) : Le b a := by
  unfold lt at h; unfold Le
  split at h <;> simp at h <;> omega
theorem Le.trans {a b c : Tm} (h : Le a b) (k : Le b c) : Le a c := by unfold Le at *; omega
theorem Le.refl (a : Tm) : Le a a := by unfold Le; omega
theorem Le.ids {a b : Tm} (h : Le a b) (k : Le b a) : a.id = b.id := by unfold Le at *; omega

/-- The timer at a place. -/
def g (l : List Tm) (k : Nat) : Tm := l[k]?.getD ⟨0, 0, 0⟩
theorem g_at {l : List Tm} {k : Nat} (h : k < l.length) : l[k]? = some (g l k) := by simp [g, h]
theorem g_mem {l : List Tm} {k : Nat} (h : k < l.length) : g l k ∈ l := List.mem_of_getElem? (g_at h)
theorem g_of {l : List Tm} {k : Nat} {t : Tm} (h : l[k]? = some t) : g l k = t := by simp [g, h]
/-- Two places exchanged. -/
def sw (l : List Tm) (i j : Nat) : List Tm := (l.set i (g l j)).set j (g l i)
theorem sw_length (l : List Tm) (i j : Nat) : (sw l i j).length = l.length := by simp [sw]
theorem sw_at {l : List Tm} {i j : Nat} (hi : i < l.length) (hj : j < l.length) (k : Nat) : g (sw l i j) k = if k = j then g l i else if k = i then g l j else g l k := by
  unfold sw
  unfold g
  simp only [List.getElem?_set, List.length_set]
  by_cases h1 : j = k
  · subst h1; simp [hj]
  · by_cases h2 : i = k
    · subst h2
      rw [if_neg h1, if_pos rfl, if_pos hi, if_neg (fun e => h1 e.symm), if_pos rfl]
      rfl
    · rw [if_neg h1, if_neg h2, if_neg (fun e => h1 e.symm), if_neg (fun e => h2 e.symm)]
theorem sw_get {l : List Tm} {i j : Nat} (hi : i < l.length) (hj : j < l.length) (k : Nat) : (sw l i j)[k]? = if k = j then some (g l i) else if k = i then some (g l j) else l[k]? := by
  unfold sw
  simp only [List.getElem?_set, List.length_set]
  by_cases h1 : j = k
  · subst h1; simp [hj]
  · by_cases h2 : i = k
    · subst h2
      rw [if_neg h1, if_pos rfl, if_pos hi, if_neg (fun e => h1 e.symm), if_pos rfl]
    · rw [if_neg h1, if_neg h2, if_neg (fun e => h1 e.symm), if_neg (fun e => h2 e.symm)]
theorem sw_perm {l : List Tm} {i j : Nat} (hi : i < l.length) (hj : j < l.length) : (sw l i j).Perm l := by
  have e1 : g l j = l[j] := by simp [g, hj]
  have e2 : g l i = l[i] := by simp [g, hi]
  unfold sw
  rw [e1, e2]
  exact List.set_set_perm hi hj

/-! ### heaps -/
def Heap (n : Nat) (l : List Tm) : Prop := ∀ c, 1 ≤ c → c < n → Le (g l ((c - 1) / 2)) (g l c)
def UpI (n : Nat) (l : List Tm) (j : Nat) : Prop :=
  (∀ c, 1 ≤ c → c < n → c ≠ j → Le (g l ((c - 1) / 2)) (g l c)) ∧ (∀ c, 1 ≤ j → 1 ≤ c → c < n → (c - 1) / 2 = j → Le (g l ((j - 1) / 2)) (g l c))
def DnI (n : Nat) (l : List Tm) (i i0 : Nat) : Prop :=
  (∀ c, 1 ≤ c → c < n → (c - 1) / 2 ≠ i → (c ≠ i0 ∨ i ≠ i0) → Le (g l ((c - 1) / 2)) (g l c)) ∧ (∀ c, 1 ≤ i → 1 ≤ c → c < n → (c - 1) / 2 = i → Le (g l ((i - 1) / 2)) (g l c))

theorem up_stop {n j : Nat} {l : List Tm} (h : UpI n l j) (hs : j = 0 ∨ lt (g l j) (g l ((j - 1) / 2)) = false) : Heap n l := by
  intro c h1 h2
  by_cases hc : c = j
  · subst hc
    rcases hs with h0 | h0
    · omega
    · exact le_of_not h0
  · exact h.1 c h1 h2 hc
theorem up_step {n j i : Nat} {l : List Tm} (h : UpI n l j) (hn : n ≤ l.length) (hj : j < n) (h0 : 1 ≤ j) (hi : (j - 1) / 2 = i) (hl : lt (g l j) (g l i) = true) : UpI n (sw l i j) i := by
  have hij : i < j := by omega
  have S := fun k => sw_at (l := l) (i := i) (j := j) (by omega) (by omega) k
  have hle := le_of_lt hl
  refine ⟨fun c h1 h2 h3 => ?_, fun c h1 h2 h3 h4 => ?_⟩
  · rw [S, S]
    by_cases c1 : c = j
    · subst c1
      rw [hi, if_neg (by omega), if_pos rfl, if_pos rfl]
      exact hle
    · by_cases c2 : (c - 1) / 2 = j
      · rw [if_pos c2, if_neg c1, if_neg h3, ← hi]
        exact h.2 c h0 h1 h2 c2
      · by_cases c3 : (c - 1) / 2 = i
        · rw [c3, if_neg (by omega), if_pos rfl, if_neg c1, if_neg h3]
          have := h.1 c h1 h2 c1
          rw [c3] at this
          exact hle.trans this
        · rw [if_neg c2, if_neg c3, if_neg c1, if_neg h3]
          exact h.1 c h1 h2 c1
  · rw [S, S, if_neg (by omega), if_neg (by omega)]
    have e1 := h.1 i h1 (by omega) (by omega)
    by_cases c1 : c = j
    · rw [if_pos c1]
      exact e1
    · rw [if_neg c1, if_neg (by omega)]
      have := h.1 c h2 h3 c1
      rw [h4] at this
      exact e1.trans this

theorem dn_stop {n i i0 : Nat} {l : List Tm} (h : DnI n l i i0) (hs : ∀ c, 1 ≤ c → c < n → (c - 1) / 2 = i → Le (g l i) (g l c)) (hi : i0 ≤ i) : (i0 < i → Heap n l) ∧ (i = i0 → UpI n l i0) := by
  have all : ∀ c, 1 ≤ c → c < n → (c ≠ i0 ∨ i ≠ i0) → Le (g l ((c - 1) / 2)) (g l c) := by
    intro c h1 h2 h3
    by_cases hc : (c - 1) / 2 = i
    · rw [hc]; exact hs c h1 h2 hc
    · exact h.1 c h1 h2 hc h3
  refine ⟨fun h0 c h1 h2 => all c h1 h2 (.inr (by omega)), fun h0 => ?_⟩
  subst h0
  exact ⟨fun c h1 h2 h3 => all c h1 h2 (.inl h3), h.2⟩
/-- The lesser child. -/
theorem dn_step {n i i0 j : Nat} {l : List Tm} (h : DnI n l i i0) (hn : n ≤ l.length) (hj : j < n) (h0 : 1 ≤ j) (hi : (j - 1) / 2 = i) (hi0 : i0 ≤ i) (hl : lt (g l j) (g l i) = true) (hmin : ∀ c, 1 ≤ c → c < n → (c - 1) / 2 = i → Le (g l j) (g l c)) : DnI n (sw l i j) j i0 := by
  have hij : i < j := by omega
  have S := fun k => sw_at (l := l) (i := i) (j := j) (by omega) (by omega) k
  have hle := le_of_lt hl
  refine ⟨fun c h1 h2 h3 _ => ?_, fun c h1 h2 h3 h4 => ?_⟩
  · rw [S, S, if_neg h3]
    by_cases c1 : c = j
    · subst c1
      rw [hi, if_pos rfl, if_pos rfl]
      exact hle
    · rw [if_neg c1]
      by_cases c2 : c = i
      · subst c2
        rw [if_neg (by omega), if_pos rfl]
        exact h.2 j h1 h0 hj hi
      · rw [if_neg c2]
        by_cases c3 : (c - 1) / 2 = i
        · rw [if_pos c3]
          exact hmin c h1 h2 c3
        · rw [if_neg c3]
          exact h.1 c h1 h2 c3 (by omega)
  · rw [hi, S, S, if_neg (by omega), if_pos rfl, if_neg (by omega), if_neg (by omega)]
    have := h.1 c h2 h3 (by omega) (.inl (by omega))
    rw [h4] at this
    exact this

theorem heap_top {l : List Tm} (h : Heap l.length l) : ∀ k, k < l.length → Le (g l 0) (g l k) := by
  intro k
  induction k using Nat.strongRecOn with
  | _ k ih =>
    intro hk
    by_cases h0 : k = 0
    · subst h0; exact Le.refl _
    · exact (ih ((k - 1) / 2) (by omega) (by omega)).trans (h k (by omega) hk)
theorem heap_all {l : List Tm} (h : Heap l.length l) {t : Tm} (ht : t ∈ l) : Le (g l 0) t := by
  obtain ⟨k, hk, rfl⟩ := List.mem_iff_getElem.1 ht
  have := heap_top h k hk
  simpa [g, hk] using this
theorem heap_grown {l : List Tm} (h : Heap l.length l) (t : Tm) : UpI (l.length + 1) (l ++ [t]) l.length := by
  have S : ∀ k, k < l.length → g (l ++ [t]) k = g l k := fun k hk => by simp [g, List.getElem?_append_left hk]
  refine ⟨fun c h1 h2 h3 => ?_, fun c h1 h2 h3 h4 => by omega⟩
  rw [S c (by omega), S _ (by omega)]
  exact h c h1 (by omega)
/-- The last one set into a place. -/
theorem heap_hole {n i : Nat} {l : List Tm} (h : Heap l.length l) (hn : l.length = n + 1) (hi : i < n) : DnI n (sw l i n) i i := by
  have S := fun k => sw_at (l := l) (i := i) (j := n) (by omega) (by omega) k
  refine ⟨fun c h1 h2 h3 h4 => ?_, fun c h1 h2 h3 h4 => ?_⟩
  · have hc : c ≠ i := by omega
    rw [S, S, if_neg (by omega), if_neg h3, if_neg (by omega), if_neg hc]
    exact h c h1 (by omega)
  · rw [S, S, if_neg (by omega), if_neg (by omega), if_neg (by omega), if_neg (by omega)]
    have e1 := h i h1 (by omega)
    have e2 := h c h2 (by omega)
    rw [h4] at e2
    exact e1.trans e2
theorem heap_cut {n : Nat} {l : List Tm} (h : Heap n l) (hn : l.length = n + 1) : Heap l.dropLast.length l.dropLast := by
  have hl : l.dropLast.length = n := by simp [hn]
  have S : ∀ k, k < n → g l.dropLast k = g l k := fun k hk => by
    have h1 : k < l.length := by omega
    have h2 : k < l.dropLast.length := by omega
    unfold g
    rw [List.getElem?_eq_getElem h1, List.getElem?_eq_getElem h2, List.getElem_dropLast]
  rw [hl]
  intro c h1 h2
  rw [S c h2, S _ (by omega)]
  exact h c h1 h2

/-! ### a queue as a row in the order of numbers -/
def Good (S : List Tm) (last : Int) : Prop := S.Pairwise (fun a b => a.id < b.id) ∧ ∀ t ∈ S, 1 ≤ t.id ∧ t.id ≤ last
theorem Good.nil : Good [] 0 := ⟨List.Pairwise.nil, by simp⟩
theorem Good.add {S : List Tm} {last : Int} (h : Good S last) (h0 : 0 ≤ last) (d t : Int) : Good (S ++ [⟨d, t, last + 1⟩]) (last + 1) := by
  refine ⟨List.pairwise_append.2 ⟨h.1, by simp, fun a ha b hb => ?_⟩, fun a ha => ?_⟩
  · simp only [List.mem_singleton] at hb
    subst hb
    have := (h.2 a ha).2
    simp only; omega
  · rcases List.mem_append.1 ha with ha | ha
    · have := h.2 a ha; omega
    · simp only [List.mem_singleton] at ha
      subst ha
      simp only; omega
theorem Good.filter {S : List Tm} {last : Int} (h : Good S last) (p : Tm → Bool) : Good (S.filter p) last := ⟨h.1.filter p, fun t ht => h.2 t (List.mem_filter.1 ht).1⟩
theorem Good.ne {S : List Tm} {last : Int} (h : Good S last) : S.Pairwise (fun a b => a.id ≠ b.id) := h.1.imp (fun h => by omega)
theorem uniq {S : List Tm} (h : S.Pairwise (fun a b => a.id ≠ b.id)) {a b : Tm} (ha : a ∈ S) (hb : b ∈ S) (e : a.id = b.id) : a = b := by
  induction S with
  | nil => cases ha
  | cons x r ih =>
    rw [List.pairwise_cons] at h
    rcases List.mem_cons.1 ha with ha | ha <;> rcases List.mem_cons.1 hb with hb | hb
    · rw [ha, hb]
    · exact absurd (ha ▸ e) (h.1 b hb)
    · exact absurd (hb ▸ e).symm (h.1 a ha)
    · exact ih h.2 ha hb
theorem perm_ne {l S : List Tm} (h : l.Perm S) (hs : S.Pairwise (fun a b => a.id ≠ b.id)) : l.Pairwise (fun a b => a.id ≠ b.id) := h.symm.pairwise hs (fun e => Ne.symm e)
theorem ne_at {l : List Tm} (h : l.Pairwise (fun a b => a.id ≠ b.id)) {i j : Nat} (hi : i < l.length) (hj : j < l.length) (e : (g l i).id = (g l j).id) : i = j := by
  have e1 : g l j = l[j] := by simp [g, hj]
  have e2 : g l i = l[i] := by simp [g, hi]
  rw [e1, e2] at e
  rcases Nat.lt_trichotomy i j with hlt | hlt | hlt
  · exact absurd e (List.pairwise_iff_getElem.1 h i j hi hj hlt)
  · exact hlt
  · exact absurd e.symm (List.pairwise_iff_getElem.1 h j i hj hi hlt)

def del (S : List Tm) (id : Int) : List Tm := S.filter (fun t => t.id != id)
def delTag (S : List Tm) (tag : Int) : List Tm := S.filter (fun t => t.tag != tag)
def hasId (S : List Tm) (id : Int) : Bool := S.any (fun t => t.id == id)
theorem hasId_iff {S : List Tm} {id : Int} : hasId S id = true ↔ ∃ t ∈ S, t.id = id := by simp [hasId]
theorem del_none {S : List Tm} {id : Int} (h : hasId S id = false) : del S id = S := by
  unfold hasId at h
  unfold del
  rw [List.filter_eq_self]
  intro t ht
  have := List.any_eq_false.1 h t ht
  simpa using this
theorem del_perm {l S : List Tm} (h : l.Perm S) (id : Int) : (del l id).Perm (del S id) := h.filter _
theorem del_length {S : List Tm} (hs : S.Pairwise (fun a b => a.id ≠ b.id)) {t : Tm} (ht : t ∈ S) : (del S t.id).length + 1 = S.length := by
  induction S with
  | nil => cases ht
  | cons x r ih =>
    rw [List.pairwise_cons] at hs
    by_cases hx : x.id = t.id
    · have : hasId r t.id = false := by
        rw [Bool.eq_false_iff]
        intro h
        obtain ⟨u, hu, e⟩ := hasId_iff.1 h
        exact hs.1 u hu (hx.trans e.symm)
      have e := del_none this
      unfold del at e ⊢
      rw [List.filter_cons_of_neg (by simp [hx]), e]
      rfl
    · rcases List.mem_cons.1 ht with h | h
      · exact absurd (by rw [h]) hx
      · have := ih hs.2 h
        unfold del at this ⊢
        rw [List.filter_cons_of_pos (by simp [hx])]
        simp only [List.length_cons]
        omega

/-- The first in the order. -/
def first : List Tm → Option Tm
  | [] => none
  | t :: r => match first r with
    | none => some t
    | some u => if u.due < t.due then some u else some t
theorem first_none {S : List Tm} : first S = none ↔ S = [] := by
  cases S with
  | nil => simp [first]
  | cons t r =>
    simp only [first]
    split <;> simp
    split <;> simp
theorem first_some {S : List Tm} (hs : S.Pairwise (fun a b => a.id < b.id)) {t : Tm} (h : first S = some t) : t ∈ S ∧ ∀ u ∈ S, Le t u := by
  induction S generalizing t with
  | nil => cases h
  | cons x r ih =>
    rw [List.pairwise_cons] at hs
    simp only [first] at h
    split at h
    · rename_i h1
      rw [first_none] at h1
      subst h1
      injection h with h
      subst h
      simp [Le.refl]
    · rename_i u h1
      obtain ⟨k1, k2⟩ := ih hs.2 h1
      split at h
      · rename_i hlt
        injection h with h
        subst h
        refine ⟨List.mem_cons_of_mem _ k1, fun v hv => ?_⟩
        rcases List.mem_cons.1 hv with hv | hv
        · subst hv; exact .inl hlt
        · exact k2 v hv
      · rename_i hlt
        injection h with h
        subst h
        refine ⟨by simp, fun v hv => ?_⟩
        rcases List.mem_cons.1 hv with hv | hv
        · subst hv; exact Le.refl _
        · have h3 := k2 v hv
          have h4 := hs.1 v hv
          unfold Le at h3 ⊢
          omega
theorem first_top {S l : List Tm} {last : Int} (hs : Good S last) (hp : l.Perm S) (hh : Heap l.length l) (h0 : 0 < l.length) : first S = some (g l 0) := by
  rcases e : first S with _ | t
  · rw [first_none] at e
    subst e
    have := hp.length_eq
    simp only [List.length_nil] at this
    omega
  · obtain ⟨h1, h2⟩ := first_some hs.1 e
    have h3 := g_mem h0
    have h4 := hp.mem_iff.1 h3
    have h5 := heap_all hh (hp.mem_iff.2 h1)
    rw [uniq hs.ne h1 h4 (Le.ids (h2 _ h4) h5)]

/-- What comes by a time, and what is left. -/
def cms : Nat → List Tm → Int → List Tm × List Tm
  | 0, S, _ => ([], S)
  | n + 1, S, now => match first S with
    | none => ([], S)
    | some t => if now < t.due then ([], S) else (t :: (cms n (del S t.id) now).1, (cms n (del S t.id) now).2)
def come (S : List Tm) (now : Int) : List Tm := (cms S.length S now).1
def rest (S : List Tm) (now : Int) : List Tm := (cms S.length S now).2
theorem cms_stop {S : List Tm} {now : Int} (h : first S = none ∨ ∃ t, first S = some t ∧ now < t.due) : come S now = [] ∧ rest S now = S := by
  unfold come rest
  cases e : S.length with
  | zero => exact ⟨rfl, rfl⟩
  | succ n =>
    simp only [cms]
    rcases h with h | ⟨t, h, h1⟩
    · rw [h]; exact ⟨rfl, rfl⟩
    · rw [h]; simp only [if_pos h1]; exact ⟨trivial, trivial⟩
theorem cms_step {S : List Tm} {last now : Int} {t : Tm} (hs : Good S last) (h : first S = some t) (h1 : ¬ now < t.due) : come S now = t :: come (del S t.id) now ∧ rest S now = rest (del S t.id) now := by
  have hl := del_length hs.ne (first_some hs.1 h).1
  unfold come rest
  rw [← hl]
  simp only [cms, h, if_neg h1]
  exact ⟨trivial, trivial⟩
end Go.Proofs.Ytibiobcjnnoeeaa.Tmr
