/-
  Plain mathematics: what comes by a time is what is due by it, in the order; what is left is what is not.
-/
import Derived.Test.YtibiobcjnnoeeaaTmr
namespace Go.Proofs.Ytibiobcjnnoeeaa.Tmr

def Lt (a b : Tm) : Prop := a.due < b.due ∨ (a.due = b.due ∧ a.id < b.id)
theorem ind_len {P : List Tm → Prop} (h : ∀ S, (∀ T, T.length < S.length → P T) → P S) : ∀ S, P S := by
  intro S
  induction hn : S.length using Nat.strongRecOn generalizing S with
  | _ n ih =>
    subst hn
    exact h S fun T hT => ih _ hT T rfl
theorem mem_del {S : List Tm} {id : Int} {u : Tm} : u ∈ del S id ↔ u ∈ S ∧ u.id ≠ id := by
  unfold del
  rw [List.mem_filter]
  simp
theorem Good.del {S : List Tm} {last : Int} (h : Good S last) (id : Int) : Good (del S id) last := h.filter _
theorem come_mem {last now : Int} : ∀ S, Good S last → ∀ u, u ∈ come S now ↔ u ∈ S ∧ u.due ≤ now := by
  apply ind_len (P := fun S => Good S last → ∀ u, u ∈ come S now ↔ u ∈ S ∧ u.due ≤ now)
  intro S ih hS u
  rcases hf : first S with _ | t
  · rw [(cms_stop (now := now) (.inl hf)).1]
    rw [first_none] at hf
    subst hf
    simp
  · obtain ⟨h1, h2⟩ := first_some hS.1 hf
    by_cases hd : now < t.due
    · rw [(cms_stop (now := now) (.inr ⟨t, hf, hd⟩)).1]
      constructor
      · intro h; cases h
      · rintro ⟨h3, h4⟩
        have := h2 u h3
        unfold Le at this
        omega
    · have hl := del_length hS.ne h1
      rw [(cms_step hS hf hd).1, List.mem_cons, ih _ (by omega) (hS.del _) u, mem_del]
      constructor
      · rintro (rfl | ⟨⟨h3, _⟩, h4⟩)
        · exact ⟨h1, by omega⟩
        · exact ⟨h3, h4⟩
      · rintro ⟨h3, h4⟩
        by_cases e : u.id = t.id
        · exact .inl (uniq hS.ne h3 h1 e)
        · exact .inr ⟨⟨h3, e⟩, h4⟩
theorem come_len {last now : Int} : ∀ S, Good S last → (come S now).length + (rest S now).length = S.length := by
  apply ind_len (P := fun S => Good S last → (come S now).length + (rest S now).length = S.length)
  intro S ih hS
  rcases hf : first S with _ | t
  · obtain ⟨k1, k2⟩ := cms_stop (now := now) (.inl hf)
    rw [k1, k2]; simp
  · by_cases hd : now < t.due
    · obtain ⟨k1, k2⟩ := cms_stop (now := now) (.inr ⟨t, hf, hd⟩)
      rw [k1, k2]; simp
    · have hl := del_length hS.ne (first_some hS.1 hf).1
      obtain ⟨k1, k2⟩ := cms_step hS hf hd
      have := ih _ (by omega) (hS.del t.id)
      rw [k1, k2, List.length_cons]
      omega
theorem come_sorted {last now : Int} : ∀ S, Good S last → (come S now).Pairwise Lt := by
  apply ind_len (P := fun S => Good S last → (come S now).Pairwise Lt)
  intro S ih hS
  rcases hf : first S with _ | t
  · rw [(cms_stop (now := now) (.inl hf)).1]; exact List.Pairwise.nil
  · by_cases hd : now < t.due
    · rw [(cms_stop (now := now) (.inr ⟨t, hf, hd⟩)).1]; exact List.Pairwise.nil
    · obtain ⟨h1, h2⟩ := first_some hS.1 hf
      have hl := del_length hS.ne h1
      rw [(cms_step hS hf hd).1, List.pairwise_cons]
      refine ⟨fun u hu => ?_, ih _ (by omega) (hS.del _)⟩
      obtain ⟨h3, h4⟩ := mem_del.1 ((come_mem _ (hS.del _) u).1 hu).1
      have := h2 u h3
      unfold Le at this
      unfold Lt
      omega
theorem rest_eq {last now : Int} : ∀ S, Good S last → rest S now = S.filter (fun t => decide (now < t.due)) := by
  apply ind_len (P := fun S => Good S last → rest S now = S.filter (fun t => decide (now < t.due)))
  intro S ih hS
  rcases hf : first S with _ | t
  · rw [(cms_stop (now := now) (.inl hf)).2]
    rw [first_none] at hf
    subst hf
    rfl
  · obtain ⟨h1, h2⟩ := first_some hS.1 hf
    by_cases hd : now < t.due
    · rw [(cms_stop (now := now) (.inr ⟨t, hf, hd⟩)).2]
      symm
      rw [List.filter_eq_self]
      intro u hu
      have := h2 u hu
      unfold Le at this
      simp only [decide_eq_true_eq]
      omega
    · have hl := del_length hS.ne h1
      rw [(cms_step hS hf hd).2, ih _ (by omega) (hS.del _)]
      unfold Tmr.del
      rw [List.filter_filter]
      apply List.filter_congr
      intro u hu
      by_cases e : u.id = t.id
      · have := uniq hS.ne hu h1 e
        subst this
        simp [hd]
      · simp [e]
/-- All alike. -/
theorem come_all {last now : Int} {S : List Tm} (hS : Good S last) (h : ∀ t ∈ S, t.due = now) : rest S now = [] ∧ (come S now).length = S.length := by
  have e : rest S now = [] := by
    rw [rest_eq S hS, List.filter_eq_nil_iff]
    intro t ht
    simp [h t ht]
  refine ⟨e, ?_⟩
  have := come_len (now := now) S hS
  rw [e] at this
  simpa using this

/-- A queue whose numbers are just those from 1 to last. -/
def Full (S : List Tm) (last : Int) (due : Int) : Prop := (S.length : Int) = last ∧ (∀ id : Int, hasId S id = decide (1 ≤ id ∧ id ≤ last)) ∧ ∀ t ∈ S, t.due = due
theorem Full.nil (due : Int) : Full [] 0 due := ⟨rfl, fun id => by simp [hasId]; omega, by simp⟩
theorem Full.add {S : List Tm} {last due : Int} (h : Full S last due) (h0 : 0 ≤ last) (tag m : Int) (hm : last + 1 = m) : Full (S ++ [⟨due, tag, m⟩]) m due := by
  obtain ⟨h1, h2, h3⟩ := h
  refine ⟨by simp; omega, fun id => ?_, fun t ht => ?_⟩
  · have e : hasId (S ++ [⟨due, tag, m⟩]) id = (hasId S id || (m == id)) := by simp [hasId]
    rw [e, h2, Bool.eq_iff_iff]
    simp
    omega
  · rcases List.mem_append.1 ht with ht | ht
    · exact h3 t ht
    · simp at ht; subst ht; rfl
/-- What comes behind a Cancel. -/
theorem full_come {S : List Tm} {last due drop : Int} (h : Full S last due) (hg : Good S last) : rest (del S drop) due = [] ∧ (∀ u ∈ come (del S drop) due, u.id ≠ drop) ∧ (come (del S drop) due).length = (del S drop).length := by
  obtain ⟨h1, h2, h3⟩ := h
  have hgd := hg.del drop
  obtain ⟨k1, k2⟩ := come_all (now := due) hgd (fun t ht => h3 t (mem_del.1 ht).1)
  exact ⟨k1, fun u hu => (mem_del.1 ((come_mem _ hgd u).1 hu).1).2, k2⟩
theorem full_del {S : List Tm} {last due drop : Int} (h : Full S last due) (hg : Good S last) (x : Bool) (hx : hasId S drop = x) : ((del S drop).length : Int) = last - (if x then 1 else 0) := by
  obtain ⟨h1, h2, h3⟩ := h
  cases x with
  | false => rw [del_none hx]; simpa using h1
  | true =>
    obtain ⟨t, ht, e⟩ := hasId_iff.1 hx
    have := del_length hg.ne ht
    rw [e] at this
    simp
    omega
end Go.Proofs.Ytibiobcjnnoeeaa.Tmr
