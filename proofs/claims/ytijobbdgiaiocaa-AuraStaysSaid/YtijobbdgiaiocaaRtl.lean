/-
  Which rows are right, as plain mathematics; what keeps them so. No memory, no program.
-/
import Derived.Test.YtijobbdgiaiocaaAup
namespace Go.Proofs.Ytijobbdgiaiocaa.Con

def OkA (L : List Au) (a : Ac) : Prop := lkB L a.aura = true ∧ 1 ≤ a.stacks ∧ a.stacks ≤ (lkA L a.aura).stacks ∧ 0 ≤ a.left
/-- No two of one Aura and one Source. -/
def Apart (l : List Ac) : Prop := l.Pairwise (fun a b => ¬ (a.aura = b.aura ∧ a.source = b.source))
def RightL (L : List Au) (l : List Ac) : Prop := l.length ≤ 16 ∧ (∀ a ∈ l, OkA L a) ∧ Apart l
theorem is_ac {id src : Int} {a : Ac} : isAc id src a = true ↔ a.aura = id ∧ a.source = src := by unfold isAc; simp
theorem is_not {id src : Int} {a : Ac} : isAc id src a = false ↔ ¬ (a.aura = id ∧ a.source = src) := by
  rw [← is_ac]; simp
/-- The first of its kind stands there. -/
theorem pl_at {l : List Ac} {k : Nat} {x : Ac} (hx : l[k]? = some x) : plI l x.aura x.source = (k : Int) ↔ ∀ j y, j < k → l[j]? = some y → ¬ (y.aura = x.aura ∧ y.source = x.source) := by
  constructor
  · intro h j y hj hy
    rcases idx_cases (isAc x.aura x.source) l with ⟨h1, h2⟩ | ⟨k', x', h1, h2, h3, h4⟩
    · have : idxI (isAc x.aura x.source) l = (k : Int) := h
      omega
    · have e : k' = k := by
        have : idxI (isAc x.aura x.source) l = (k : Int) := h
        omega
      subst e
      have hm : y ∈ l.take k' := by
        have hlt := (List.getElem?_eq_some_iff.1 hy).1
        obtain ⟨_, rfl⟩ := List.getElem?_eq_some_iff.1 hy
        exact List.mem_take_iff_getElem.2 ⟨j, by omega, rfl⟩
      exact is_not.1 (h4 y hm)
  · intro h
    refine idx_hit hx (is_ac.2 ⟨rfl, rfl⟩) (fun p hp => is_not.2 ?_)
    obtain ⟨j, hj, rfl⟩ := List.mem_take_iff_getElem.1 hp
    exact h j _ (by omega) (List.getElem?_eq_getElem (by omega))
theorem apart_iff {l : List Ac} : Apart l ↔ ∀ (k : Nat) x, l[k]? = some x → ∀ j y, j < k → l[j]? = some y → ¬ (y.aura = x.aura ∧ y.source = x.source) := by
  unfold Apart
  rw [List.pairwise_iff_getElem]
  constructor
  · intro h k x hk j y hj hy
    obtain ⟨h1, rfl⟩ := List.getElem?_eq_some_iff.1 hk
    obtain ⟨h2, rfl⟩ := List.getElem?_eq_some_iff.1 hy
    exact h j k h2 h1 hj
  · intro h i j hi hj hij
    exact h j _ (List.getElem?_eq_getElem hj) i _ hij (List.getElem?_eq_getElem hi)
/-- The first k are right. -/
def RtK (L : List Au) (l : List Ac) (k : Nat) : Prop := ∀ j x, j < k → l[j]? = some x → OkA L x ∧ ∀ i y, i < j → l[i]? = some y → ¬ (y.aura = x.aura ∧ y.source = x.source)
theorem rt_zero (L : List Au) (l : List Ac) : RtK L l 0 := fun j _ hj => by omega
theorem rt_next {L : List Au} {l : List Ac} {k : Nat} {x : Ac} (h : RtK L l k) (hx : l[k]? = some x) (ho : OkA L x) (hn : ∀ i y, i < k → l[i]? = some y → ¬ (y.aura = x.aura ∧ y.source = x.source)) : RtK L l (k + 1) := by
  intro j y hj hy
  rcases Nat.lt_or_eq_of_le (Nat.le_of_lt_succ hj) with h1 | rfl
  · exact h j y h1 hy
  · rw [hx] at hy; injection hy with hy; subst hy; exact ⟨ho, hn⟩
theorem rt_all {L : List Au} {l : List Ac} (h : RtK L l l.length) (hl : l.length ≤ 16) : RightL L l := by
  refine ⟨hl, fun a ha => ?_, apart_iff.2 fun k x hk => ?_⟩
  · obtain ⟨i, hi, rfl⟩ := List.getElem_of_mem ha
    exact (h i _ hi (List.getElem?_eq_getElem hi)).1
  · exact (h k x (List.getElem?_eq_some_iff.1 hk).1 hk).2
theorem RightL.ok {L : List Au} {l : List Ac} (h : RightL L l) {k : Nat} {x : Ac} (hx : l[k]? = some x) : OkA L x := h.2.1 x (List.mem_of_getElem? hx)
theorem RightL.one {L : List Au} {l : List Ac} (h : RightL L l) {k : Nat} {x : Ac} (hx : l[k]? = some x) : ∀ i y, i < k → l[i]? = some y → ¬ (y.aura = x.aura ∧ y.source = x.source) := apart_iff.1 h.2.2 k x hx

/-! ### what keeps a row right -/
theorem right_sub {L : List Au} {l m : List Ac} (h : RightL L l) (hs : m.Sublist l) : RightL L m := ⟨Nat.le_trans hs.length_le h.1, fun a ha => h.2.1 a (hs.subset ha), h.2.2.sublist hs⟩
theorem right_go {L : List Au} {l : List Ac} (h : RightL L l) (p : Nat → Bool) {k : Nat} (hk : k ≤ l.length) : RightL L (goS p l k) := right_sub h ((go_sub p l k hk).trans (List.take_sublist k l))
/-- Rows in which Aura and Source are as they were. -/
theorem right_map {L : List Au} {l m : List Ac} (h : RightL L l) (hm : m.map (fun a => (a.aura, a.source)) = l.map (fun a => (a.aura, a.source))) (ho : ∀ a ∈ m, OkA L a) : RightL L m := by
  have hl : m.length = l.length := by have := congrArg List.length hm; simpa using this
  refine ⟨by rw [hl]; exact h.1, ho, ?_⟩
  have h1 : (l.map (fun a => (a.aura, a.source))).Pairwise (· ≠ ·) := by
    rw [List.pairwise_map]; exact h.2.2.imp (fun h e => h (by injection e with e1 e2; exact ⟨e1, e2⟩))
  rw [← hm, List.pairwise_map] at h1
  exact h1.imp (fun h e => h (by rw [e.1, e.2]))
theorem mn_ge {a b c : Int} (h1 : c ≤ a) (h2 : c ≤ b) : c ≤ mn a b := by unfold mn; split <;> assumption
theorem mn_le (a b : Int) : mn a b ≤ b := by unfold mn; split <;> omega
section
variable {L : List Au} {l : List Ac} (hL : ∀ a ∈ L, AuOk a)
include hL
theorem full_pos {id : Int} (hi : lkB L id = true) {s : Int} (hs : 0 ≤ s) : 0 ≤ fullL (lkA L id) s := by
  have h := hL _ (lk_mem hi).1
  generalize lkA L id = a at h
  unfold fullL
  split
  · rename_i hk
    have ha : 0 ≤ a.amount := by
      rcases h.2.2 with ⟨h1, _⟩ | ⟨h1, _⟩ | ⟨_, _, h3⟩
      · omega
      · omega
      · exact h3.1
    have : 0 ≤ a.amount * s := Int.mul_nonneg ha hs
    unfold held; split
    · omega
    · split <;> omega
  · omega
theorem stk_ok {id : Int} (hi : lkB L id = true) {s : Int} (hs : 1 ≤ s) : 1 ≤ stkL (lkA L id) s ∧ stkL (lkA L id) s ≤ (lkA L id).stacks := by
  have h := hL _ (lk_mem hi).1
  unfold stkL
  refine ⟨mn_ge ?_ h.2.1.1, mn_le _ _⟩
  unfold held; split
  · omega
  · split <;> omega
theorem right_apply (h : RightL L l) (id src now : Int) (he : apE L l id src = 0) : RightL L (apL L l id src now) := by
  cases hy : lkB L id with
  | false => rw [(ap_none (now := now) hy).1] at he; cases he
  | true =>
    rcases idx_cases (isAc id src) l with ⟨h1, h2⟩ | ⟨k, x, h1, h2, h3, _⟩
    · by_cases h16 : 16 ≤ l.length
      · rw [(ap_full (now := now) hy (by show idxI (isAc id src) l < 0; omega) h16).1] at he; cases he
      · rw [(ap_new (now := now) hy (by show idxI (isAc id src) l < 0; omega) h16).2]
        refine ⟨by simp; omega, fun a ha => ?_, ?_⟩
        · rcases List.mem_append.1 ha with ha | ha
          · exact h.2.1 a ha
          · simp at ha; subst ha
            exact ⟨hy, Int.le_refl _, (hL _ (lk_mem hy).1).2.1.1, full_pos hL hy (by omega)⟩
        · unfold Apart
          rw [List.pairwise_append]
          refine ⟨h.2.2, by simp, fun a ha b hb => ?_⟩
          simp at hb; subst hb
          exact is_not.1 (h2 a ha)
    · rw [(ap_again (now := now) hy h1 h2).2]
      obtain ⟨e1, e2⟩ := is_ac.1 h3
      have ho := h.ok h2
      have hs := stk_ok hL hy ho.2.1
      refine right_map h ?_ (fun a ha => ?_)
      · apply List.ext_getElem?
        intro i
        rw [List.getElem?_map, List.getElem?_map, List.getElem?_set]
        split
        · rename_i e; subst e
          rw [if_pos (List.getElem?_eq_some_iff.1 h2).1, h2]; rfl
        · rfl
      · rcases List.mem_or_eq_of_mem_set ha with ha | rfl
        · exact h.2.1 a ha
        · refine ⟨by show lkB L x.aura = true; rw [e1]; exact hy, ?_, ?_, ?_⟩
          · exact hs.1
          · show stkL (lkA L id) x.stacks ≤ (lkA L x.aura).stacks; rw [e1]; exact hs.2
          · exact full_pos hL hy (by have := hs.1; show 0 ≤ stkL (lkA L id) x.stacks; omega)
end
theorem ta_sub (S : List Sh) (G : List Int) (l : List Ac) : ∀ k, k ≤ l.length → ∃ m : List Ac, m.Sublist (l.take k) ∧ (taK S G l k).map (fun a => (a.aura, a.source)) = m.map (fun a => (a.aura, a.source))
  | 0, _ => ⟨[], by simp, rfl⟩
  | k + 1, hk => by
    obtain ⟨m, h1, h2⟩ := ta_sub S G l k (by omega)
    have hx : l[k]? = some l[k] := List.getElem?_eq_getElem (by omega)
    rw [List.take_add_one, hx]
    by_cases h : (k : Int) ∈ G
    · rw [ta_gone h]; exact ⟨m, h1.trans (List.sublist_append_left _ _), h2⟩
    · rw [ta_stay hx h]
      exact ⟨m ++ [l[k]], h1.append (List.Sublist.refl _), by rw [List.map_append, List.map_append, h2]; rfl⟩
theorem ta_mem {S : List Sh} {G : List Int} {l : List Ac} : ∀ {k : Nat}, k ≤ l.length → ∀ {a : Ac}, a ∈ taK S G l k → ∃ i x, l[i]? = some x ∧ a = withL x (lfI i S x.left)
  | 0, _, a, ha => by cases ha
  | k + 1, hk, a, ha => by
    have hx : l[k]? = some l[k] := List.getElem?_eq_getElem (by omega)
    by_cases h : (k : Int) ∈ G
    · rw [ta_gone h] at ha; exact ta_mem (by omega) ha
    · rw [ta_stay hx h] at ha
      rcases List.mem_append.1 ha with ha | ha
      · exact ta_mem (by omega) ha
      · simp at ha; subst ha; exact ⟨k, _, hx, rfl⟩
theorem right_take {L : List Au} {l : List Ac} (h : RightL L l) {S : List Sh} {m0 m : Int} {G : List Int} (hT : takeI (shK L l l.length) m0 = (S, m, G)) : RightL L (taK S G l l.length) := by
  obtain ⟨m', h1, h2⟩ := ta_sub S G l l.length (Nat.le_refl _)
  rw [List.take_length] at h1
  refine right_map (right_sub h h1) h2 (fun a ha => ?_)
  obtain ⟨i, x, hx, rfl⟩ := ta_mem (Nat.le_refl _) ha
  have ho := h.ok hx
  refine ⟨ho.1, ho.2.1, ho.2.2.1, ?_⟩
  show 0 ≤ lfI i S x.left
  rcases lf_cases i S x.left with e | ⟨s, hs, e⟩
  · rw [e]; exact ho.2.2.2
  · rw [e]
    have hp := take_left (l := shK L l l.length) (n := m0) (fun y hy => by
      obtain ⟨_, _, z, h3, h4⟩ := sh_in L l l.length (Nat.le_refl _) y hy
      rw [h4]; exact (h.ok h3).2.2.2)
    rw [hT] at hp
    exact hp s hs
/-- The numbers stay of 64 bits. -/
theorem nac_apply {L : List Au} {l : List Ac} (hL : ∀ a ∈ L, NAu a) (h : ∀ a ∈ l, NAc a) (id src now : Int) : ∀ a ∈ apL L l id src now, NAc a := by
  intro a ha
  unfold apL at ha
  split at ha
  · split at ha
    · rcases List.mem_or_eq_of_mem_set ha with ha | rfl
      · exact h a ha
      · have hk := lk_nau hL id
        have hy : NAc (l.getD (plI l id src).toNat zAc) := by
          rw [List.getD_eq_getElem?_getD]
          cases e : l[(plI l id src).toNat]? with
          | none => exact ⟨⟨by simp [zAc], by simp [zAc]⟩, ⟨by simp [zAc], by simp [zAc]⟩, ⟨by simp [zAc], by simp [zAc]⟩⟩
          | some y => exact h y (List.mem_of_getElem? e)
        refine ⟨?_, hy.2.1, ?_⟩
        · show Fits (stkL _ _); unfold stkL mn; split
          · exact held_fits _
          · exact hk.2.2.1
        · show Fits (fullL _ _); unfold fullL; split
          · exact held_fits _
          · exact ⟨by omega, by omega⟩
    · split at ha
      · cases ha
      · rcases List.mem_append.1 ha with ha | ha
        · exact h a ha
        · simp at ha; subst ha
          refine ⟨⟨by simp [newL], by simp [newL]⟩, ?_, ?_⟩
          · show Fits (firstT _ _); unfold firstT; split
            · exact ⟨by omega, by omega⟩
            · exact held_fits _
          · show Fits (fullL _ _); unfold fullL; split
            · exact held_fits _
            · exact ⟨by omega, by omega⟩
  · cases ha
theorem nac_go {l : List Ac} (h : ∀ a ∈ l, NAc a) (p : Nat → Bool) {k : Nat} (hk : k ≤ l.length) : ∀ a ∈ goS p l k, NAc a := fun a ha => h a (go_mem hk ha)
theorem nac_take {L : List Au} {l : List Ac} (h : ∀ a ∈ l, NAc a) (hl : l.length ≤ 1000000) {S : List Sh} {m0 m : Int} {G : List Int} (hT : takeI (shK L l l.length) m0 = (S, m, G)) : ∀ a ∈ taK S G l l.length, NAc a := by
  intro a ha
  obtain ⟨i, x, hx, rfl⟩ := ta_mem (Nat.le_refl _) ha
  have ho := h x (List.mem_of_getElem? hx)
  refine ⟨ho.1, ho.2.1, ?_⟩
  show Fits (lfI i S x.left)
  rcases lf_cases i S x.left with e | ⟨s, hs, e⟩
  · rw [e]; exact ho.2.2
  · rw [e]
    have := take_fits (n := m0) (sh_fits (L := L) h hl)
    rw [hT] at this
    exact (this s hs).2.1
end Go.Proofs.Ytijobbdgiaiocaa.Con
