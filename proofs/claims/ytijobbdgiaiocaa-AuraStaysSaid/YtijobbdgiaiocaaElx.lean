/-
  Words for memory, more: a store of one cell into a row of the call's own.
-/
import Derived.Test.YtijobbdgiaiocaaElm
namespace Go.Proofs.Ytijobbdgiaiocaa.Con
open Go.RowKit Go.Maps

section
variable {α β : Type} {E : El α} {F : El β}
theorem flat_set {x x' : α} {j : Nat} {u : Value} (he : E.enc x' = (E.enc x).set j u) (hj : j < E.k) : ∀ {l : List α} {i : Nat}, l[i]? = some x → flat E (l.set i x') = (flat E l).set (i * E.k + j) u
  | [], i, h => by simp at h
  | y :: r, 0, h => by
    simp at h; subst h
    rw [List.set_cons_zero, flat_cons, flat_cons, he, Nat.zero_mul, Nat.zero_add, List.set_append_left _ _ (by rw [E.klen]; exact hj)]
  | y :: r, i + 1, h => by
    rw [List.set_cons_succ, flat_cons, flat_cons, flat_set he hj (by simpa using h), List.set_append_right _ _ (by rw [E.klen, Nat.succ_mul]; omega), E.klen]
    rw [show (i + 1) * E.k + j - E.k = i * E.k + j by rw [Nat.succ_mul]; omega]
theorem OW.poke {w : World} {base n c b i j : Nat} {A : Option Addr} {l : List α} {x x' : α} {u : Value} (h : OW E w base (.slice A n c) l) (hA : A = some ⟨b, 0, none⟩) (hx : l[i]? = some x) (hj : j < E.k) (he : E.enc x' = (E.enc x).set j u) : OW E (w.setCell ⟨b, i * E.k + j, none⟩ u) base (.slice A n c) (l.set i x') := by
  have hi := (List.getElem?_eq_some_iff.1 hx).1
  refine ⟨flat_len E _, ?_⟩
  rcases h.2 with ⟨_, h0⟩ | ⟨g, cap, cur, hv, hb, hg, hn, hm, hs, hxs⟩
  · rw [List.length_eq_zero_iff.1 h0] at hi; simp at hi
  · subst hA
    injection hv with e1 e2 e3
    injection e1 with e1; injection e1 with e1
    subst e1; subst e2; subst e3
    refine .inr ⟨b, c, cur.setIfInBounds (i * E.k + j) u, by rw [List.length_set], hb, heap_setCell_same w b _ cur E.e u hg, by rw [List.length_set]; exact hn, hm, by rw [Array.size_setIfInBounds]; exact hs, ?_⟩
    rw [List.length_set, flat_set he hj hx, Array.toList_setIfInBounds, List.take_set, hxs]
theorem OW.at' {w : World} {base n c : Nat} {A : Option Addr} {l : List α} (h : OW E w base (.slice A n c) l) {i : Nat} {x : α} (hx : l[i]? = some x) :
    ∃ b, A = some ⟨b, 0, none⟩ ∧ base ≤ b ∧ b < w.heap.size ∧ (∀ j v, (E.enc x)[j]? = some v → w.cell? ⟨b, i * E.k + j, none⟩ = some v) ∧ ∀ o, w.frozen? ⟨b, o, none⟩ = false := by
  have hi := (List.getElem?_eq_some_iff.1 hx).1
  obtain ⟨A', c', hv, hr, h2⟩ := h.shape
  injection hv with e1 e2 e3
  subst e1
  rcases h2 with ⟨_, rfl, _⟩ | ⟨b, cur, rfl, hb, hlt, _, hg, _, _, _⟩
  · simp at hi
  · obtain ⟨b', off, hA, _, hc⟩ := hr.at' hx
    injection hA with e; injection e with e1 e2; subst e1; subst e2
    refine ⟨b, rfl, hb, hlt, fun j v hv => ?_, fun o => by simp [World.frozen?, hg]⟩
    have := hc j v hv
    rwa [Nat.zero_add] at this
/-- A store into the first of two rows. -/
theorem Two.poke {w0 V : World} {base n c b i j : Nat} {A : Option Addr} {u : Value} {l : List α} {m : List β} {x x' : α} {s : Value} (h : Two E F w0 V base (.slice A n c) u l m) (hA : A = some ⟨b, 0, none⟩) (hx : l[i]? = some x) (hj : j < E.k) (he : E.enc x' = (E.enc x).set j s) : Two E F w0 (V.setCell ⟨b, i * E.k + j, none⟩ s) base (.slice A n c) u (l.set i x') m := by
  obtain ⟨b', hA', hb, hlt, _, _⟩ := h.a.at' hx
  have e : b' = b := by rw [hA] at hA'; injection hA' with e; injection e with e1; exact e1.symm
  subst e
  have hob : (Value.slice A n c).ownBlock = some b' := by rw [hA]; rfl
  refine ⟨h.a.poke hA hx hj he, h.b.keep (fun k hk => Below.heap_setCell V _ _ _ (fun e => ?_)), h.ne, h.below.setCell hb _, by simp [World.setCell]; exact h.top⟩
  have e' : k = b' := e
  exact h.ne b' hob (e' ▸ hk)
end
end Go.Proofs.Ytijobbdgiaiocaa.Con
