/-
  Contracts of copyRows: rows in new memory, each with rows of its own.
-/
import Derived.Test.YtpjenkgimkndaaaGreatPws
namespace Go.Proofs.YtpjenkgimkndaaaGreat.Con
open Go.RowKit Go.Maps

theorem eight (V : World) (p o : Nat) (v0 v1 v2 v3 v4 v5 v6 v7 : Value) : (((((((V.setCell ⟨p, o, none⟩ v0).setCell ⟨p, o + 1, none⟩ v1).setCell ⟨p, o + 2, none⟩ v2).setCell ⟨p, o + 3, none⟩ v3).setCell ⟨p, o + 4, none⟩ v4).setCell ⟨p, o + 5, none⟩ v5).setCell ⟨p, o + 6, none⟩ v6).setCell ⟨p, o + 7, none⟩ v7 = V.setCells p o [v0, v1, v2, v3, v4, v5, v6, v7] := rfl
/-- Up to k the rows are copies, from there on they are the rows themselves. -/
def Half {α : Type} (pl : α → α) (l l' : List α) (k : Nat) : Prop := l'.length = l.length ∧ ∀ i x y, l[i]? = some x → l'[i]? = some y → (i < k → pl y = pl x) ∧ (k ≤ i → y = x)
theorem Half.zero {α : Type} {pl : α → α} (l : List α) : Half pl l l 0 := ⟨rfl, fun i x y hx hy => ⟨fun h => absurd h (Nat.not_lt_zero _), fun _ => by rw [hx] at hy; exact (Option.some.inj hy).symm⟩⟩
theorem Half.next {α : Type} {pl : α → α} {l l' : List α} {k : Nat} (h : Half pl l l' k) {x : α} (hx : l[k]? = some x) (z : α) (hz : pl z = pl x) : Half pl l (l'.set k z) (k + 1) := by
  refine ⟨by simpa using h.1, fun i a b ha hb => ?_⟩
  rw [List.getElem?_set] at hb
  by_cases hik : k = i
  · subst hik
    rw [if_pos rfl] at hb
    have hlt : k < l'.length := by rw [h.1]; exact (List.getElem?_eq_some_iff.1 hx).1
    rw [if_pos hlt] at hb
    have e1 := Option.some.inj hb
    rw [hx] at ha
    have e2 := Option.some.inj ha
    subst e1; subst e2
    exact ⟨fun _ => hz, fun h => absurd h (by omega)⟩
  · rw [if_neg hik] at hb
    have := h.2 i a b ha hb
    exact ⟨fun h => this.1 (by omega), fun h => this.2 (by omega)⟩
theorem Half.done {α : Type} {pl : α → α} {l l' : List α} {k : Nat} (h : Half pl l l' k) (hk : l.length ≤ k) : l'.map pl = l.map pl := by
  rw [map_iff]
  refine ⟨h.1, fun i x y hx hy => ?_⟩
  exact (h.2 i y x hy hx).1 (Nat.lt_of_lt_of_le (List.getElem?_eq_some_iff.1 hy).1 hk)
theorem Half.get {α : Type} {pl : α → α} {l l' : List α} {k : Nat} (h : Half pl l l' k) {x : α} (hx : l[k]? = some x) : l'[k]? = some x := by
  have hlt : k < l'.length := by rw [h.1]; exact (List.getElem?_eq_some_iff.1 hx).1
  have := (h.2 k x _ hx (List.getElem?_eq_getElem hlt)).2 (Nat.le_refl _)
  rw [List.getElem?_eq_getElem hlt, this]
theorem set_get {α : Type} {l : List α} {k i : Nat} {z y : α} (h : (l.set k z)[i]? = some y) : (i = k ∧ y = z) ∨ (i ≠ k ∧ l[i]? = some y) := by
  rw [List.getElem?_set] at h
  split at h
  · rename_i e
    split at h
    · exact .inl ⟨e.symm, (Option.some.inj h).symm⟩
    · cases h
  · rename_i e
    exact .inr ⟨fun h => e h.symm, h⟩


/-- Rows that were copied, each with rows of its own. -/
def CrAb (w : World) (l : List Ab) (n : Nat) (e : Ending) (w' : World) : Prop := ∃ A' c' l', e = .returned (.slice A' n c') ∧ Hid (l'.length = n) ∧ Hid (l'.map Ab.pl = l.map Ab.pl) ∧ Hid (PW ab w' w.heap.size A' l') ∧ Hid (∀ a ∈ l', PW ef w' w.heap.size a.ea a.eff) ∧ Below w.heap.size w w'

/-- Rows that were copied, each with rows of its own. -/
def CrFo (w : World) (l : List Fo) (n : Nat) (e : Ending) (w' : World) : Prop := ∃ A' c' l', e = .returned (.slice A' n c') ∧ Hid (l'.length = n) ∧ Hid (l'.map Fo.pl = l.map Fo.pl) ∧ Hid (PW fo w' w.heap.size A' l') ∧ Hid (∀ a ∈ l', PW ln w' w.heap.size a.sa a.script ∧ PW pz w' w.heap.size a.ha a.hoard) ∧ Below w.heap.size w w'

end Go.Proofs.YtpjenkgimkndaaaGreat.Con
