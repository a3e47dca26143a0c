/-
  Contracts of Ability, Aura, Foe, the program's and the document's: the first one of that Id, copied, or a zero one.
-/
import Derived.Test.YtpjenkgimkndaaaGreatCpo
namespace Go.Proofs.YtpjenkgimkndaaaGreat.Con
open Go.RowKit Go.Maps

theorem fd_ab {w : World} {B : Nat} {c : Cn} (hr : RC w B c) (hs : Sm c) {id : Int} {a : Ab} {x : Bool} (h : FD Ab.id zAb c.ab id a x) : RW ef w B a.ea a.eff ∧ (a.eff.length : Int) ≤ 50000 := by
  rcases h with ⟨_, i, h1, _⟩ | ⟨_, h2, _⟩
  · have := List.mem_of_getElem? h1; exact ⟨hr.effs a this, hs.effs a this⟩
  · subst h2; exact ⟨.inl rfl, by simp [zAb]⟩
theorem fd_fo {w : World} {B : Nat} {c : Cn} (hr : RC w B c) (hs : Sm c) {id : Int} {a : Fo} {x : Bool} (h : FD Fo.id zFo c.fo id a x) : RW ln w B a.sa a.script ∧ RW pz w B a.ha a.hoard ∧ (a.script.length : Int) ≤ 50000 ∧ (a.hoard.length : Int) ≤ 50000 := by
  rcases h with ⟨_, i, h1, _⟩ | ⟨_, h2, _⟩
  · have := List.mem_of_getElem? h1; exact ⟨hr.scrs a this, hr.hors a this, hs.scrs a this, hs.hors a this⟩
  · subst h2; exact ⟨.inl rfl, .inl rfl, by simp [zFo], by simp [zFo]⟩
def AnA (w : World) (a : Ab) (x : Bool) (e : Ending) (w' : World) : Prop := ∃ A' c', e = .returned (.tuple #[abv (a.re A' c'), .bool x]) ∧ Hid (OW ef w' w.heap.size (.slice A' a.eff.length c') a.eff) ∧ Below w.heap.size w w'
def AnF (w : World) (a : Fo) (x : Bool) (e : Ending) (w' : World) : Prop := ∃ A' c' A2 c2, e = .returned (.tuple #[fov (a.re A' c' A2 c2), .bool x]) ∧ Hid (OW ln w' w.heap.size (.slice A' a.script.length c') a.script) ∧ Hid (OW pz w' w.heap.size (.slice A2 a.hoard.length c2) a.hoard) ∧ Below w.heap.size w w'

end Go.Proofs.YtpjenkgimkndaaaGreat.Con
