/-
  A frame's tail as one list: a relation of a loop, or of a cut, that says of all scratch slots only how many they are, and a law that lays them open as letters again. No condition.
-/
import Derived.WalkKit
import Derived.Deep.LoopGhost
import Derived.Deep.Cut
namespace Go.Proofs.Ytmhnkjjcipcjlaa.Con
open Go

/-- C of every list of n values, a letter each. -/
def Tail : Nat → (List Value → Prop) → Prop
  | 0, C => C []
  | n + 1, C => ∀ u, Tail n (fun l => C (u :: l))

theorem Tail.elim : ∀ {n : Nat} {C : List Value → Prop}, Tail n C → ∀ l, l.length = n → C l
  | 0, _, h, l, hl => by
    rw [List.eq_nil_of_length_eq_zero hl]; exact h
  | n + 1, C, h, l, hl => by
    cases l with
    | nil => exact absurd hl (by simp)
    | cons u l => exact Tail.elim (C := fun l => C (u :: l)) (h u) l (by simpa using hl)

theorem tail_at {l : List Value} {k : Nat} {u v : Value} (h : l[k]? = some v) (hu : l[k]? = some u) : u = v := by
  rw [hu] at h; exact Option.some.inj h

end Go.Proofs.Ytmhnkjjcipcjlaa.Con
