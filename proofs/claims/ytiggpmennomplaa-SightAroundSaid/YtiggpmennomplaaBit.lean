/-
  Tiles of a map, and what a round over a box of them keeps.
-/
import Derived.Test.YtiggpmennomplaaBas
namespace Go.Proofs.Ytiggpmennomplaa.Con
open Go.RowKit Go.Shelf Wlk
attribute [local go_sem] Oper.semAt_some

/-- A tile of a map. -/
abbrev Tile := { p : Int × Int // (0 ≤ p.1 ∧ p.1 ≤ 256) ∧ 0 ≤ p.2 ∧ p.2 ≤ 256 }
/-- What a round keeps: what lay below n₀, and the four boxes. -/
def K4 (n₀ b1 b2 b3 b4 : Nat) (V V' : World) : Prop := Below n₀ V V' ∧ V'.heap[b1]? = V.heap[b1]? ∧ V'.heap[b2]? = V.heap[b2]? ∧ V'.heap[b3]? = V.heap[b3]? ∧ V'.heap[b4]? = V.heap[b4]?
theorem K4.trans {n₀ b1 b2 b3 b4 : Nat} {A B C : World} (h : K4 n₀ b1 b2 b3 b4 A B) (k : K4 n₀ b1 b2 b3 b4 B C) : K4 n₀ b1 b2 b3 b4 A C :=
  ⟨h.1.trans k.1, k.2.1.trans h.2.1, k.2.2.1.trans h.2.2.1, k.2.2.2.1.trans h.2.2.2.1, k.2.2.2.2.trans h.2.2.2.2⟩
end Go.Proofs.Ytiggpmennomplaa.Con
