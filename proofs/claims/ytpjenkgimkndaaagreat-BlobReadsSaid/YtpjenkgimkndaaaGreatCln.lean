/-
  Contracts of slices.Clone at each kind of row, and of the copies of one ability and of one foe, the program's and the document's: the same in new memory.
-/
import Derived.Test.YtpjenkgimkndaaaGreatChk
import Derived.Lib.SliceRun
namespace Go.Proofs.YtpjenkgimkndaaaGreat.Con
open Go.RowKit Go.Maps

/-- A row that was copied: in memory from base on. -/
def Cpd {α : Type} (E : El α) (w : World) (l : List α) (n : Nat) (e : Ending) (w' : World) : Prop := ∃ A' c', e = .returned (.slice A' n c') ∧ Hid (OW E w' w.heap.size (.slice A' n c') l) ∧ Below w.heap.size w w'
theorem below_app {w w1 w' : World} {k : Option Nat} (hb : Below w.heap.size w w1) (hg : w1.grownBy w' k) (hk : ∀ j, k = some j → w.heap.size ≤ j) : Below w.heap.size w w' := hb.grown hg hb.size hk


end Go.Proofs.YtpjenkgimkndaaaGreat.Con
