/-
  The kinds of rows: plain data, how each lies in cells, its box.
-/
import Derived.Test.YtmdnjkiciaidiaaElm
namespace Go.Proofs.Ytmdnjkiciaidiaa.Con
open Go.RowKit Go.Maps

def encNu (x : Int) : List Value := [.int .i64 x]
def nu : El Int := { enc := encNu, k := 1, e := 3, t := 33, z := .int .i64 0, bytes := 8, klen := fun _ => rfl, one := by intro x u hu; simp [encNu] at hu; rcases hu with rfl; rfl, kpos := by decide, und := Try.underlying33, info := by kernel_rfl, zsz := rfl, bsm := by decide }
theorem cellsNu {w : World} {b o : Nat} {x : Int} (h : ∀ j v, (encNu x)[j]? = some v → w.cell? ⟨b, o + j, none⟩ = some v) : w.cell? ⟨b, o, none⟩ = some (.int .i64 x) := h 0 _ rfl
end Go.Proofs.Ytmdnjkiciaidiaa.Con
