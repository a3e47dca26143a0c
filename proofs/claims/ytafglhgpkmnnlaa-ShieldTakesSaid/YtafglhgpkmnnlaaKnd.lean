/-
  The kinds of rows: plain data, how each lies in cells, its box.
-/
import Derived.Test.YtafglhgpkmnnlaaElm
namespace Go.Proofs.Ytafglhgpkmnnlaa.Con
open Go.RowKit Go.Maps

structure Sh where
  aura : Int
  left : Int
deriving DecidableEq
def encSh (x : Sh) : List Value := [.int .i64 x.aura, .int .i64 x.left]
/-- As a value. -/
abbrev shv (x : Sh) : Value := .agg #[.int .i64 x.aura, .int .i64 x.left]
/-- As a box. -/
abbrev oSh (x : Sh) : Obj := .cells #[.int .i64 x.aura, .int .i64 x.left] 31
def sh : El Sh := { enc := encSh, k := 2, e := 31, t := 22, z := .agg #[.int .i64 0, .int .i64 0], bytes := 16, klen := fun _ => rfl, one := by intro x u hu; simp [encSh] at hu; rcases hu with rfl | rfl <;> rfl, kpos := by decide, und := Try.underlying22, info := by kernel_rfl, zsz := rfl, bsm := by decide }
/-- All its numbers are of 64 bits. -/
def FSh (x : Sh) : Prop := Fits x.aura ∧ Fits x.left ∧ True
theorem cellsSh {w : World} {b o : Nat} {x : Sh} (h : ∀ j v, (encSh x)[j]? = some v → w.cell? ⟨b, o + j, none⟩ = some v) : w.cell? ⟨b, o, none⟩ = some (.int .i64 x.aura) ∧ w.cell? ⟨b, o + 1, none⟩ = some (.int .i64 x.left) := ⟨h 0 _ rfl, h 1 _ rfl⟩
theorem Sh.ext' {a b : Sh} (h0 : a.aura = b.aura) (h1 : a.left = b.left) : a = b := by cases a; cases b; simp at *; exact ⟨h0, h1⟩

def encNu (x : Int) : List Value := [.int .i64 x]
def nu : El Int := { enc := encNu, k := 1, e := 3, t := 24, z := .int .i64 0, bytes := 8, klen := fun _ => rfl, one := by intro x u hu; simp [encNu] at hu; rcases hu with rfl; rfl, kpos := by decide, und := Try.underlying24, info := by kernel_rfl, zsz := rfl, bsm := by decide }
theorem cellsNu {w : World} {b o : Nat} {x : Int} (h : ∀ j v, (encNu x)[j]? = some v → w.cell? ⟨b, o + j, none⟩ = some v) : w.cell? ⟨b, o, none⟩ = some (.int .i64 x) := h 0 _ rfl
end Go.Proofs.Ytafglhgpkmnnlaa.Con
