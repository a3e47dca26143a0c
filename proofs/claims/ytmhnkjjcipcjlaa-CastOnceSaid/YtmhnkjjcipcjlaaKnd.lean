/-
  The kinds of rows: plain data, how each lies in cells, its box.
-/
import Derived.Test.YtmhnkjjcipcjlaaElm
namespace Go.Proofs.Ytmhnkjjcipcjlaa.Con
open Go.RowKit Go.Maps

structure Ca where
  ability : Int
  target : Int
  since : Int
  untl : Int
deriving DecidableEq
def encCa (x : Ca) : List Value := [.int .i64 x.ability, .int .i64 x.target, .int .i64 x.since, .int .i64 x.untl]
/-- As a value. -/
abbrev cav (x : Ca) : Value := .agg #[.int .i64 x.ability, .int .i64 x.target, .int .i64 x.since, .int .i64 x.untl]
/-- As a box. -/
abbrev oCa (x : Ca) : Obj := .cells #[.int .i64 x.ability, .int .i64 x.target, .int .i64 x.since, .int .i64 x.untl] 25
def ca : El Ca := { enc := encCa, k := 4, e := 25, t := 28, z := .agg #[.int .i64 0, .int .i64 0, .int .i64 0, .int .i64 0], bytes := 32, klen := fun _ => rfl, one := by intro x u hu; simp [encCa] at hu; rcases hu with rfl | rfl | rfl | rfl <;> rfl, kpos := by decide, und := Try.underlying28, info := by kernel_rfl, zsz := rfl, bsm := by decide }
/-- All its numbers are of 64 bits. -/
def FCa (x : Ca) : Prop := Fits x.ability ∧ Fits x.target ∧ Fits x.since ∧ Fits x.untl ∧ True
theorem cellsCa {w : World} {b o : Nat} {x : Ca} (h : ∀ j v, (encCa x)[j]? = some v → w.cell? ⟨b, o + j, none⟩ = some v) : w.cell? ⟨b, o, none⟩ = some (.int .i64 x.ability) ∧ w.cell? ⟨b, o + 1, none⟩ = some (.int .i64 x.target) ∧ w.cell? ⟨b, o + 2, none⟩ = some (.int .i64 x.since) ∧ w.cell? ⟨b, o + 3, none⟩ = some (.int .i64 x.untl) := ⟨h 0 _ rfl, h 1 _ rfl, h 2 _ rfl, h 3 _ rfl⟩
theorem Ca.ext' {a b : Ca} (h0 : a.ability = b.ability) (h1 : a.target = b.target) (h2 : a.since = b.since) (h3 : a.untl = b.untl) : a = b := by cases a; cases b; simp at *; exact ⟨h0, h1, h2, h3⟩

end Go.Proofs.Ytmhnkjjcipcjlaa.Con
