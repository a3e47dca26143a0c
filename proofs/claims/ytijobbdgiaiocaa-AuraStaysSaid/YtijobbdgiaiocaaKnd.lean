/-
  The kinds of rows: plain data, how each lies in cells, its box.
-/
import Derived.Test.YtijobbdgiaiocaaElm
namespace Go.Proofs.Ytijobbdgiaiocaa.Con
open Go.RowKit Go.Maps

structure Sh where
  aura : Int
  left : Int
deriving DecidableEq
def encSh (x : Sh) : List Value := [.int .i64 x.aura, .int .i64 x.left]
/-- As a value. -/
abbrev shv (x : Sh) : Value := .agg #[.int .i64 x.aura, .int .i64 x.left]
/-- As a box. -/
abbrev oSh (x : Sh) : Obj := .cells #[.int .i64 x.aura, .int .i64 x.left] 76
def sh : El Sh := { enc := encSh, k := 2, e := 76, t := 73, z := .agg #[.int .i64 0, .int .i64 0], bytes := 16, klen := fun _ => rfl, one := by intro x u hu; simp [encSh] at hu; rcases hu with rfl | rfl <;> rfl, kpos := by decide, und := Try.underlying73, info := by kernel_rfl, zsz := rfl, bsm := by decide }
/-- All its numbers are of 64 bits. -/
def FSh (x : Sh) : Prop := Fits x.aura ∧ Fits x.left ∧ True
theorem cellsSh {w : World} {b o : Nat} {x : Sh} (h : ∀ j v, (encSh x)[j]? = some v → w.cell? ⟨b, o + j, none⟩ = some v) : w.cell? ⟨b, o, none⟩ = some (.int .i64 x.aura) ∧ w.cell? ⟨b, o + 1, none⟩ = some (.int .i64 x.left) := ⟨h 0 _ rfl, h 1 _ rfl⟩
theorem Sh.ext' {a b : Sh} (h0 : a.aura = b.aura) (h1 : a.left = b.left) : a = b := by cases a; cases b; simp at *; exact ⟨h0, h1⟩

structure Ac where
  aura : Int
  source : Int
  stacks : Int
  untl : Int
  nxt : Int
  left : Int
deriving DecidableEq
def encAc (x : Ac) : List Value := [.int .i64 x.aura, .int .i64 x.source, .int .i64 x.stacks, .int .i64 x.untl, .int .i64 x.nxt, .int .i64 x.left]
/-- As a value. -/
abbrev acv (x : Ac) : Value := .agg #[.int .i64 x.aura, .int .i64 x.source, .int .i64 x.stacks, .int .i64 x.untl, .int .i64 x.nxt, .int .i64 x.left]
/-- As a box. -/
abbrev oAc (x : Ac) : Obj := .cells #[.int .i64 x.aura, .int .i64 x.source, .int .i64 x.stacks, .int .i64 x.untl, .int .i64 x.nxt, .int .i64 x.left] 42
def ac : El Ac := { enc := encAc, k := 6, e := 42, t := 32, z := .agg #[.int .i64 0, .int .i64 0, .int .i64 0, .int .i64 0, .int .i64 0, .int .i64 0], bytes := 48, klen := fun _ => rfl, one := by intro x u hu; simp [encAc] at hu; rcases hu with rfl | rfl | rfl | rfl | rfl | rfl <;> rfl, kpos := by decide, und := Try.underlying32, info := by kernel_rfl, zsz := rfl, bsm := by decide }
/-- All its numbers are of 64 bits. -/
def FAc (x : Ac) : Prop := Fits x.aura ∧ Fits x.source ∧ Fits x.stacks ∧ Fits x.untl ∧ Fits x.nxt ∧ Fits x.left ∧ True
theorem cellsAc {w : World} {b o : Nat} {x : Ac} (h : ∀ j v, (encAc x)[j]? = some v → w.cell? ⟨b, o + j, none⟩ = some v) : w.cell? ⟨b, o, none⟩ = some (.int .i64 x.aura) ∧ w.cell? ⟨b, o + 1, none⟩ = some (.int .i64 x.source) ∧ w.cell? ⟨b, o + 2, none⟩ = some (.int .i64 x.stacks) ∧ w.cell? ⟨b, o + 3, none⟩ = some (.int .i64 x.untl) ∧ w.cell? ⟨b, o + 4, none⟩ = some (.int .i64 x.nxt) ∧ w.cell? ⟨b, o + 5, none⟩ = some (.int .i64 x.left) := ⟨h 0 _ rfl, h 1 _ rfl, h 2 _ rfl, h 3 _ rfl, h 4 _ rfl, h 5 _ rfl⟩
theorem Ac.ext' {a b : Ac} (h0 : a.aura = b.aura) (h1 : a.source = b.source) (h2 : a.stacks = b.stacks) (h3 : a.untl = b.untl) (h4 : a.nxt = b.nxt) (h5 : a.left = b.left) : a = b := by cases a; cases b; simp at *; exact ⟨h0, h1, h2, h3, h4, h5⟩

def encNu (x : Int) : List Value := [.int .i64 x]
def nu : El Int := { enc := encNu, k := 1, e := 3, t := 77, z := .int .i64 0, bytes := 8, klen := fun _ => rfl, one := by intro x u hu; simp [encNu] at hu; rcases hu with rfl; rfl, kpos := by decide, und := Try.underlying77, info := by kernel_rfl, zsz := rfl, bsm := by decide }
theorem cellsNu {w : World} {b o : Nat} {x : Int} (h : ∀ j v, (encNu x)[j]? = some v → w.cell? ⟨b, o + j, none⟩ = some v) : w.cell? ⟨b, o, none⟩ = some (.int .i64 x) := h 0 _ rfl
end Go.Proofs.Ytijobbdgiaiocaa.Con
