/-
  Rows of four numbers each: plain data, how each lies in cells.
-/
import Derived.Test.YtijobbdgiaiocaaElm
namespace Go.Proofs.Ytijobbdgiaiocaa.Con
open Go.RowKit Go.Maps

structure Q4 where
  a0 : Int
  a1 : Int
  a2 : Int
  a3 : Int
def encQ4 (x : Q4) : List Value := [.int .i64 x.a0, .int .i64 x.a1, .int .i64 x.a2, .int .i64 x.a3]
def q4 : El Q4 := { enc := encQ4, k := 4, e := 52, t := 51, z := .agg #[.int .i64 0, .int .i64 0, .int .i64 0, .int .i64 0], bytes := 32, klen := fun _ => rfl, one := by intro x u hu; simp [encQ4] at hu; rcases hu with rfl | rfl | rfl | rfl <;> rfl, kpos := by decide, und := Try.underlying51, info := by kernel_rfl, zsz := rfl, bsm := by decide }
def FQ4 (x : Q4) : Prop := Fits x.a0 ∧ Fits x.a1 ∧ Fits x.a2 ∧ Fits x.a3
theorem cellsQ4 {w : World} {b o : Nat} {x : Q4} (h : ∀ j v, (encQ4 x)[j]? = some v → w.cell? ⟨b, o + j, none⟩ = some v) : w.cell? ⟨b, o, none⟩ = some (.int .i64 x.a0) ∧ w.cell? ⟨b, o + 1, none⟩ = some (.int .i64 x.a1) ∧ w.cell? ⟨b, o + 2, none⟩ = some (.int .i64 x.a2) ∧ w.cell? ⟨b, o + 3, none⟩ = some (.int .i64 x.a3) := ⟨h 0 _ rfl, h 1 _ rfl, h 2 _ rfl, h 3 _ rfl⟩
end Go.Proofs.Ytijobbdgiaiocaa.Con
