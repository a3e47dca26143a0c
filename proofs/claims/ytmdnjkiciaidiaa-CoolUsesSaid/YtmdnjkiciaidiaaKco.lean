/-
  The kind of a Cool: an ability's Id and its Back, with the address of the Back; how it lies in cells.
-/
import Derived.Test.YtmdnjkiciaidiaaKnd
import Derived.Test.YtmdnjkiciaidiaaKrw
import Derived.Test.YtmdnjkiciaidiaaCup
namespace Go.Proofs.Ytmdnjkiciaidiaa.Con
open Go.RowKit Go.Maps

structure Co where
  id : Int
  ba : Option Addr
  bk : List Int
  bc : Nat
def encCo (x : Co) : List Value := [.int .i64 x.id, .slice x.ba x.bk.length x.bc]
abbrev cov (x : Co) : Value := .agg #[.int .i64 x.id, .slice x.ba x.bk.length x.bc]
abbrev oCo (x : Co) : Obj := .cells #[.int .i64 x.id, .slice x.ba x.bk.length x.bc] 35
def co : El Co := { enc := encCo, k := 2, e := 35, t := 22, z := .agg #[.int .i64 0, .slice none 0 0], bytes := 32, klen := fun _ => rfl, one := by intro x u hu; simp [encCo] at hu; rcases hu with rfl | rfl <;> rfl, kpos := by decide, und := Try.underlying22, info := by kernel_rfl, zsz := rfl, bsm := by decide }
def FCo (x : Co) : Prop := Fits x.id ∧ ∀ y ∈ x.bk, Fits y
def Co.pl (x : Co) : Cp := (x.id, x.bk)
theorem cellsCo {w : World} {b o : Nat} {x : Co} (h : ∀ j v, (encCo x)[j]? = some v → w.cell? ⟨b, o + j, none⟩ = some v) : w.cell? ⟨b, o, none⟩ = some (.int .i64 x.id) ∧ w.cell? ⟨b, o + 1, none⟩ = some (.slice x.ba x.bk.length x.bc) := ⟨h 0 _ rfl, h 1 _ rfl⟩
/-- Rows of Cool as they read; of the call's own; beside a row of numbers; to be written over. -/
abbrev KRc := KR co nu Co.ba Co.bk
abbrev KOc := KO co nu Co.ba Co.bk
abbrev K2c := K2 co nu Co.ba Co.bk
abbrev KMc := KM co Co.ba Co.bk
/-! ### an ability, as it comes in -/
structure Abl where
  id : Int
  cast : Int
  cool : Int
  charges : Int
  range : Int
  cost : Int
  sight : Bool
  ea : Option Addr
  en : Nat
  ec : Nat
abbrev ablv (x : Abl) : Value := .agg #[.int .i64 x.id, .int .i64 x.cast, .int .i64 x.cool, .int .i64 x.charges, .int .i64 x.range, .int .i64 x.cost, .bool x.sight, .slice x.ea x.en x.ec]
abbrev oAbl (x : Abl) : Obj := .cells #[.int .i64 x.id, .int .i64 x.cast, .int .i64 x.cool, .int .i64 x.charges, .int .i64 x.range, .int .i64 x.cost, .bool x.sight, .slice x.ea x.en x.ec] 25
/-- What a box of an ability reads, wherever it stays. -/
theorem box_abl {w V : World} {x : Abl} (hb : Below (w.alloc (oAbl x)).heap.size (w.alloc (oAbl x)) V) : w.heap.size < V.heap.size ∧ V.heap[w.heap.size]? = some (oAbl x) ∧ V.cell? ⟨w.heap.size, 0, none⟩ = some (.int .i64 x.id) ∧ V.cell? ⟨w.heap.size, 2, none⟩ = some (.int .i64 x.cool) ∧ V.cell? ⟨w.heap.size, 3, none⟩ = some (.int .i64 x.charges) := by
  have h1 : w.heap.size < (w.alloc (oAbl x)).heap.size := by simp
  have h2 : V.heap[w.heap.size]? = some (oAbl x) := (hb.block _ h1).trans (heap_alloc_new w _)
  exact ⟨Nat.lt_of_lt_of_le h1 hb.size, h2, cell_of_row V _ 0 _ _ (0, 0) h2, cell_of_row V _ 2 _ _ (0, 0) h2, cell_of_row V _ 3 _ _ (0, 0) h2⟩
theorem cellsAbl {V : World} {p : Nat} {x : Abl} (h : V.heap[p]? = some (oAbl x)) : ∀ o, V.cell? ⟨p, o, none⟩ = (#[.int .i64 x.id, .int .i64 x.cast, .int .i64 x.cool, .int .i64 x.charges, .int .i64 x.range, .int .i64 x.cost, .bool x.sight, .slice x.ea x.en x.ec] : Array Value)[o]? := fun o => cell_of_row V p o _ _ (0, 0) h
end Go.Proofs.Ytmdnjkiciaidiaa.Con
