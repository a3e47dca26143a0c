/-
  The kinds of a content's parts: how each lies in cells.
-/
import Derived.Test.YtijobbdgiaiocaaGrd
import Derived.Test.YtijobbdgiaiocaaDat
import Derived.Test.YtijobbdgiaiocaaElm
namespace Go.Proofs.Ytijobbdgiaiocaa.Con
open Go.RowKit Go.Maps

def encEf (x : Ef) : List Value := [.int .i64 x.kind, .int .i64 x.amount, .int .i64 x.aura]
def encLn (x : Ln) : List Value := [.int .i64 x.phase, .int .i64 x.whn, .int .i64 x.arg, .int .i64 x.dos, .int .i64 x.value]
def encPz (x : Pz) : List Value := [.int .i64 x.item, .int .i64 x.weight]
def encAu (x : Au) : List Value := [.int .i64 x.id, .int .i64 x.kind, .int .i64 x.ticks, .int .i64 x.every, .int .i64 x.stacks, .int .i64 x.amount, .bool x.harm]
def encAb (x : Ab) : List Value := [.int .i64 x.id, .int .i64 x.cast, .int .i64 x.cool, .int .i64 x.charges, .int .i64 x.range, .int .i64 x.cost, .bool x.sight, .slice x.ea x.eff.length x.ec]
def encFo (x : Fo) : List Value := [.int .i64 x.id, .int .i64 x.health, .int .i64 x.hit, .int .i64 x.every, .int .i64 x.reach, .slice x.sa x.script.length x.sc, .slice x.ha x.hoard.length x.hc, .int .i64 x.drops]
def encBo (x : Bool) : List Value := [.bool x]
def ef : El Ef := { enc := encEf, k := 3, e := 112, t := 60, z := .agg #[.int .i64 0, .int .i64 0, .int .i64 0], bytes := 24, klen := fun _ => rfl, one := by intro x u hu; simp [encEf] at hu; rcases hu with rfl | rfl | rfl <;> rfl, kpos := by decide, und := Try.underlying60, info := by kernel_rfl, zsz := rfl, bsm := by decide }
def ln : El Ln := { enc := encLn, k := 5, e := 117, t := 63, z := .agg #[.int .i64 0, .int .i64 0, .int .i64 0, .int .i64 0, .int .i64 0], bytes := 40, klen := fun _ => rfl, one := by intro x u hu; simp [encLn] at hu; rcases hu with rfl | rfl | rfl | rfl | rfl <;> rfl, kpos := by decide, und := Try.underlying63, info := by kernel_rfl, zsz := rfl, bsm := by decide }
def pz : El Pz := { enc := encPz, k := 2, e := 122, t := 64, z := .agg #[.int .i64 0, .int .i64 0], bytes := 16, klen := fun _ => rfl, one := by intro x u hu; simp [encPz] at hu; rcases hu with rfl | rfl <;> rfl, kpos := by decide, und := Try.underlying64, info := by kernel_rfl, zsz := rfl, bsm := by decide }
def au : El Au := { enc := encAu, k := 7, e := 54, t := 23, z := .agg #[.int .i64 0, .int .i64 0, .int .i64 0, .int .i64 0, .int .i64 0, .int .i64 0, .bool false], bytes := 56, klen := fun _ => rfl, one := by intro x u hu; simp [encAu] at hu; rcases hu with rfl | rfl | rfl | rfl | rfl | rfl | rfl <;> rfl, kpos := by decide, und := Try.underlying23, info := by kernel_rfl, zsz := rfl, bsm := by decide }
def ab : El Ab := { enc := encAb, k := 8, e := 62, t := 22, z := .agg #[.int .i64 0, .int .i64 0, .int .i64 0, .int .i64 0, .int .i64 0, .int .i64 0, .bool false, .slice none 0 0], bytes := 80, klen := fun _ => rfl, one := by intro x u hu; simp [encAb] at hu; rcases hu with rfl | rfl | rfl | rfl | rfl | rfl | rfl | rfl <;> rfl, kpos := by decide, und := Try.underlying22, info := by kernel_rfl, zsz := rfl, bsm := by decide }
def fo : El Fo := { enc := encFo, k := 8, e := 66, t := 24, z := .agg #[.int .i64 0, .int .i64 0, .int .i64 0, .int .i64 0, .int .i64 0, .slice none 0 0, .slice none 0 0, .int .i64 0], bytes := 96, klen := fun _ => rfl, one := by intro x u hu; simp [encFo] at hu; rcases hu with rfl | rfl | rfl | rfl | rfl | rfl | rfl | rfl <;> rfl, kpos := by decide, und := Try.underlying24, info := by kernel_rfl, zsz := rfl, bsm := by decide }
def bo : El Bool := { enc := encBo, k := 1, e := 4, t := 25, z := .bool false, bytes := 1, klen := fun _ => rfl, one := by intro x u hu; simp [encBo] at hu; rcases hu with rfl; rfl, kpos := by decide, und := Try.underlying25, info := by kernel_rfl, zsz := rfl, bsm := by decide }

end Go.Proofs.Ytijobbdgiaiocaa.Con
