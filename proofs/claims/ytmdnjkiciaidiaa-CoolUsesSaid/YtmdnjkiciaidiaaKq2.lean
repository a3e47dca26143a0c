/-
  Rows of two numbers each: plain data, how each lies in cells, how a slice of such comes in.
-/
import Derived.Test.YtmdnjkiciaidiaaOpn
namespace Go.Proofs.Ytmdnjkiciaidiaa.Con
open Go.RowKit Go.Maps

structure Q2 where
  a0 : Int
  a1 : Int
def encQ2 (x : Q2) : List Value := [.int .i64 x.a0, .int .i64 x.a1]
def q2 : El Q2 := { enc := encQ2, k := 2, e := 39, t := 38, z := .agg #[.int .i64 0, .int .i64 0], bytes := 16, klen := fun _ => rfl, one := by intro x u hu; simp [encQ2] at hu; rcases hu with rfl | rfl <;> rfl, kpos := by decide, und := Try.underlying38, info := by kernel_rfl, zsz := rfl, bsm := by decide }
def FQ2 (x : Q2) : Prop := Fits x.a0 ∧ Fits x.a1
theorem cellsQ2 {w : World} {b o : Nat} {x : Q2} (h : ∀ j v, (encQ2 x)[j]? = some v → w.cell? ⟨b, o + j, none⟩ = some v) : w.cell? ⟨b, o, none⟩ = some (.int .i64 x.a0) ∧ w.cell? ⟨b, o + 1, none⟩ = some (.int .i64 x.a1) := ⟨h 0 _ rfl, h 1 _ rfl⟩
end Go.Proofs.Ytmdnjkiciaidiaa.Con
namespace Go.Proofs.Ytmdnjkiciaidiaa.Opn
open Go.ChangeShapes Go.WideShapes Go.ChangeAt Go.RowKit Go.Deep Con Kop
section
variable {H : Type} {enc : TypeId × Value → H} {W : World} {sp : Nat → Bool}
set_option maxRecDepth 20000 in
theorem split_q2 (n : Nat) (cs : List Value) (x : DataW H × List MemPlace) (h : Rd enc W sp n 39 cs x) (hl : cs.length = 2) : ∃ s : Q2, cs = encQ2 s ∧ FQ2 s := by
  unfold Rd at h
  obtain ⟨xs, m, rfl, _, _, hxl, hf⟩ := DataW.trod_array Try.underlying39 h
  obtain ⟨v0, v1, rfl⟩ := list2 hl
  have f0 := hf 0 (by omega)
  have f1 := hf 1 (by omega)
  rw [cells3] at f0 f1
  simp at f0 f1
  rw [List.getElem?_eq_getElem (by omega)] at f0 f1
  obtain ⟨m0, e0, _, w0⟩ := DataW.trod_int Try.underlying3 f0
  obtain ⟨m1, e1, _, w1⟩ := DataW.trod_int Try.underlying3 f1
  injection e0 with e0
  injection e1 with e1
  exact ⟨⟨m0, m1⟩, by rw [e0, e1]; rfl, fits_of w0, fits_of w1⟩
set_option maxRecDepth 20000 in
/-- A slice of steps that comes in. -/
theorem viewQ2 {base : Nat} {v : Value} {d : DataW H} {p : List MemPlace} (hv : Value.okWide Try.prog W .any base 38 v) (h : DataW.Trod enc Try.prog W 0 sp true 38 v d p) : ∃ A c L, v = .slice A (List.length L) c ∧ RW q2 W W.heap.size A L ∧ ∀ s ∈ L, FQ2 s := by
  obtain ⟨a0, len, cap, rfl⟩ := okWide_slice Try.underlying38 hv
  obtain ⟨fuel, hf⟩ := h
  obtain ⟨A, c, L, e, _, h3, h4⟩ := open_rows q2 FQ2 (by kernel_rfl) (split_q2 (enc := enc) (W := W) (sp := sp)) hf
  simp [Value.cells] at e
  obtain ⟨rfl, rfl, rfl⟩ := e
  exact ⟨_, _, L, rfl, h3, h4⟩
end
end Go.Proofs.Ytmdnjkiciaidiaa.Opn
