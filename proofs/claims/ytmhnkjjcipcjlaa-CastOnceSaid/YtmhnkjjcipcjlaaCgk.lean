/-
  A Casting as nine numbers: as a value, as a box; how one comes in; rows of three numbers each.
-/
import Derived.Test.YtmhnkjjcipcjlaaKop
import Derived.Test.YtmhnkjjcipcjlaaCap
namespace Go.Proofs.Ytmhnkjjcipcjlaa.Con
open Go.RowKit Go.Maps

abbrev cgv (s : Cg) : Value := .agg #[.int .i64 s.now.ability, .int .i64 s.now.target, .int .i64 s.now.since, .int .i64 s.now.untl, .int .i64 s.next.ability, .int .i64 s.next.target, .int .i64 s.next.since, .int .i64 s.next.untl, .int .i64 s.wait]
abbrev oCg (s : Cg) : Obj := .cells #[.int .i64 s.now.ability, .int .i64 s.now.target, .int .i64 s.now.since, .int .i64 s.now.untl, .int .i64 s.next.ability, .int .i64 s.next.target, .int .i64 s.next.since, .int .i64 s.next.untl, .int .i64 s.wait] 27
def FCg (s : Cg) : Prop := FCa s.now ∧ FCa s.next ∧ Fits s.wait
structure Q3 where
  a0 : Int
  a1 : Int
  a2 : Int
def encQ3 (x : Q3) : List Value := [.int .i64 x.a0, .int .i64 x.a1, .int .i64 x.a2]
def q3 : El Q3 := { enc := encQ3, k := 3, e := 29, t := 22, z := .agg #[.int .i64 0, .int .i64 0, .int .i64 0], bytes := 24, klen := fun _ => rfl, one := by intro x u hu; simp [encQ3] at hu; rcases hu with rfl | rfl | rfl <;> rfl, kpos := by decide, und := Try.underlying22, info := by kernel_rfl, zsz := rfl, bsm := by decide }
def FQ3 (x : Q3) : Prop := Fits x.a0 ∧ Fits x.a1 ∧ Fits x.a2
theorem cellsQ3 {w : World} {b o : Nat} {x : Q3} (h : ∀ j v, (encQ3 x)[j]? = some v → w.cell? ⟨b, o + j, none⟩ = some v) : w.cell? ⟨b, o, none⟩ = some (.int .i64 x.a0) ∧ w.cell? ⟨b, o + 1, none⟩ = some (.int .i64 x.a1) ∧ w.cell? ⟨b, o + 2, none⟩ = some (.int .i64 x.a2) := ⟨h 0 _ rfl, h 1 _ rfl, h 2 _ rfl⟩
end Go.Proofs.Ytmhnkjjcipcjlaa.Con
namespace Go.Proofs.Ytmhnkjjcipcjlaa.Opn
open Go.ChangeShapes Go.WideShapes Go.ChangeAt Go.RowKit Go.Deep Con Kop
set_option linter.unusedVariables false
section
variable {H : Type} {enc : TypeId × Value → H} {W : World} {sp : Nat → Bool}
theorem list9 {l : List Value} (h : l.length = 9) : ∃ v0 v1 v2 v3 v4 v5 v6 v7 v8, l = [v0, v1, v2, v3, v4, v5, v6, v7, v8] := by
  match l, h with
  | [v0, v1, v2, v3, v4, v5, v6, v7, v8], _ => exact ⟨v0, v1, v2, v3, v4, v5, v6, v7, v8, rfl⟩
theorem list3' {l : List Value} (h : l.length = 3) : ∃ v0 v1 v2, l = [v0, v1, v2] := by
  match l, h with
  | [v0, v1, v2], _ => exact ⟨v0, v1, v2, rfl⟩
set_option maxRecDepth 20000 in
/-- A Casting that comes in. -/
theorem viewG {base : Nat} {v : Value} {d : DataW H} {p : List MemPlace} (hv : Value.okWide Try.prog W .any base 27 v) (h : DataW.Trod enc Try.prog W 0 sp true 27 v d p) : ∃ s : Cg, v = cgv s ∧ FCg s := by
  obtain ⟨cs, rfl, hsz⟩ := okWide_struct Try.underlying27 hv
  obtain ⟨fuel, hf⟩ := h
  have hcG : Try.prog.cellsOf 27 = 9 := by kernel_rfl
  have hcC : Try.prog.cellsOf 25 = 4 := by kernel_rfl
  rw [hcG] at hsz
  obtain ⟨l⟩ := cs
  obtain ⟨v0, v1, v2, v3, v4, v5, v6, v7, v8, rfl⟩ := list9 (l := l) (by simpa using hsz)
  have hf : Rd enc W sp fuel 27 [v0, v1, v2, v3, v4, v5, v6, v7, v8] (d, p) := by simpa [Value.cells] using hf
  obtain ⟨n0, y0, h0⟩ := fld Try.underlying27 hf 0 _ rfl
  obtain ⟨n1, y1, h1⟩ := fld Try.underlying27 hf 1 _ rfl
  obtain ⟨m8, rfl, fm8⟩ := fldI Try.underlying27 hf 2 _ rfl rfl rfl
  have h0 : Rd enc W sp n0 25 [v0, v1, v2, v3] y0 := by
    have h9 : Rd enc W sp n0 25 (List.take (Try.prog.cellsOf 25) (List.drop 0 [v0, v1, v2, v3, v4, v5, v6, v7, .int .i64 m8])) y0 := h0
    rw [hcC] at h9; exact h9
  have h1 : Rd enc W sp n1 25 [v4, v5, v6, v7] y1 := by
    have h9 : Rd enc W sp n1 25 (List.take (Try.prog.cellsOf 25) (List.drop 4 [v0, v1, v2, v3, v4, v5, v6, v7, .int .i64 m8])) y1 := h1
    rw [hcC] at h9; exact h9
  obtain ⟨m0, rfl, fm0⟩ := fldI Try.underlying25 h0 0 _ rfl rfl rfl
  obtain ⟨m1, rfl, fm1⟩ := fldI Try.underlying25 h0 1 _ rfl rfl rfl
  obtain ⟨m2, rfl, fm2⟩ := fldI Try.underlying25 h0 2 _ rfl rfl rfl
  obtain ⟨m3, rfl, fm3⟩ := fldI Try.underlying25 h0 3 _ rfl rfl rfl
  obtain ⟨m4, rfl, fm4⟩ := fldI Try.underlying25 h1 0 _ rfl rfl rfl
  obtain ⟨m5, rfl, fm5⟩ := fldI Try.underlying25 h1 1 _ rfl rfl rfl
  obtain ⟨m6, rfl, fm6⟩ := fldI Try.underlying25 h1 2 _ rfl rfl rfl
  obtain ⟨m7, rfl, fm7⟩ := fldI Try.underlying25 h1 3 _ rfl rfl rfl
  exact ⟨⟨⟨m0, m1, m2, m3⟩, ⟨m4, m5, m6, m7⟩, m8⟩, rfl, ⟨fm0, fm1, fm2, fm3, trivial⟩, ⟨fm4, fm5, fm6, fm7, trivial⟩, fm8⟩
set_option maxRecDepth 20000 in
theorem split_q3 (n : Nat) (cs : List Value) (x : DataW H × List MemPlace) (h : Rd enc W sp n 29 cs x) (hl : cs.length = 3) : ∃ s : Q3, cs = encQ3 s ∧ FQ3 s := by
  unfold Rd at h
  obtain ⟨xs, m, rfl, _, _, hxl, hf⟩ := DataW.trod_array Try.underlying29 h
  obtain ⟨v0, v1, v2, rfl⟩ := list3' hl
  have f0 := hf 0 (by omega)
  have f1 := hf 1 (by omega)
  have f2 := hf 2 (by omega)
  rw [cells3] at f0 f1 f2
  simp at f0 f1 f2
  rw [List.getElem?_eq_getElem (by omega)] at f0 f1 f2
  obtain ⟨m0, e0, _, w0⟩ := DataW.trod_int Try.underlying3 f0
  obtain ⟨m1, e1, _, w1⟩ := DataW.trod_int Try.underlying3 f1
  obtain ⟨m2, e2, _, w2⟩ := DataW.trod_int Try.underlying3 f2
  injection e0 with e0
  injection e1 with e1
  injection e2 with e2
  exact ⟨⟨m0, m1, m2⟩, by rw [e0, e1, e2]; rfl, fits_of w0, fits_of w1, fits_of w2⟩
set_option maxRecDepth 20000 in
/-- A slice of steps that comes in. -/
theorem viewQ3 {base : Nat} {v : Value} {d : DataW H} {p : List MemPlace} (hv : Value.okWide Try.prog W .any base 22 v) (h : DataW.Trod enc Try.prog W 0 sp true 22 v d p) : ∃ A c L, v = .slice A (List.length L) c ∧ RW q3 W W.heap.size A L ∧ ∀ s ∈ L, FQ3 s := by
  obtain ⟨a0, len, cap, rfl⟩ := okWide_slice Try.underlying22 hv
  obtain ⟨fuel, hf⟩ := h
  obtain ⟨A, c, L, e, _, h3, h4⟩ := open_rows q3 FQ3 (by kernel_rfl) (split_q3 (enc := enc) (W := W) (sp := sp)) hf
  simp [Value.cells] at e
  obtain ⟨rfl, rfl, rfl⟩ := e
  exact ⟨_, _, L, rfl, h3, h4⟩
end
end Go.Proofs.Ytmhnkjjcipcjlaa.Opn
