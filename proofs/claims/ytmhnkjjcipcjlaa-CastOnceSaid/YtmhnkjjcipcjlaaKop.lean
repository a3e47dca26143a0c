/-
  How slices of plain structs and of numbers come in.
-/
import Derived.Test.YtmhnkjjcipcjlaaKnd
import Derived.ProofKit
import Derived.OpenShut
import Derived.Carry
import Derived.ChangeSlices
import Derived.Lib.SmallJoins
import Derived.Deep.Slices
namespace Go.Proofs.Ytmhnkjjcipcjlaa.Kop
open Go.ChangeShapes Go.WideShapes Go.ChangeAt Go.RowKit Go.Deep Con
set_option linter.unusedVariables false

theorem laidOut : laidOutB Try.prog = true := by kernel_rfl
theorem fits_of {n : Int} (h : (Lit.int .i64 n).wf = true) : Fits n := bounds_i64 h
theorem cells3 : Try.prog.cellsOf 3 = 1 := by kernel_rfl
theorem cells4 : Try.prog.cellsOf 4 = 1 := by kernel_rfl
section
variable {H : Type} {enc : TypeId × Value → H} {W : World} {sp : Nat → Bool}
abbrev Rd (enc : TypeId × Value → H) (W : World) (sp : Nat → Bool) (n : Nat) (t : TypeId) (cs : List Value) (x : DataW H × List MemPlace) : Prop := DataW.trod enc Try.prog W 0 sp true n t cs = some x

theorem fld {t : TypeId} {fs : Array Field} {n : Nat} {cs : List Value} {x : DataW H × List MemPlace} (ht : Try.prog.underlying t = some (.struct fs)) (h : Rd enc W sp n t cs x) (i : Nat) (f : Field) (hi : fs[i]? = some f) :
    ∃ m y, Rd enc W sp m f.type ((cs.drop f.offset).take (Try.prog.cellsOf f.type)) y := by
  obtain ⟨xs, m, _, _, _, hl, hf⟩ := DataW.trod_struct ht h
  have h1 := hf i f hi
  have h2 : i < xs.length := by rw [hl]; exact (Array.getElem?_eq_some_iff.1 hi).1
  rw [List.getElem?_eq_getElem h2] at h1
  exact ⟨m, _, h1⟩
theorem one_of {cs : List Value} {o : Nat} {v : Value} (h : cs[o]? = some v) : (cs.drop o).take 1 = [v] := by
  obtain ⟨hlt, rfl⟩ := List.getElem?_eq_some_iff.1 h
  rw [List.drop_eq_getElem_cons hlt]; rfl
theorem fldI {t : TypeId} {fs : Array Field} {n : Nat} {cs : List Value} {x : DataW H × List MemPlace} (ht : Try.prog.underlying t = some (.struct fs)) (h : Rd enc W sp n t cs x) (i : Nat) (f : Field) (hi : fs[i]? = some f) (hty : f.type = 3) {v : Value} (hv : cs[f.offset]? = some v) : ∃ m, v = .int .i64 m ∧ Fits m := by
  obtain ⟨m, y, h1⟩ := fld ht h i f hi
  unfold Rd at h1
  rw [hty, cells3, one_of hv] at h1
  obtain ⟨a, e, _, w⟩ := DataW.trod_int Try.underlying3 h1
  exact ⟨a, by simpa using e, fits_of w⟩
theorem fldB {t : TypeId} {fs : Array Field} {n : Nat} {cs : List Value} {x : DataW H × List MemPlace} (ht : Try.prog.underlying t = some (.struct fs)) (h : Rd enc W sp n t cs x) (i : Nat) (f : Field) (hi : fs[i]? = some f) (hty : f.type = 4) {v : Value} (hv : cs[f.offset]? = some v) : ∃ m, v = .bool m := by
  obtain ⟨m, y, h1⟩ := fld ht h i f hi
  unfold Rd at h1
  rw [hty, cells4, one_of hv] at h1
  obtain ⟨a, e, _⟩ := DataW.trod_bool Try.underlying4 h1
  exact ⟨a, by simpa using e⟩

theorem open_rows {α : Type} (E : El α) (P : α → Prop) (hk : Try.prog.cellsOf E.e = E.k) (split : ∀ n cs x, Rd enc W sp n E.e cs x → cs.length = E.k → ∃ s, cs = E.enc s ∧ P s) {n : Nat} {cs : List Value} {x : DataW H × List MemPlace} (h : Rd enc W sp n E.t cs x) :
    ∃ A c L, cs = [.slice A (List.length L) c] ∧ List.length L ≤ c ∧ RW E W W.heap.size A L ∧ ∀ s ∈ L, P s := by
  rcases open_slice E.und h with ⟨hcs, _⟩ | ⟨a, len, cap, m, n', D, Pl, hcs, _, hl, hm, hmm, hx, hcell⟩
  · exact ⟨none, 0, [], by simpa using hcs, by simp, .inl rfl, by simp⟩
  · have hlm : len ≤ m := by rw [hmm]; split <;> omega
    have each : ∀ i, i < m → ∃ s, (∀ j v, (E.enc s)[j]? = some v → W.cell? ((a.add (i * E.k)).add j) = some v) ∧ P s := by
      intro i hi
      obtain ⟨cs', h1, h2⟩ := hcell i hi
      rw [hk] at h1
      obtain ⟨_, hlen, hc⟩ := World.cells?_some h1
      obtain ⟨s, rfl, hp⟩ := split _ _ _ h2 hlen
      refine ⟨s, fun j v hv => ?_, hp⟩
      have hj : j < E.k := by have := (List.getElem?_eq_some_iff.1 hv).1; rw [E.klen] at this; exact this
      rw [hc j hj]; exact hv
    have hlist : ∃ L : List α, L.length = len ∧ ∀ i s, L[i]? = some s → (∀ j v, (E.enc s)[j]? = some v → W.cell? ((a.add (i * E.k)).add j) = some v) ∧ P s := by
      have each' : ∀ i, i < len → ∃ s, (∀ j v, (E.enc s)[j]? = some v → W.cell? ((a.add (i * E.k)).add j) = some v) ∧ P s := fun i hi => each i (by omega)
      clear hcell hx hcs hl hm hmm hlm each
      induction len with
      | zero => exact ⟨[], rfl, fun i s hs => by simp at hs⟩
      | succ len ih =>
        obtain ⟨L, hL, hs⟩ := ih (fun i hi => each' i (by omega))
        obtain ⟨s, h1, h2⟩ := each' len (by omega)
        refine ⟨L ++ [s], by simp [hL], fun i s' hi => ?_⟩
        by_cases hil : i < L.length
        · rw [List.getElem?_append_left hil] at hi; exact hs i s' hi
        · rw [List.getElem?_append_right (by omega)] at hi
          have hi0 : i = len := by
            have := (List.getElem?_eq_some_iff.1 hi).1
            simp at this; omega
          subst hi0
          simp [hL] at hi
          subst hi
          exact ⟨h1, h2⟩
    obtain ⟨L, hL, hs⟩ := hlist
    refine ⟨some a, cap, L, by rw [hcs, hL], by omega, ?_, fun s hm => ?_⟩
    · by_cases h0 : L = []
      · exact .inl h0
      · obtain ⟨s0, hs0⟩ : ∃ s, L[0]? = some s := ⟨_, List.getElem?_eq_getElem (List.length_pos_iff.2 h0)⟩
        obtain ⟨b, off, spot⟩ := a
        have hc0 := (hs 0 s0 hs0).1 0 _ (List.getElem?_eq_getElem (by rw [E.klen]; exact E.kpos))
        have hspot : spot = none := by simpa [Addr.add] using World.cell?_spot hc0
        subst hspot
        have hbl : b < W.heap.size := by
          have := World.block_lt_of_cell? W _ hc0
          rw [add_at, add_at] at this
          exact this
        refine .inr ⟨b, off, rfl, hbl, fun i x hx j v hv => ?_⟩
        have := (hs i x hx).1 j v hv
        rw [add_at, add_at] at this
        exact this
    · obtain ⟨i, hi, rfl⟩ := List.getElem_of_mem hm
      exact (hs i _ (List.getElem?_eq_getElem hi)).2

set_option maxRecDepth 20000 in
theorem list1 {l : List Value} (h : l.length = 1) : ∃ v0, l = [v0] := by
  match l, h with
  | [v0], _ => exact ⟨v0, rfl⟩

set_option maxRecDepth 20000 in
theorem list4 {l : List Value} (h : l.length = 4) : ∃ v0 v1 v2 v3, l = [v0, v1, v2, v3] := by
  match l, h with
  | [v0, v1, v2, v3], _ => exact ⟨v0, v1, v2, v3, rfl⟩

set_option maxRecDepth 20000 in
theorem split_ca (n : Nat) (cs : List Value) (x : DataW H × List MemPlace) (h : Rd enc W sp n 25 cs x) (hl : cs.length = 4) : ∃ s : Ca, cs = encCa s ∧ FCa s := by
  obtain ⟨v0, v1, v2, v3, rfl⟩ := list4 hl
  obtain ⟨m0, rfl, f0⟩ := fldI Try.underlying25 h 0 _ rfl rfl rfl
  obtain ⟨m1, rfl, f1⟩ := fldI Try.underlying25 h 1 _ rfl rfl rfl
  obtain ⟨m2, rfl, f2⟩ := fldI Try.underlying25 h 2 _ rfl rfl rfl
  obtain ⟨m3, rfl, f3⟩ := fldI Try.underlying25 h 3 _ rfl rfl rfl
  exact ⟨⟨m0, m1, m2, m3⟩, rfl, f0, f1, f2, f3, trivial⟩

set_option maxRecDepth 20000 in
/-- A slice of such that comes in. -/
theorem viewCa {base : Nat} {v : Value} {d : DataW H} {p : List MemPlace} (hv : Value.okWide Try.prog W .any base 28 v) (h : DataW.Trod enc Try.prog W 0 sp true 28 v d p) : ∃ A c L, v = .slice A (List.length L) c ∧ RW ca W W.heap.size A L ∧ ∀ s ∈ L, FCa s := by
  obtain ⟨a0, len, cap, rfl⟩ := okWide_slice Try.underlying28 hv
  obtain ⟨fuel, hf⟩ := h
  obtain ⟨A, c, L, e, _, h3, h4⟩ := open_rows ca FCa (by kernel_rfl) (split_ca (enc := enc) (W := W) (sp := sp)) hf
  simp [Value.cells] at e
  obtain ⟨rfl, rfl, rfl⟩ := e
  exact ⟨_, _, L, rfl, h3, h4⟩
end
end Go.Proofs.Ytmhnkjjcipcjlaa.Kop
