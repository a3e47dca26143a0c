/-
  How content that comes in is read: rows of structs that hold rows of structs.
-/
import Derived.Test.YtijobbdgiaiocaaAup
import Derived.Test.YtijobbdgiaiocaaKnq
import Derived.ProofKit
import Derived.OpenShut
import Derived.Carry
import Derived.ChangeSlices
import Derived.Lib.SmallJoins
import Derived.Deep.Slices
namespace Go.Proofs.Ytijobbdgiaiocaa.Open
open Go.ChangeShapes Go.WideShapes Go.ChangeAt Go.RowKit Go.Deep Con
set_option linter.unusedVariables false

theorem rw_rbO {w : World} {B : Nat} {A : Option Addr} {l : List Bool} (h : RW bo w B A l) : RB w B A l := by
  rcases h with rfl | ⟨b, off, hA, hlt, hc⟩
  · exact .inl rfl
  · refine .inr ⟨b, off, hA, hlt, fun i x hx => ?_⟩
    have := hc i x hx 0 (.bool x) rfl
    simpa [bo] using this
theorem laidOut : laidOutB Try.prog = true := by kernel_rfl
theorem fits_of {n : Int} (h : (Lit.int .i64 n).wf = true) : Fits n := bounds_i64 h
theorem cells3 : Try.prog.cellsOf 3 = 1 := by kernel_rfl
theorem cells4 : Try.prog.cellsOf 4 = 1 := by kernel_rfl
section
variable {H : Type} {enc : TypeId × Value → H} {W : World} {sp : Nat → Bool}
abbrev Rd (enc : TypeId × Value → H) (W : World) (sp : Nat → Bool) (n : Nat) (t : TypeId) (cs : List Value) (x : DataW H × List MemPlace) : Prop := DataW.trod enc Try.prog W 0 sp true n t cs = some x

theorem fld {t : TypeId} {fs : Array Field} {n : Nat} {cs : List Value} {x : DataW H × List MemPlace} (ht : Try.prog.underlying t = some (.struct fs)) (h : Rd enc W sp n t cs x) (i : Nat) (f : Field) (hi : fs[i]? = some f) :
    ∃ m y, Rd enc W sp m f.type ((cs.drop f.offset).take (Try.prog.cellsOf f.type)) y := by
  obtain ⟨xs, m, _, _, _, hl, hf⟩ := DataW.trod_struct ht h
  have h1 := hf i f hi
  have h2 : i < xs.length := by rw [hl]; exact (Array.getElem?_eq_some_iff.1 hi).1
  rw [List.getElem?_eq_getElem h2] at h1
  exact ⟨m, _, h1⟩
theorem one_of {cs : List Value} {o : Nat} {v : Value} (h : cs[o]? = some v) : (cs.drop o).take 1 = [v] := by
  obtain ⟨hlt, rfl⟩ := List.getElem?_eq_some_iff.1 h
  rw [List.drop_eq_getElem_cons hlt]; rfl
theorem fldI {t : TypeId} {fs : Array Field} {n : Nat} {cs : List Value} {x : DataW H × List MemPlace} (ht : Try.prog.underlying t = some (.struct fs)) (h : Rd enc W sp n t cs x) (i : Nat) (f : Field) (hi : fs[i]? = some f) (hty : f.type = 3) {v : Value} (hv : cs[f.offset]? = some v) : ∃ m, v = .int .i64 m ∧ Fits m := by
  obtain ⟨m, y, h1⟩ := fld ht h i f hi
  unfold Rd at h1
  rw [hty, cells3, one_of hv] at h1
  obtain ⟨a, e, _, w⟩ := DataW.trod_int Try.underlying3 h1
  exact ⟨a, by simpa using e, fits_of w⟩
theorem fldB {t : TypeId} {fs : Array Field} {n : Nat} {cs : List Value} {x : DataW H × List MemPlace} (ht : Try.prog.underlying t = some (.struct fs)) (h : Rd enc W sp n t cs x) (i : Nat) (f : Field) (hi : fs[i]? = some f) (hty : f.type = 4) {v : Value} (hv : cs[f.offset]? = some v) : ∃ m, v = .bool m := by
  obtain ⟨m, y, h1⟩ := fld ht h i f hi
  unfold Rd at h1
  rw [hty, cells4, one_of hv] at h1
  obtain ⟨a, e, _⟩ := DataW.trod_bool Try.underlying4 h1
  exact ⟨a, by simpa using e⟩

theorem open_rows {α : Type} (E : El α) (P : α → Prop) (hk : Try.prog.cellsOf E.e = E.k) (split : ∀ n cs x, Rd enc W sp n E.e cs x → cs.length = E.k → ∃ s, cs = E.enc s ∧ P s) {n : Nat} {cs : List Value} {x : DataW H × List MemPlace} (h : Rd enc W sp n E.t cs x) :
    ∃ A c L, cs = [.slice A (List.length L) c] ∧ List.length L ≤ c ∧ RW E W W.heap.size A L ∧ ∀ s ∈ L, P s := by
  rcases open_slice E.und h with ⟨hcs, _⟩ | ⟨a, len, cap, m, n', D, Pl, hcs, _, hl, hm, hmm, hx, hcell⟩
  · exact ⟨none, 0, [], by simpa using hcs, by simp, .inl rfl, by simp⟩
  · have hlm : len ≤ m := by rw [hmm]; split <;> omega
    have each : ∀ i, i < m → ∃ s, (∀ j v, (E.enc s)[j]? = some v → W.cell? ((a.add (i * E.k)).add j) = some v) ∧ P s := by
      intro i hi
      obtain ⟨cs', h1, h2⟩ := hcell i hi
      rw [hk] at h1
      obtain ⟨_, hlen, hc⟩ := World.cells?_some h1
      obtain ⟨s, rfl, hp⟩ := split _ _ _ h2 hlen
      refine ⟨s, fun j v hv => ?_, hp⟩
      have hj : j < E.k := by have := (List.getElem?_eq_some_iff.1 hv).1; rw [E.klen] at this; exact this
      rw [hc j hj]; exact hv
    have hlist : ∃ L : List α, L.length = len ∧ ∀ i s, L[i]? = some s → (∀ j v, (E.enc s)[j]? = some v → W.cell? ((a.add (i * E.k)).add j) = some v) ∧ P s := by
      have each' : ∀ i, i < len → ∃ s, (∀ j v, (E.enc s)[j]? = some v → W.cell? ((a.add (i * E.k)).add j) = some v) ∧ P s := fun i hi => each i (by omega)
      clear hcell hx hcs hl hm hmm hlm each
      induction len with
      | zero => exact ⟨[], rfl, fun i s hs => by simp at hs⟩
      | succ len ih =>
        obtain ⟨L, hL, hs⟩ := ih (fun i hi => each' i (by omega))
        obtain ⟨s, h1, h2⟩ := each' len (by omega)
        refine ⟨L ++ [s], by simp [hL], fun i s' hi => ?_⟩
        by_cases hil : i < L.length
        · rw [List.getElem?_append_left hil] at hi; exact hs i s' hi
        · rw [List.getElem?_append_right (by omega)] at hi
          have hi0 : i = len := by
            have := (List.getElem?_eq_some_iff.1 hi).1
            simp at this; omega
          subst hi0
          simp [hL] at hi
          subst hi
          exact ⟨h1, h2⟩
    obtain ⟨L, hL, hs⟩ := hlist
    refine ⟨some a, cap, L, by rw [hcs, hL], by omega, ?_, fun s hm => ?_⟩
    · by_cases h0 : L = []
      · exact .inl h0
      · obtain ⟨s0, hs0⟩ : ∃ s, L[0]? = some s := ⟨_, List.getElem?_eq_getElem (List.length_pos_iff.2 h0)⟩
        obtain ⟨b, off, spot⟩ := a
        have hc0 := (hs 0 s0 hs0).1 0 _ (List.getElem?_eq_getElem (by rw [E.klen]; exact E.kpos))
        have hspot : spot = none := by simpa [Addr.add] using World.cell?_spot hc0
        subst hspot
        have hbl : b < W.heap.size := by
          have := World.block_lt_of_cell? W _ hc0
          rw [add_at, add_at] at this
          exact this
        refine .inr ⟨b, off, rfl, hbl, fun i x hx j v hv => ?_⟩
        have := (hs i x hx).1 j v hv
        rw [add_at, add_at] at this
        exact this
    · obtain ⟨i, hi, rfl⟩ := List.getElem_of_mem hm
      exact (hs i _ (List.getElem?_eq_getElem hi)).2
theorem fldS {α : Type} (E : El α) (P : α → Prop) (hk : Try.prog.cellsOf E.e = E.k) (hk1 : Try.prog.cellsOf E.t = 1) (split : ∀ n cs x, Rd enc W sp n E.e cs x → cs.length = E.k → ∃ s, cs = E.enc s ∧ P s) {t : TypeId} {fs : Array Field} {n : Nat} {cs : List Value} {x : DataW H × List MemPlace} (ht : Try.prog.underlying t = some (.struct fs)) (h : Rd enc W sp n t cs x) (i : Nat) (f : Field) (hi : fs[i]? = some f) (hty : f.type = E.t) {v : Value} (hv : cs[f.offset]? = some v) :
    ∃ A c L, v = .slice A (List.length L) c ∧ List.length L ≤ c ∧ RW E W W.heap.size A L ∧ ∀ s ∈ L, P s := by
  obtain ⟨m, y, h1⟩ := fld ht h i f hi
  unfold Rd at h1
  rw [hty, hk1, one_of hv] at h1
  obtain ⟨A, c, L, e, h2, h3, h4⟩ := open_rows E P hk split h1
  exact ⟨A, c, L, by simpa using e, h2, h3, h4⟩

set_option maxRecDepth 20000 in
theorem list1 {l : List Value} (h : l.length = 1) : ∃ v0, l = [v0] := by
  match l, h with
  | [v0], _ => exact ⟨v0, rfl⟩

set_option maxRecDepth 20000 in
theorem list2 {l : List Value} (h : l.length = 2) : ∃ v0 v1, l = [v0, v1] := by
  match l, h with
  | [v0, v1], _ => exact ⟨v0, v1, rfl⟩

set_option maxRecDepth 20000 in
theorem list3 {l : List Value} (h : l.length = 3) : ∃ v0 v1 v2, l = [v0, v1, v2] := by
  match l, h with
  | [v0, v1, v2], _ => exact ⟨v0, v1, v2, rfl⟩

set_option maxRecDepth 20000 in
theorem list5 {l : List Value} (h : l.length = 5) : ∃ v0 v1 v2 v3 v4, l = [v0, v1, v2, v3, v4] := by
  match l, h with
  | [v0, v1, v2, v3, v4], _ => exact ⟨v0, v1, v2, v3, v4, rfl⟩

set_option maxRecDepth 20000 in
theorem list7 {l : List Value} (h : l.length = 7) : ∃ v0 v1 v2 v3 v4 v5 v6, l = [v0, v1, v2, v3, v4, v5, v6] := by
  match l, h with
  | [v0, v1, v2, v3, v4, v5, v6], _ => exact ⟨v0, v1, v2, v3, v4, v5, v6, rfl⟩

set_option maxRecDepth 20000 in
theorem list8 {l : List Value} (h : l.length = 8) : ∃ v0 v1 v2 v3 v4 v5 v6 v7, l = [v0, v1, v2, v3, v4, v5, v6, v7] := by
  match l, h with
  | [v0, v1, v2, v3, v4, v5, v6, v7], _ => exact ⟨v0, v1, v2, v3, v4, v5, v6, v7, rfl⟩

set_option maxRecDepth 20000 in
theorem list10 {l : List Value} (h : l.length = 10) : ∃ v0 v1 v2 v3 v4 v5 v6 v7 v8 v9, l = [v0, v1, v2, v3, v4, v5, v6, v7, v8, v9] := by
  match l, h with
  | [v0, v1, v2, v3, v4, v5, v6, v7, v8, v9], _ => exact ⟨v0, v1, v2, v3, v4, v5, v6, v7, v8, v9, rfl⟩

theorem split_ef (n : Nat) (cs : List Value) (x : DataW H × List MemPlace) (h : Rd enc W sp n 112 cs x) (hl : cs.length = 3) : ∃ s : Ef, cs = encEf s ∧ True := by
  obtain ⟨v0, v1, v2, rfl⟩ := list3 hl
  obtain ⟨m0, rfl, fm0⟩ := fldI Try.underlying112 h 0 _ rfl rfl rfl
  obtain ⟨m1, rfl, fm1⟩ := fldI Try.underlying112 h 1 _ rfl rfl rfl
  obtain ⟨m2, rfl, fm2⟩ := fldI Try.underlying112 h 2 _ rfl rfl rfl
  exact ⟨⟨m0, m1, m2⟩, rfl, trivial⟩

theorem split_ln (n : Nat) (cs : List Value) (x : DataW H × List MemPlace) (h : Rd enc W sp n 117 cs x) (hl : cs.length = 5) : ∃ s : Ln, cs = encLn s ∧ True := by
  obtain ⟨v0, v1, v2, v3, v4, rfl⟩ := list5 hl
  obtain ⟨m0, rfl, fm0⟩ := fldI Try.underlying117 h 0 _ rfl rfl rfl
  obtain ⟨m1, rfl, fm1⟩ := fldI Try.underlying117 h 1 _ rfl rfl rfl
  obtain ⟨m2, rfl, fm2⟩ := fldI Try.underlying117 h 2 _ rfl rfl rfl
  obtain ⟨m3, rfl, fm3⟩ := fldI Try.underlying117 h 3 _ rfl rfl rfl
  obtain ⟨m4, rfl, fm4⟩ := fldI Try.underlying117 h 4 _ rfl rfl rfl
  exact ⟨⟨m0, m1, m2, m3, m4⟩, rfl, trivial⟩

theorem split_pz (n : Nat) (cs : List Value) (x : DataW H × List MemPlace) (h : Rd enc W sp n 122 cs x) (hl : cs.length = 2) : ∃ s : Pz, cs = encPz s ∧ True := by
  obtain ⟨v0, v1, rfl⟩ := list2 hl
  obtain ⟨m0, rfl, fm0⟩ := fldI Try.underlying122 h 0 _ rfl rfl rfl
  obtain ⟨m1, rfl, fm1⟩ := fldI Try.underlying122 h 1 _ rfl rfl rfl
  exact ⟨⟨m0, m1⟩, rfl, trivial⟩

theorem split_au (n : Nat) (cs : List Value) (x : DataW H × List MemPlace) (h : Rd enc W sp n 54 cs x) (hl : cs.length = 7) : ∃ s : Au, cs = encAu s ∧ NAu s := by
  obtain ⟨v0, v1, v2, v3, v4, v5, v6, rfl⟩ := list7 hl
  obtain ⟨m0, rfl, fm0⟩ := fldI Try.underlying54 h 0 _ rfl rfl rfl
  obtain ⟨m1, rfl, fm1⟩ := fldI Try.underlying54 h 1 _ rfl rfl rfl
  obtain ⟨m2, rfl, fm2⟩ := fldI Try.underlying54 h 2 _ rfl rfl rfl
  obtain ⟨m3, rfl, fm3⟩ := fldI Try.underlying54 h 3 _ rfl rfl rfl
  obtain ⟨m4, rfl, fm4⟩ := fldI Try.underlying54 h 4 _ rfl rfl rfl
  obtain ⟨m5, rfl, fm5⟩ := fldI Try.underlying54 h 5 _ rfl rfl rfl
  obtain ⟨m6, rfl⟩ := fldB Try.underlying54 h 6 _ rfl rfl rfl
  exact ⟨⟨m0, m1, m2, m3, m4, m5, m6⟩, rfl, fm2, fm3, fm4, fm5⟩

theorem split_bo (n : Nat) (cs : List Value) (x : DataW H × List MemPlace) (h : Rd enc W sp n 4 cs x) (_hl : cs.length = 1) : ∃ s : Bool, cs = encBo s ∧ True := by
  obtain ⟨b, e, _⟩ := DataW.trod_bool Try.underlying4 h
  exact ⟨b, e, trivial⟩

theorem split_ab (n : Nat) (cs : List Value) (x : DataW H × List MemPlace) (h : Rd enc W sp n 62 cs x) (hl : cs.length = 8) : ∃ s : Ab, cs = encAb s ∧ RW ef W W.heap.size s.ea s.eff := by
  obtain ⟨v0, v1, v2, v3, v4, v5, v6, v7, rfl⟩ := list8 hl
  obtain ⟨m0, rfl, fm0⟩ := fldI Try.underlying62 h 0 _ rfl rfl rfl
  obtain ⟨m1, rfl, fm1⟩ := fldI Try.underlying62 h 1 _ rfl rfl rfl
  obtain ⟨m2, rfl, fm2⟩ := fldI Try.underlying62 h 2 _ rfl rfl rfl
  obtain ⟨m3, rfl, fm3⟩ := fldI Try.underlying62 h 3 _ rfl rfl rfl
  obtain ⟨m4, rfl, fm4⟩ := fldI Try.underlying62 h 4 _ rfl rfl rfl
  obtain ⟨m5, rfl, fm5⟩ := fldI Try.underlying62 h 5 _ rfl rfl rfl
  obtain ⟨m6, rfl⟩ := fldB Try.underlying62 h 6 _ rfl rfl rfl
  obtain ⟨A7, c7, L7, rfl, _, R7, _⟩ := fldS ef (fun _ => True) (by kernel_rfl) (by kernel_rfl) split_ef Try.underlying62 h 7 _ rfl rfl rfl
  exact ⟨⟨m0, m1, m2, m3, m4, m5, m6, A7, c7, L7⟩, rfl, R7⟩

theorem split_fo (n : Nat) (cs : List Value) (x : DataW H × List MemPlace) (h : Rd enc W sp n 66 cs x) (hl : cs.length = 8) : ∃ s : Fo, cs = encFo s ∧ (RW ln W W.heap.size s.sa s.script ∧ RW pz W W.heap.size s.ha s.hoard) := by
  obtain ⟨v0, v1, v2, v3, v4, v5, v6, v7, rfl⟩ := list8 hl
  obtain ⟨m0, rfl, fm0⟩ := fldI Try.underlying66 h 0 _ rfl rfl rfl
  obtain ⟨m1, rfl, fm1⟩ := fldI Try.underlying66 h 1 _ rfl rfl rfl
  obtain ⟨m2, rfl, fm2⟩ := fldI Try.underlying66 h 2 _ rfl rfl rfl
  obtain ⟨m3, rfl, fm3⟩ := fldI Try.underlying66 h 3 _ rfl rfl rfl
  obtain ⟨m4, rfl, fm4⟩ := fldI Try.underlying66 h 4 _ rfl rfl rfl
  obtain ⟨A5, c5, L5, rfl, _, R5, _⟩ := fldS ln (fun _ => True) (by kernel_rfl) (by kernel_rfl) split_ln Try.underlying66 h 5 _ rfl rfl rfl
  obtain ⟨A6, c6, L6, rfl, _, R6, _⟩ := fldS pz (fun _ => True) (by kernel_rfl) (by kernel_rfl) split_pz Try.underlying66 h 6 _ rfl rfl rfl
  obtain ⟨m7, rfl, fm7⟩ := fldI Try.underlying66 h 7 _ rfl rfl rfl
  exact ⟨⟨m0, m1, m2, m3, m4, A5, c5, L5, A6, c6, L6, m7⟩, rfl, ⟨R5, R6⟩⟩

set_option maxRecDepth 20000 in
theorem viewC {base : Nat} {v : Value} {d : DataW H} {p : List MemPlace} (hv : Value.okWide Try.prog W .any base 31 v) (h : DataW.Trod enc Try.prog W 0 sp true 31 v d p) : ∃ c : Cn, v = cnv c ∧ RC W W.heap.size c ∧ ∀ a ∈ c.au, NAu a := by
  obtain ⟨cs, rfl, hsz⟩ := okWide_struct Try.underlying31 hv
  obtain ⟨fuel, hf⟩ := h
  have hc31 : Try.prog.cellsOf 31 = 10 := by kernel_rfl
  have hc27 : Try.prog.cellsOf 27 = 3 := by kernel_rfl
  have hc29 : Try.prog.cellsOf 29 = 2 := by kernel_rfl
  rw [hc31] at hsz
  obtain ⟨l⟩ := cs
  obtain ⟨v0, v1, v2, v3, v4, v5, v6, v7, v8, v9, rfl⟩ := list10 (l := l) (by simpa using hsz)
  have hf : Rd enc W sp fuel 31 [v0, v1, v2, v3, v4, v5, v6, v7, v8, v9] (d, p) := by simpa [Value.cells] using hf
  obtain ⟨A0, c0, L0, rfl, k0, R0, P0⟩ := fldS ab (fun s => RW ef W W.heap.size s.ea s.eff) (by kernel_rfl) (by kernel_rfl) split_ab Try.underlying31 hf 0 _ rfl rfl rfl
  obtain ⟨A1, c1, L1, rfl, k1, R1, P1⟩ := fldS au NAu (by kernel_rfl) (by kernel_rfl) split_au Try.underlying31 hf 1 _ rfl rfl rfl
  obtain ⟨A2, c2, L2, rfl, k2, R2, P2⟩ := fldS fo (fun s => RW ln W W.heap.size s.sa s.script ∧ RW pz W W.heap.size s.ha s.hoard) (by kernel_rfl) (by kernel_rfl) split_fo Try.underlying31 hf 2 _ rfl rfl rfl
  obtain ⟨n3, y3, h3⟩ := fld Try.underlying31 hf 3 _ rfl
  obtain ⟨n4, y4, h4⟩ := fld Try.underlying31 hf 4 _ rfl
  obtain ⟨n5, y5, h5⟩ := fld Try.underlying31 hf 5 _ rfl
  have h3 : Rd enc W sp n3 27 [v3, v4, v5] y3 := by
    have h9 : Rd enc W sp n3 27 (List.take (Try.prog.cellsOf 27) (List.drop 3 [.slice A0 L0.length c0, .slice A1 L1.length c1, .slice A2 L2.length c2, v3, v4, v5, v6, v7, v8, v9])) y3 := h3
    rw [hc27] at h9; exact h9
  have h4 : Rd enc W sp n4 29 [v6, v7] y4 := by
    have h9 : Rd enc W sp n4 29 (List.take (Try.prog.cellsOf 29) (List.drop 6 [.slice A0 L0.length c0, .slice A1 L1.length c1, .slice A2 L2.length c2, v3, v4, v5, v6, v7, v8, v9])) y4 := h4
    rw [hc29] at h9; exact h9
  have h5 : Rd enc W sp n5 29 [v8, v9] y5 := by
    have h9 : Rd enc W sp n5 29 (List.take (Try.prog.cellsOf 29) (List.drop 8 [.slice A0 L0.length c0, .slice A1 L1.length c1, .slice A2 L2.length c2, v3, v4, v5, v6, v7, v8, v9])) y5 := h5
    rw [hc29] at h9; exact h9
  obtain ⟨m3, rfl, fm3⟩ := fldI Try.underlying27 h3 0 _ rfl rfl rfl
  obtain ⟨m4, rfl, fm4⟩ := fldI Try.underlying27 h3 1 _ rfl rfl rfl
  obtain ⟨A5, c5, L5, rfl, k5, R5, _⟩ := fldS bo (fun _ => True) (by kernel_rfl) (by kernel_rfl) split_bo Try.underlying27 h3 2 _ rfl rfl rfl
  obtain ⟨m6, rfl, fm6⟩ := fldI Try.underlying29 h4 0 _ rfl rfl rfl
  obtain ⟨m7, rfl, fm7⟩ := fldI Try.underlying29 h4 1 _ rfl rfl rfl
  obtain ⟨m8, rfl, fm8⟩ := fldI Try.underlying29 h5 0 _ rfl rfl rfl
  obtain ⟨m9, rfl, fm9⟩ := fldI Try.underlying29 h5 1 _ rfl rfl rfl
  exact ⟨⟨A0, c0, L0, A1, c1, L1, A2, c2, L2, m3, m4, A5, c5, L5, m6, m7, m8, m9⟩, rfl, ⟨R0, R1, R2, rw_rbO R5, P0, fun f hf => (P2 f hf).1, fun f hf => (P2 f hf).2⟩, P1⟩
set_option maxRecDepth 20000 in
theorem split_q4 (n : Nat) (cs : List Value) (x : DataW H × List MemPlace) (h : Rd enc W sp n 52 cs x) (hl : cs.length = 4) : ∃ s : Q4, cs = encQ4 s ∧ FQ4 s := by
  unfold Rd at h
  obtain ⟨xs, m, rfl, _, _, hxl, hf⟩ := DataW.trod_array Try.underlying52 h
  obtain ⟨v0, v1, v2, v3, rfl⟩ : ∃ v0 v1 v2 v3, cs = [v0, v1, v2, v3] := by
    match cs, hl with
    | [v0, v1, v2, v3], _ => exact ⟨v0, v1, v2, v3, rfl⟩
  have f0 := hf 0 (by omega)
  have f1 := hf 1 (by omega)
  have f2 := hf 2 (by omega)
  have f3 := hf 3 (by omega)
  rw [cells3] at f0 f1 f2 f3
  simp at f0 f1 f2 f3
  rw [List.getElem?_eq_getElem (by omega)] at f0 f1 f2 f3
  obtain ⟨m0, e0, _, w0⟩ := DataW.trod_int Try.underlying3 f0
  obtain ⟨m1, e1, _, w1⟩ := DataW.trod_int Try.underlying3 f1
  obtain ⟨m2, e2, _, w2⟩ := DataW.trod_int Try.underlying3 f2
  obtain ⟨m3, e3, _, w3⟩ := DataW.trod_int Try.underlying3 f3
  injection e0 with e0
  injection e1 with e1
  injection e2 with e2
  injection e3 with e3
  exact ⟨⟨m0, m1, m2, m3⟩, by rw [e0, e1, e2, e3]; rfl, fits_of w0, fits_of w1, fits_of w2, fits_of w3⟩
set_option maxRecDepth 20000 in
/-- A slice of steps that comes in. -/
theorem viewQ4 {base : Nat} {v : Value} {d : DataW H} {p : List MemPlace} (hv : Value.okWide Try.prog W .any base 51 v) (h : DataW.Trod enc Try.prog W 0 sp true 51 v d p) : ∃ A c L, v = .slice A (List.length L) c ∧ RW q4 W W.heap.size A L ∧ ∀ s ∈ L, FQ4 s := by
  obtain ⟨a0, len, cap, rfl⟩ := okWide_slice Try.underlying51 hv
  obtain ⟨fuel, hf⟩ := h
  obtain ⟨A, c, L, e, _, h3, h4⟩ := open_rows q4 FQ4 (by kernel_rfl) (split_q4 (enc := enc) (W := W) (sp := sp)) hf
  simp [Value.cells] at e
  obtain ⟨rfl, rfl, rfl⟩ := e
  exact ⟨_, _, L, rfl, h3, h4⟩
end
end Go.Proofs.Ytijobbdgiaiocaa.Open
