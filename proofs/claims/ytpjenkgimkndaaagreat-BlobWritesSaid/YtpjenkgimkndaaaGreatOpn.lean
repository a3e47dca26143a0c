/-
  How content that comes in is read: rows of structs that hold rows of structs.
-/
import Derived.Test.YtpjenkgimkndaaaGreatEql
import Derived.Test.YtpjenkgimkndaaaGreatBca
import Derived.ProofKit
import Derived.OpenShut
import Derived.Carry
import Derived.ChangeSlices
import Derived.Lib.SmallJoins
import Derived.Deep.Slices
namespace Go.Proofs.YtpjenkgimkndaaaGreat.Opn
open Go.ChangeShapes Go.WideShapes Go.ChangeAt Go.RowKit Go.Deep Con

theorem b2i_fit (b : Bool) : -9223372036854775808 ≤ b2i b ∧ b2i b ≤ 9223372036854775807 := by cases b <;> simp [b2i]
def FiA (s : Ab) : Prop := Fit [s.id, s.cast, s.cool, s.charges, s.range, s.cost] ∧ ∀ e ∈ s.eff, Fit (fEf e)
def FiF (s : Fo) : Prop := Fit [s.id, s.health, s.hit, s.every, s.reach, s.drops] ∧ (∀ e ∈ s.script, Fit (fLn e)) ∧ ∀ e ∈ s.hoard, Fit (fPz e)
/-- All its numbers are of 64 bits. -/
def FitC (c : Cn) : Prop := (∀ a ∈ c.ab, FiA a) ∧ (∀ a ∈ c.au, Fit (fAu a)) ∧ (∀ f ∈ c.fo, FiF f) ∧ Fit [c.W, c.H, c.dx, c.dy, c.lx, c.ly]
theorem fit_app {l m : List Int} (h : Fit l) (k : Fit m) : Fit (l ++ m) := fun x hx => by rcases List.mem_append.1 hx with hx | hx; exact h x hx; exact k x hx
theorem fit_rows {α : Type} {g : α → List Int} {l : List α} (h : ∀ x ∈ l, Fit (g x)) (hl : (l.length : Int) ≤ 50000) : Fit (fRows g l) := by
  intro x hx
  unfold fRows at hx
  rcases List.mem_cons.1 hx with rfl | hx
  · omega
  · obtain ⟨y, hy, hx⟩ := List.mem_flatMap.1 hx
    exact h y hy x hx
theorem fit_all {c : Cn} (h : FitC c) (hs : Sm c) : Fit (fCn c) := by
  obtain ⟨h1, h2, h3, h4⟩ := h
  have g : ∀ x ∈ [c.W, c.H, c.dx, c.dy, c.lx, c.ly], -9223372036854775808 ≤ x ∧ x ≤ 9223372036854775807 := h4
  have e1 : Fit (fRows fAb c.ab) := fit_rows (fun a ha => fit_app (fit_app (h1 a ha).1 (fun x hx => by simp at hx; subst hx; exact b2i_fit _)) (fit_rows (h1 a ha).2 (hs.effs a ha))) hs.abs
  have e2 : Fit (fRows fAu c.au) := fit_rows h2 hs.aus
  have e3 : Fit (fRows fFo c.fo) := fit_rows (fun a ha => fit_app (fit_app (h3 a ha).1 (fit_rows (h3 a ha).2.1 (hs.scrs a ha))) (fit_rows (h3 a ha).2.2 (hs.hors a ha))) hs.fos
  have e4 : Fit (fRows fTr c.wl) := fit_rows (fun a _ x hx => by simp [fTr] at hx; subst hx; exact b2i_fit _) hs.wls
  exact fit_app (fit_app (fit_app (fit_app (fit_app (fit_app e1 e2) e3) (fun x hx => g x (by simp at hx ⊢; omega))) e4) (fun x hx => g x (by simp at hx ⊢; omega))) (fun x hx => g x (by simp at hx ⊢; omega))
theorem laidOut : laidOutB Tryz.prog = true := by kernel_rfl
theorem fits_of {n : Int} (h : (Lit.int .i64 n).wf = true) : Fits n := bounds_i64 h
theorem cells3 : Tryz.prog.cellsOf 3 = 1 := by kernel_rfl
theorem cells4 : Tryz.prog.cellsOf 4 = 1 := by kernel_rfl
section
variable {H : Type} {enc : TypeId × Value → H} {W : World} {sp : Nat → Bool}
abbrev Rd (enc : TypeId × Value → H) (W : World) (sp : Nat → Bool) (n : Nat) (t : TypeId) (cs : List Value) (x : DataW H × List MemPlace) : Prop := DataW.trod enc Tryz.prog W 0 sp true n t cs = some x

theorem fld {t : TypeId} {fs : Array Field} {n : Nat} {cs : List Value} {x : DataW H × List MemPlace} (ht : Tryz.prog.underlying t = some (.struct fs)) (h : Rd enc W sp n t cs x) (i : Nat) (f : Field) (hi : fs[i]? = some f) :
    ∃ m y, Rd enc W sp m f.type ((cs.drop f.offset).take (Tryz.prog.cellsOf f.type)) y := by
  obtain ⟨xs, m, _, _, _, hl, hf⟩ := DataW.trod_struct ht h
  have h1 := hf i f hi
  have h2 : i < xs.length := by rw [hl]; exact (Array.getElem?_eq_some_iff.1 hi).1
  rw [List.getElem?_eq_getElem h2] at h1
  exact ⟨m, _, h1⟩
theorem one_of {cs : List Value} {o : Nat} {v : Value} (h : cs[o]? = some v) : (cs.drop o).take 1 = [v] := by
  obtain ⟨hlt, rfl⟩ := List.getElem?_eq_some_iff.1 h
  rw [List.drop_eq_getElem_cons hlt]; rfl
theorem fldI {t : TypeId} {fs : Array Field} {n : Nat} {cs : List Value} {x : DataW H × List MemPlace} (ht : Tryz.prog.underlying t = some (.struct fs)) (h : Rd enc W sp n t cs x) (i : Nat) (f : Field) (hi : fs[i]? = some f) (hty : f.type = 3) {v : Value} (hv : cs[f.offset]? = some v) : ∃ m, v = .int .i64 m ∧ Fits m := by
  obtain ⟨m, y, h1⟩ := fld ht h i f hi
  unfold Rd at h1
  rw [hty, cells3, one_of hv] at h1
  obtain ⟨a, e, _, hw⟩ := DataW.trod_int Tryz.underlying3 h1
  exact ⟨a, by simpa using e, fits_of hw⟩
theorem fldB {t : TypeId} {fs : Array Field} {n : Nat} {cs : List Value} {x : DataW H × List MemPlace} (ht : Tryz.prog.underlying t = some (.struct fs)) (h : Rd enc W sp n t cs x) (i : Nat) (f : Field) (hi : fs[i]? = some f) (hty : f.type = 4) {v : Value} (hv : cs[f.offset]? = some v) : ∃ m, v = .bool m := by
  obtain ⟨m, y, h1⟩ := fld ht h i f hi
  unfold Rd at h1
  rw [hty, cells4, one_of hv] at h1
  obtain ⟨a, e, _⟩ := DataW.trod_bool Tryz.underlying4 h1
  exact ⟨a, by simpa using e⟩

theorem open_rows {α : Type} (E : El α) (P : α → Prop) (hk : Tryz.prog.cellsOf E.e = E.k) (split : ∀ n cs x, Rd enc W sp n E.e cs x → cs.length = E.k → ∃ s, cs = E.enc s ∧ P s) {n : Nat} {cs : List Value} {x : DataW H × List MemPlace} (h : Rd enc W sp n E.t cs x) :
    ∃ A c L, cs = [.slice A (List.length L) c] ∧ List.length L ≤ c ∧ RW E W W.heap.size A L ∧ ∀ s ∈ L, P s := by
  rcases open_slice E.und h with ⟨hcs, _⟩ | ⟨a, len, cap, m, n', D, Pl, hcs, _, hl, hm, hmm, hx, hcell⟩
  · exact ⟨none, 0, [], by simpa using hcs, by simp, .inl rfl, by simp⟩
  · have hlm : len ≤ m := by rw [hmm]; split <;> omega
    have each : ∀ i, i < m → ∃ s, (∀ j v, (E.enc s)[j]? = some v → W.cell? ((a.add (i * E.k)).add j) = some v) ∧ P s := by
      intro i hi
      obtain ⟨cs', h1, h2⟩ := hcell i hi
      rw [hk] at h1
      obtain ⟨_, hlen, hc⟩ := World.cells?_some h1
      obtain ⟨s, rfl, hp⟩ := split _ _ _ h2 hlen
      refine ⟨s, fun j v hv => ?_, hp⟩
      have hj : j < E.k := by have := (List.getElem?_eq_some_iff.1 hv).1; rw [E.klen] at this; exact this
      rw [hc j hj]; exact hv
    have hlist : ∃ L : List α, L.length = len ∧ ∀ i s, L[i]? = some s → (∀ j v, (E.enc s)[j]? = some v → W.cell? ((a.add (i * E.k)).add j) = some v) ∧ P s := by
      have each' : ∀ i, i < len → ∃ s, (∀ j v, (E.enc s)[j]? = some v → W.cell? ((a.add (i * E.k)).add j) = some v) ∧ P s := fun i hi => each i (by omega)
      clear hcell hx hcs hl hm hmm hlm each
      induction len with
      | zero => exact ⟨[], rfl, fun i s hs => by simp at hs⟩
      | succ len ih =>
        obtain ⟨L, hL, hs⟩ := ih (fun i hi => each' i (by omega))
        obtain ⟨s, h1, h2⟩ := each' len (by omega)
        refine ⟨L ++ [s], by simp [hL], fun i s' hi => ?_⟩
        by_cases hil : i < L.length
        · rw [List.getElem?_append_left hil] at hi; exact hs i s' hi
        · rw [List.getElem?_append_right (by omega)] at hi
          have hi0 : i = len := by
            have := (List.getElem?_eq_some_iff.1 hi).1
            simp at this; omega
          subst hi0
          simp [hL] at hi
          subst hi
          exact ⟨h1, h2⟩
    obtain ⟨L, hL, hs⟩ := hlist
    refine ⟨some a, cap, L, by rw [hcs, hL], by omega, ?_, fun s hm => ?_⟩
    · by_cases h0 : L = []
      · exact .inl h0
      · obtain ⟨s0, hs0⟩ : ∃ s, L[0]? = some s := ⟨_, List.getElem?_eq_getElem (List.length_pos_iff.2 h0)⟩
        obtain ⟨b, off, spot⟩ := a
        have hc0 := (hs 0 s0 hs0).1 0 _ (List.getElem?_eq_getElem (by rw [E.klen]; exact E.kpos))
        have hspot : spot = none := by simpa [Addr.add] using World.cell?_spot hc0
        subst hspot
        have hbl : b < W.heap.size := by
          have := World.block_lt_of_cell? W _ hc0
          rw [add_at, add_at] at this
          exact this
        refine .inr ⟨b, off, rfl, hbl, fun i x hx j v hv => ?_⟩
        have := (hs i x hx).1 j v hv
        rw [add_at, add_at] at this
        exact this
    · obtain ⟨i, hi, rfl⟩ := List.getElem_of_mem hm
      exact (hs i _ (List.getElem?_eq_getElem hi)).2
theorem fldS {α : Type} (E : El α) (P : α → Prop) (hk : Tryz.prog.cellsOf E.e = E.k) (hk1 : Tryz.prog.cellsOf E.t = 1) (split : ∀ n cs x, Rd enc W sp n E.e cs x → cs.length = E.k → ∃ s, cs = E.enc s ∧ P s) {t : TypeId} {fs : Array Field} {n : Nat} {cs : List Value} {x : DataW H × List MemPlace} (ht : Tryz.prog.underlying t = some (.struct fs)) (h : Rd enc W sp n t cs x) (i : Nat) (f : Field) (hi : fs[i]? = some f) (hty : f.type = E.t) {v : Value} (hv : cs[f.offset]? = some v) :
    ∃ A c L, v = .slice A (List.length L) c ∧ List.length L ≤ c ∧ RW E W W.heap.size A L ∧ ∀ s ∈ L, P s := by
  obtain ⟨m, y, h1⟩ := fld ht h i f hi
  unfold Rd at h1
  rw [hty, hk1, one_of hv] at h1
  obtain ⟨A, c, L, e, h2, h3, h4⟩ := open_rows E P hk split h1
  exact ⟨A, c, L, by simpa using e, h2, h3, h4⟩

set_option maxRecDepth 20000 in
theorem list1 {l : List Value} (h : l.length = 1) : ∃ v0, l = [v0] := by
  match l, h with
  | [v0], _ => exact ⟨v0, rfl⟩

set_option maxRecDepth 20000 in
theorem list2 {l : List Value} (h : l.length = 2) : ∃ v0 v1, l = [v0, v1] := by
  match l, h with
  | [v0, v1], _ => exact ⟨v0, v1, rfl⟩

set_option maxRecDepth 20000 in
theorem list3 {l : List Value} (h : l.length = 3) : ∃ v0 v1 v2, l = [v0, v1, v2] := by
  match l, h with
  | [v0, v1, v2], _ => exact ⟨v0, v1, v2, rfl⟩

set_option maxRecDepth 20000 in
theorem list5 {l : List Value} (h : l.length = 5) : ∃ v0 v1 v2 v3 v4, l = [v0, v1, v2, v3, v4] := by
  match l, h with
  | [v0, v1, v2, v3, v4], _ => exact ⟨v0, v1, v2, v3, v4, rfl⟩

set_option maxRecDepth 20000 in
theorem list7 {l : List Value} (h : l.length = 7) : ∃ v0 v1 v2 v3 v4 v5 v6, l = [v0, v1, v2, v3, v4, v5, v6] := by
  match l, h with
  | [v0, v1, v2, v3, v4, v5, v6], _ => exact ⟨v0, v1, v2, v3, v4, v5, v6, rfl⟩

set_option maxRecDepth 20000 in
theorem list8 {l : List Value} (h : l.length = 8) : ∃ v0 v1 v2 v3 v4 v5 v6 v7, l = [v0, v1, v2, v3, v4, v5, v6, v7] := by
  match l, h with
  | [v0, v1, v2, v3, v4, v5, v6, v7], _ => exact ⟨v0, v1, v2, v3, v4, v5, v6, v7, rfl⟩

set_option maxRecDepth 20000 in
theorem list10 {l : List Value} (h : l.length = 10) : ∃ v0 v1 v2 v3 v4 v5 v6 v7 v8 v9, l = [v0, v1, v2, v3, v4, v5, v6, v7, v8, v9] := by
  match l, h with
  | [v0, v1, v2, v3, v4, v5, v6, v7, v8, v9], _ => exact ⟨v0, v1, v2, v3, v4, v5, v6, v7, v8, v9, rfl⟩

theorem split_ef (n : Nat) (cs : List Value) (x : DataW H × List MemPlace) (h : Rd enc W sp n 71 cs x) (hl : cs.length = 3) : ∃ s : Ef, cs = encEf s ∧ Fit (fEf s) := by
  obtain ⟨v0, v1, v2, rfl⟩ := list3 hl
  obtain ⟨m0, rfl, f0⟩ := fldI Tryz.underlying71 h 0 _ rfl rfl rfl
  obtain ⟨m1, rfl, f1⟩ := fldI Tryz.underlying71 h 1 _ rfl rfl rfl
  obtain ⟨m2, rfl, f2⟩ := fldI Tryz.underlying71 h 2 _ rfl rfl rfl
  exact ⟨⟨m0, m1, m2⟩, rfl, by intro x hx; simp [fEf] at hx; rcases hx with rfl | rfl | rfl <;> assumption⟩

theorem split_ln (n : Nat) (cs : List Value) (x : DataW H × List MemPlace) (h : Rd enc W sp n 73 cs x) (hl : cs.length = 5) : ∃ s : Ln, cs = encLn s ∧ Fit (fLn s) := by
  obtain ⟨v0, v1, v2, v3, v4, rfl⟩ := list5 hl
  obtain ⟨m0, rfl, f0⟩ := fldI Tryz.underlying73 h 0 _ rfl rfl rfl
  obtain ⟨m1, rfl, f1⟩ := fldI Tryz.underlying73 h 1 _ rfl rfl rfl
  obtain ⟨m2, rfl, f2⟩ := fldI Tryz.underlying73 h 2 _ rfl rfl rfl
  obtain ⟨m3, rfl, f3⟩ := fldI Tryz.underlying73 h 3 _ rfl rfl rfl
  obtain ⟨m4, rfl, f4⟩ := fldI Tryz.underlying73 h 4 _ rfl rfl rfl
  exact ⟨⟨m0, m1, m2, m3, m4⟩, rfl, by intro x hx; simp [fLn] at hx; rcases hx with rfl | rfl | rfl | rfl | rfl <;> assumption⟩

theorem split_pz (n : Nat) (cs : List Value) (x : DataW H × List MemPlace) (h : Rd enc W sp n 75 cs x) (hl : cs.length = 2) : ∃ s : Pz, cs = encPz s ∧ Fit (fPz s) := by
  obtain ⟨v0, v1, rfl⟩ := list2 hl
  obtain ⟨m0, rfl, f0⟩ := fldI Tryz.underlying75 h 0 _ rfl rfl rfl
  obtain ⟨m1, rfl, f1⟩ := fldI Tryz.underlying75 h 1 _ rfl rfl rfl
  exact ⟨⟨m0, m1⟩, rfl, by intro x hx; simp [fPz] at hx; rcases hx with rfl | rfl <;> assumption⟩

theorem split_au (n : Nat) (cs : List Value) (x : DataW H × List MemPlace) (h : Rd enc W sp n 63 cs x) (hl : cs.length = 7) : ∃ s : Au, cs = encAu s ∧ Fit (fAu s) := by
  obtain ⟨v0, v1, v2, v3, v4, v5, v6, rfl⟩ := list7 hl
  obtain ⟨m0, rfl, f0⟩ := fldI Tryz.underlying63 h 0 _ rfl rfl rfl
  obtain ⟨m1, rfl, f1⟩ := fldI Tryz.underlying63 h 1 _ rfl rfl rfl
  obtain ⟨m2, rfl, f2⟩ := fldI Tryz.underlying63 h 2 _ rfl rfl rfl
  obtain ⟨m3, rfl, f3⟩ := fldI Tryz.underlying63 h 3 _ rfl rfl rfl
  obtain ⟨m4, rfl, f4⟩ := fldI Tryz.underlying63 h 4 _ rfl rfl rfl
  obtain ⟨m5, rfl, f5⟩ := fldI Tryz.underlying63 h 5 _ rfl rfl rfl
  obtain ⟨m6, rfl⟩ := fldB Tryz.underlying63 h 6 _ rfl rfl rfl
  exact ⟨⟨m0, m1, m2, m3, m4, m5, m6⟩, rfl, by intro x hx; simp [fAu] at hx; rcases hx with rfl | rfl | rfl | rfl | rfl | rfl | rfl <;> first | assumption | exact b2i_fit _⟩

theorem split_bo (n : Nat) (cs : List Value) (x : DataW H × List MemPlace) (h : Rd enc W sp n 4 cs x) (_hl : cs.length = 1) : ∃ s : Bool, cs = encBo s ∧ True := by
  obtain ⟨b, e, _⟩ := DataW.trod_bool Tryz.underlying4 h
  exact ⟨b, e, trivial⟩

theorem split_ab (n : Nat) (cs : List Value) (x : DataW H × List MemPlace) (h : Rd enc W sp n 52 cs x) (hl : cs.length = 8) : ∃ s : Ab, cs = encAb s ∧ (RW ef W W.heap.size s.ea s.eff ∧ FiA s) := by
  obtain ⟨v0, v1, v2, v3, v4, v5, v6, v7, rfl⟩ := list8 hl
  obtain ⟨m0, rfl, f0⟩ := fldI Tryz.underlying52 h 0 _ rfl rfl rfl
  obtain ⟨m1, rfl, f1⟩ := fldI Tryz.underlying52 h 1 _ rfl rfl rfl
  obtain ⟨m2, rfl, f2⟩ := fldI Tryz.underlying52 h 2 _ rfl rfl rfl
  obtain ⟨m3, rfl, f3⟩ := fldI Tryz.underlying52 h 3 _ rfl rfl rfl
  obtain ⟨m4, rfl, f4⟩ := fldI Tryz.underlying52 h 4 _ rfl rfl rfl
  obtain ⟨m5, rfl, f5⟩ := fldI Tryz.underlying52 h 5 _ rfl rfl rfl
  obtain ⟨m6, rfl⟩ := fldB Tryz.underlying52 h 6 _ rfl rfl rfl
  obtain ⟨A7, c7, L7, rfl, _, R7, G7⟩ := fldS ef (fun s => Fit (fEf s)) (by kernel_rfl) (by kernel_rfl) split_ef Tryz.underlying52 h 7 _ rfl rfl rfl
  exact ⟨⟨m0, m1, m2, m3, m4, m5, m6, A7, c7, L7⟩, rfl, R7, by intro x hx; simp at hx; rcases hx with rfl | rfl | rfl | rfl | rfl | rfl <;> assumption, G7⟩

theorem split_fo (n : Nat) (cs : List Value) (x : DataW H × List MemPlace) (h : Rd enc W sp n 56 cs x) (hl : cs.length = 8) : ∃ s : Fo, cs = encFo s ∧ ((RW ln W W.heap.size s.sa s.script ∧ RW pz W W.heap.size s.ha s.hoard) ∧ FiF s) := by
  obtain ⟨v0, v1, v2, v3, v4, v5, v6, v7, rfl⟩ := list8 hl
  obtain ⟨m0, rfl, f0⟩ := fldI Tryz.underlying56 h 0 _ rfl rfl rfl
  obtain ⟨m1, rfl, f1⟩ := fldI Tryz.underlying56 h 1 _ rfl rfl rfl
  obtain ⟨m2, rfl, f2⟩ := fldI Tryz.underlying56 h 2 _ rfl rfl rfl
  obtain ⟨m3, rfl, f3⟩ := fldI Tryz.underlying56 h 3 _ rfl rfl rfl
  obtain ⟨m4, rfl, f4⟩ := fldI Tryz.underlying56 h 4 _ rfl rfl rfl
  obtain ⟨A5, c5, L5, rfl, _, R5, G5⟩ := fldS ln (fun s => Fit (fLn s)) (by kernel_rfl) (by kernel_rfl) split_ln Tryz.underlying56 h 5 _ rfl rfl rfl
  obtain ⟨A6, c6, L6, rfl, _, R6, G6⟩ := fldS pz (fun s => Fit (fPz s)) (by kernel_rfl) (by kernel_rfl) split_pz Tryz.underlying56 h 6 _ rfl rfl rfl
  obtain ⟨m7, rfl, f7⟩ := fldI Tryz.underlying56 h 7 _ rfl rfl rfl
  exact ⟨⟨m0, m1, m2, m3, m4, A5, c5, L5, A6, c6, L6, m7⟩, rfl, ⟨R5, R6⟩, by intro x hx; simp at hx; rcases hx with rfl | rfl | rfl | rfl | rfl | rfl <;> assumption, G5, G6⟩

set_option maxRecDepth 20000 in
theorem viewC {base : Nat} {v : Value} {d : DataW H} {p : List MemPlace} (hv : Value.okWide Tryz.prog W .any base 31 v) (h : DataW.Trod enc Tryz.prog W 0 sp true 31 v d p) : ∃ c : Cn, v = cnv c ∧ RC W W.heap.size c ∧ FitC c := by
  obtain ⟨cs, rfl, hsz⟩ := okWide_struct Tryz.underlying31 hv
  obtain ⟨fuel, hf⟩ := h
  have hc31 : Tryz.prog.cellsOf 31 = 10 := by kernel_rfl
  have hc27 : Tryz.prog.cellsOf 27 = 3 := by kernel_rfl
  have hc29 : Tryz.prog.cellsOf 29 = 2 := by kernel_rfl
  rw [hc31] at hsz
  obtain ⟨l⟩ := cs
  obtain ⟨v0, v1, v2, v3, v4, v5, v6, v7, v8, v9, rfl⟩ := list10 (l := l) (by simpa using hsz)
  have hf : Rd enc W sp fuel 31 [v0, v1, v2, v3, v4, v5, v6, v7, v8, v9] (d, p) := by simpa [Value.cells] using hf
  obtain ⟨A0, c0, L0, rfl, k0, R0, P0⟩ := fldS ab (fun s => RW ef W W.heap.size s.ea s.eff ∧ FiA s) (by kernel_rfl) (by kernel_rfl) split_ab Tryz.underlying31 hf 0 _ rfl rfl rfl
  obtain ⟨A1, c1, L1, rfl, k1, R1, P1⟩ := fldS au (fun s => Fit (fAu s)) (by kernel_rfl) (by kernel_rfl) split_au Tryz.underlying31 hf 1 _ rfl rfl rfl
  obtain ⟨A2, c2, L2, rfl, k2, R2, P2⟩ := fldS fo (fun s => (RW ln W W.heap.size s.sa s.script ∧ RW pz W W.heap.size s.ha s.hoard) ∧ FiF s) (by kernel_rfl) (by kernel_rfl) split_fo Tryz.underlying31 hf 2 _ rfl rfl rfl
  obtain ⟨n3, y3, h3⟩ := fld Tryz.underlying31 hf 3 _ rfl
  obtain ⟨n4, y4, h4⟩ := fld Tryz.underlying31 hf 4 _ rfl
  obtain ⟨n5, y5, h5⟩ := fld Tryz.underlying31 hf 5 _ rfl
  have h3 : Rd enc W sp n3 27 [v3, v4, v5] y3 := by
    have h9 : Rd enc W sp n3 27 (List.take (Tryz.prog.cellsOf 27) (List.drop 3 [.slice A0 L0.length c0, .slice A1 L1.length c1, .slice A2 L2.length c2, v3, v4, v5, v6, v7, v8, v9])) y3 := h3
    rw [hc27] at h9; exact h9
  have h4 : Rd enc W sp n4 29 [v6, v7] y4 := by
    have h9 : Rd enc W sp n4 29 (List.take (Tryz.prog.cellsOf 29) (List.drop 6 [.slice A0 L0.length c0, .slice A1 L1.length c1, .slice A2 L2.length c2, v3, v4, v5, v6, v7, v8, v9])) y4 := h4
    rw [hc29] at h9; exact h9
  have h5 : Rd enc W sp n5 29 [v8, v9] y5 := by
    have h9 : Rd enc W sp n5 29 (List.take (Tryz.prog.cellsOf 29) (List.drop 8 [.slice A0 L0.length c0, .slice A1 L1.length c1, .slice A2 L2.length c2, v3, v4, v5, v6, v7, v8, v9])) y5 := h5
    rw [hc29] at h9; exact h9
  obtain ⟨m3, rfl, f3⟩ := fldI Tryz.underlying27 h3 0 _ rfl rfl rfl
  obtain ⟨m4, rfl, f4⟩ := fldI Tryz.underlying27 h3 1 _ rfl rfl rfl
  obtain ⟨A5, c5, L5, rfl, k5, R5, _⟩ := fldS bo (fun _ => True) (by kernel_rfl) (by kernel_rfl) split_bo Tryz.underlying27 h3 2 _ rfl rfl rfl
  obtain ⟨m6, rfl, f6⟩ := fldI Tryz.underlying29 h4 0 _ rfl rfl rfl
  obtain ⟨m7, rfl, f7⟩ := fldI Tryz.underlying29 h4 1 _ rfl rfl rfl
  obtain ⟨m8, rfl, f8⟩ := fldI Tryz.underlying29 h5 0 _ rfl rfl rfl
  obtain ⟨m9, rfl, f9⟩ := fldI Tryz.underlying29 h5 1 _ rfl rfl rfl
  exact ⟨⟨A0, c0, L0, A1, c1, L1, A2, c2, L2, m3, m4, A5, c5, L5, m6, m7, m8, m9⟩, rfl, ⟨R0, R1, R2, rw_rb R5, fun f hf => (P0 f hf).1, fun f hf => (P2 f hf).1.1, fun f hf => (P2 f hf).1.2⟩, fun f hf => (P0 f hf).2, P1, fun f hf => (P2 f hf).2, by intro x hx; simp at hx; rcases hx with rfl | rfl | rfl | rfl | rfl | rfl <;> assumption⟩
end
end Go.Proofs.YtpjenkgimkndaaaGreat.Opn
