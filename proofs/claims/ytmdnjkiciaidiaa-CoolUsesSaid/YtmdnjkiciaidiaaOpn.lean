/-
  How rows of Cool, an ability, and rows of two numbers come in.
-/
import Derived.Test.YtmdnjkiciaidiaaKop
import Derived.Test.YtmdnjkiciaidiaaKco
namespace Go.Proofs.Ytmdnjkiciaidiaa.Opn
open Go.ChangeShapes Go.WideShapes Go.ChangeAt Go.RowKit Go.Deep Con Kop
set_option linter.unusedVariables false

section
variable {H : Type} {enc : TypeId × Value → H} {W : World} {sp : Nat → Bool}
theorem fldS {α : Type} (E : El α) (P : α → Prop) (hk : Try.prog.cellsOf E.e = E.k) (hk1 : Try.prog.cellsOf E.t = 1) (split : ∀ n cs x, Rd enc W sp n E.e cs x → cs.length = E.k → ∃ s, cs = E.enc s ∧ P s) {t : TypeId} {fs : Array Field} {n : Nat} {cs : List Value} {x : DataW H × List MemPlace} (ht : Try.prog.underlying t = some (.struct fs)) (h : Rd enc W sp n t cs x) (i : Nat) (f : Field) (hi : fs[i]? = some f) (hty : f.type = E.t) {v : Value} (hv : cs[f.offset]? = some v) :
    ∃ A c L, v = .slice A (List.length L) c ∧ List.length L ≤ c ∧ RW E W W.heap.size A L ∧ ∀ s ∈ L, P s := by
  obtain ⟨m, y, h1⟩ := fld ht h i f hi
  unfold Rd at h1
  rw [hty, hk1, one_of hv] at h1
  obtain ⟨A, c, L, e, h2, h3, h4⟩ := open_rows E P hk split h1
  exact ⟨A, c, L, by simpa using e, h2, h3, h4⟩
theorem list2 {l : List Value} (h : l.length = 2) : ∃ v0 v1, l = [v0, v1] := by
  match l, h with
  | [v0, v1], _ => exact ⟨v0, v1, rfl⟩
theorem list8 {l : List Value} (h : l.length = 8) : ∃ v0 v1 v2 v3 v4 v5 v6 v7, l = [v0, v1, v2, v3, v4, v5, v6, v7] := by
  match l, h with
  | [v0, v1, v2, v3, v4, v5, v6, v7], _ => exact ⟨v0, v1, v2, v3, v4, v5, v6, v7, rfl⟩
theorem split_co (n : Nat) (cs : List Value) (x : DataW H × List MemPlace) (h : Rd enc W sp n 35 cs x) (hl : cs.length = 2) : ∃ s : Co, cs = encCo s ∧ (RW nu W W.heap.size s.ba s.bk ∧ s.bk.length ≤ s.bc ∧ FCo s) := by
  obtain ⟨v0, v1, rfl⟩ := list2 hl
  obtain ⟨m0, rfl, fm0⟩ := fldI Try.underlying35 h 0 _ rfl rfl rfl
  obtain ⟨A1, c1, L1, rfl, k1, R1, P1⟩ := fldS nu Fits (by kernel_rfl) (by kernel_rfl) split_nu Try.underlying35 h 1 _ rfl rfl rfl
  exact ⟨⟨m0, A1, L1, c1⟩, rfl, R1, k1, fm0, P1⟩
set_option maxRecDepth 20000 in
/-- A row of Cool that comes in. -/
theorem viewCo {base : Nat} {v : Value} {d : DataW H} {p : List MemPlace} (hv : Value.okWide Try.prog W .any base 22 v) (h : DataW.Trod enc Try.prog W 0 sp true 22 v d p) : ∃ A c L, v = .slice A (List.length L) c ∧ List.length L ≤ c ∧ KRc W W.heap.size A L ∧ ∀ s ∈ L, s.bk.length ≤ s.bc ∧ FCo s := by
  obtain ⟨a0, len, cap, rfl⟩ := okWide_slice Try.underlying22 hv
  obtain ⟨fuel, hf⟩ := h
  obtain ⟨A, c, L, e, h2, h3, h4⟩ := open_rows co (fun s => RW nu W W.heap.size s.ba s.bk ∧ s.bk.length ≤ s.bc ∧ FCo s) (by kernel_rfl) (split_co (enc := enc) (W := W) (sp := sp)) hf
  simp [Value.cells] at e
  obtain ⟨rfl, rfl, rfl⟩ := e
  exact ⟨_, _, L, rfl, h2, ⟨h3, fun x hx => (h4 x hx).1⟩, fun x hx => (h4 x hx).2⟩
def FAbl (a : Abl) : Prop := Fits a.id ∧ Fits a.cool ∧ Fits a.charges
set_option maxRecDepth 20000 in
/-- An ability that comes in. -/
theorem viewA {base : Nat} {v : Value} {d : DataW H} {p : List MemPlace} (hv : Value.okWide Try.prog W .any base 25 v) (h : DataW.Trod enc Try.prog W 0 sp true 25 v d p) : ∃ a : Abl, v = ablv a ∧ FAbl a := by
  obtain ⟨cs, rfl, hsz⟩ := okWide_struct Try.underlying25 hv
  obtain ⟨fuel, hf⟩ := h
  have hc25 : Try.prog.cellsOf 25 = 8 := by kernel_rfl
  have hc23 : Try.prog.cellsOf 23 = 1 := by kernel_rfl
  rw [hc25] at hsz
  obtain ⟨l⟩ := cs
  obtain ⟨v0, v1, v2, v3, v4, v5, v6, v7, rfl⟩ := list8 (l := l) (by simpa using hsz)
  have hf : Rd enc W sp fuel 25 [v0, v1, v2, v3, v4, v5, v6, v7] (d, p) := by simpa [Value.cells] using hf
  obtain ⟨m0, rfl, fm0⟩ := fldI Try.underlying25 hf 0 _ rfl rfl rfl
  obtain ⟨m1, rfl, fm1⟩ := fldI Try.underlying25 hf 1 _ rfl rfl rfl
  obtain ⟨m2, rfl, fm2⟩ := fldI Try.underlying25 hf 2 _ rfl rfl rfl
  obtain ⟨m3, rfl, fm3⟩ := fldI Try.underlying25 hf 3 _ rfl rfl rfl
  obtain ⟨m4, rfl, fm4⟩ := fldI Try.underlying25 hf 4 _ rfl rfl rfl
  obtain ⟨m5, rfl, fm5⟩ := fldI Try.underlying25 hf 5 _ rfl rfl rfl
  obtain ⟨m6, rfl⟩ := fldB Try.underlying25 hf 6 _ rfl rfl rfl
  obtain ⟨n7, y7, h7⟩ := fld Try.underlying25 hf 7 _ rfl
  have h7 : Rd enc W sp n7 23 [v7] y7 := by
    have h9 : Rd enc W sp n7 23 (List.take (Try.prog.cellsOf 23) (List.drop 7 [.int .i64 m0, .int .i64 m1, .int .i64 m2, .int .i64 m3, .int .i64 m4, .int .i64 m5, .bool m6, v7])) y7 := h7
    rw [hc23] at h9; exact h9
  have hv7 : ∃ A n c, v7 = .slice A n c := by
    rcases open_slice Try.underlying23 h7 with ⟨hcs, _⟩ | ⟨a, len, cap, m, n', D, Pl, hcs, _⟩
    · exact ⟨none, 0, 0, by simpa using hcs⟩
    · exact ⟨some a, len, cap, by simpa using hcs⟩
  obtain ⟨A7, n8, c7, rfl⟩ := hv7
  exact ⟨⟨m0, m1, m2, m3, m4, m5, m6, A7, n8, c7⟩, rfl, fm0, fm2, fm3⟩
end
end Go.Proofs.Ytmdnjkiciaidiaa.Opn
