/-
  How what comes in is read: a number, a tile, a slice of steps (five numbers each), a slice of pairs; as a list, nil let in.
-/
import Derived.Test.YtehllnbpianpfaaIdx
import Derived.ProofKit
import Derived.OpenShut
import Derived.Carry
import Derived.ChangeSlices
import Derived.Lib.SmallJoins
import Derived.Deep.Slices
namespace Go.Proofs.Ytehllnbpianpfaa.Open
open Go.ChangeShapes Go.WideShapes Go.ChangeAt Go.RowKit Go.Deep Con

theorem fits_of {n : Int} (h : (Lit.int .i64 n).wf = true) : Fits n := bounds_i64 h
theorem add_plain (b off k : Nat) : (⟨b, off, none⟩ : Addr).add k = ⟨b, off + k, none⟩ := by unfold Addr.add; split <;> simp_all
theorem viewP {H : Type} {enc : TypeId × Value → H} {W : World} {base : Nat} {v : Value} {d : DataW H} {p : List MemPlace} (hv : Value.okWide Try.prog W .any base 32 v) (h : DataW.Trod enc Try.prog W 0 (fun _ => true) true 32 v d p) :
    ∃ x y, v = pv x y ∧ Fits x ∧ Fits y := by
  obtain ⟨v0, v1, y0, y1, n, rfl, _, _, h0, h1⟩ := Go.Joins.open_agg2 Try.underlying32 (by kernel_rfl) (by kernel_rfl) hv h
  obtain ⟨x, e0, _, w0⟩ := DataW.trod_int Try.underlying3 h0
  obtain ⟨y, e1, _, w1⟩ := DataW.trod_int Try.underlying3 h1
  simp at e0 e1
  exact ⟨x, y, by rw [e0, e1], fits_of w0, fits_of w1⟩
theorem laidOut : laidOutB Try.prog = true := by kernel_rfl

/-- 5 numbers. -/
structure S5 where
  a0 : Int
  a1 : Int
  a2 : Int
  a3 : Int
  a4 : Int
instance : Inhabited S5 := ⟨⟨0, 0, 0, 0, 0⟩⟩
def RS5 (w : World) (B : Nat) (A : Option Addr) (L : List S5) : Prop := L = [] ∨ ∃ b off, A = some ⟨b, off, none⟩ ∧ b < B ∧ ∀ i s, L[i]? = some s → w.cell? ⟨b, off + i * 5, none⟩ = some (.int .i64 s.a0) ∧ w.cell? ⟨b, off + i * 5 + 1, none⟩ = some (.int .i64 s.a1) ∧ w.cell? ⟨b, off + i * 5 + 2, none⟩ = some (.int .i64 s.a2) ∧ w.cell? ⟨b, off + i * 5 + 3, none⟩ = some (.int .i64 s.a3) ∧ w.cell? ⟨b, off + i * 5 + 4, none⟩ = some (.int .i64 s.a4)
theorem cells30 : Try.prog.cellsOf 30 = 5 := by kernel_rfl
theorem split5 {H : Type} {enc : TypeId × Value → H} {w : World} {sp : Nat → Bool} {n : Nat} {cs : List Value} {x : DataW H × List MemPlace} (h : DataW.trod enc Try.prog w 0 sp true n 30 cs = some x) (hl : cs.length = 5) :
    ∃ s : S5, cs = [.int .i64 s.a0, .int .i64 s.a1, .int .i64 s.a2, .int .i64 s.a3, .int .i64 s.a4] ∧ (Lit.int .i64 s.a0).wf = true ∧ (Lit.int .i64 s.a1).wf = true ∧ (Lit.int .i64 s.a2).wf = true ∧ (Lit.int .i64 s.a3).wf = true ∧ (Lit.int .i64 s.a4).wf = true := by
  obtain ⟨xs, m, rfl, _, _, hxl, hf⟩ := DataW.trod_array Try.underlying30 h
  match cs, hl with
  | [v0, v1, v2, v3, v4], _ =>
    have f0 := hf 0 (by omega)
    have f1 := hf 1 (by omega)
    have f2 := hf 2 (by omega)
    have f3 := hf 3 (by omega)
    have f4 := hf 4 (by omega)
    rw [cells3] at f0 f1 f2 f3 f4
    simp at f0 f1 f2 f3 f4
    rw [List.getElem?_eq_getElem (by omega)] at f0 f1 f2 f3 f4
    obtain ⟨m0, e0, _, w0⟩ := DataW.trod_int Try.underlying3 f0
    obtain ⟨m1, e1, _, w1⟩ := DataW.trod_int Try.underlying3 f1
    obtain ⟨m2, e2, _, w2⟩ := DataW.trod_int Try.underlying3 f2
    obtain ⟨m3, e3, _, w3⟩ := DataW.trod_int Try.underlying3 f3
    obtain ⟨m4, e4, _, w4⟩ := DataW.trod_int Try.underlying3 f4
    injection e0 with e0
    injection e1 with e1
    injection e2 with e2
    injection e3 with e3
    injection e4 with e4
    exact ⟨⟨m0, m1, m2, m3, m4⟩, by rw [e0, e1, e2, e3, e4], w0, w1, w2, w3, w4⟩
theorem view5 {H : Type} {enc : TypeId × Value → H} {W : World} {base : Nat} {v : Value} {d : DataW H} {p : List MemPlace} (hv : Value.okWide Try.prog W .any base 22 v) (h : DataW.Trod enc Try.prog W 0 (fun _ => true) true 22 v d p) (_hlt : ∀ x ∈ p, x.block < W.heap.size) :
    ∃ A c L, v = .slice A L.length c ∧ RS5 W W.heap.size A L ∧ L.length ≤ c ∧ L.length ≤ 9223372036854775807 ∧ ∀ s ∈ L, Fits s.a0 ∧ Fits s.a1 ∧ Fits s.a2 ∧ Fits s.a3 ∧ Fits s.a4 := by
  obtain ⟨a0, len, cap, rfl⟩ := okWide_slice Try.underlying22 hv
  obtain ⟨fuel, hf⟩ := h
  rcases open_slice Try.underlying22 hf with ⟨hcs, hx⟩ | ⟨a, len', cap', m, n, D, Pl, hcs, _, hl, hm, hmm, hx, hcell⟩
  · simp [Value.cells] at hcs
    obtain ⟨rfl, rfl, rfl⟩ := hcs
    exact ⟨none, 0, [], rfl, .inl rfl, by simp, by simp, by simp⟩
  · simp [Value.cells] at hcs
    obtain ⟨rfl, rfl, rfl⟩ := hcs
    simp only [if_true] at hmm
    have each : ∀ i, i < m → ∃ s : S5, W.cell? (a.add (i * 5)) = some (.int .i64 s.a0) ∧ W.cell? ((a.add (i * 5)).add 1) = some (.int .i64 s.a1) ∧ W.cell? ((a.add (i * 5)).add 2) = some (.int .i64 s.a2) ∧ W.cell? ((a.add (i * 5)).add 3) = some (.int .i64 s.a3) ∧ W.cell? ((a.add (i * 5)).add 4) = some (.int .i64 s.a4) ∧ (Lit.int .i64 s.a0).wf = true ∧ (Lit.int .i64 s.a1).wf = true ∧ (Lit.int .i64 s.a2).wf = true ∧ (Lit.int .i64 s.a3).wf = true ∧ (Lit.int .i64 s.a4).wf = true := by
      intro i hi
      obtain ⟨cs', h1, h2⟩ := hcell i hi
      rw [cells30] at h1
      obtain ⟨_, hlen, hc⟩ := World.cells?_some h1
      obtain ⟨s, rfl, z0, z1, z2, z3, z4⟩ := split5 h2 hlen
      have c0 := hc 0 (by omega)
      have c1 := hc 1 (by omega)
      have c2 := hc 2 (by omega)
      have c3 := hc 3 (by omega)
      have c4 := hc 4 (by omega)
      refine ⟨s, ?_, by simpa using c1, by simpa using c2, by simpa using c3, by simpa using c4, z0, z1, z2, z3, z4⟩
      have e0 : (a.add (i * 5)).add 0 = a.add (i * 5) := by unfold Addr.add; split <;> simp_all
      rw [e0] at c0
      simpa using c0
    obtain ⟨q, hq⟩ := choose_lt each
    have hll : ((List.range len).map q).length = len := by simp
    refine ⟨some a, cap, (List.range len).map q, by rw [hll], ?_, by omega, by rw [hll]; unfold maxLen at hm; omega, fun s hs => ?_⟩
    · by_cases h0 : len = 0
      · subst h0; exact .inl (by simp)
      · obtain ⟨b, off, spot⟩ := a
        have h00 := (hq 0 (by omega)).1
        have hspot : spot = none := by simpa [Addr.add] using World.cell?_spot h00
        subst hspot
        have hbl : b < W.heap.size := by
          have := World.block_lt_of_cell? W _ h00
          rw [add_plain] at this
          exact this
        refine .inr ⟨b, off, rfl, hbl, fun r x hr => ?_⟩
        rw [List.getElem?_map] at hr
        simp only [Option.map_eq_some_iff] at hr
        obtain ⟨r', hr', rfl⟩ := hr
        obtain ⟨hrl, hr'⟩ := List.getElem?_eq_some_iff.1 hr'
        simp only [List.getElem_range] at hr'
        subst hr'
        simp only [List.length_range] at hrl
        obtain ⟨h0', h1', h2', h3', h4', _⟩ := hq r (by omega)
        rw [add_plain, add_plain] at h1' h2' h3' h4'
        rw [add_plain] at h0'
        exact ⟨h0', h1', h2', h3', h4'⟩
    · obtain ⟨r, hr, rfl⟩ := List.mem_map.1 hs
      have hrl := List.mem_range.1 hr
      obtain ⟨_, _, _, _, _, y0, y1, y2, y3, y4⟩ := hq r (by omega)
      exact ⟨fits_of y0, fits_of y1, fits_of y2, fits_of y3, fits_of y4⟩

/-- 2 numbers. -/
structure S2 where
  a0 : Int
  a1 : Int
instance : Inhabited S2 := ⟨⟨0, 0⟩⟩
def RS2 (w : World) (B : Nat) (A : Option Addr) (L : List S2) : Prop := L = [] ∨ ∃ b off, A = some ⟨b, off, none⟩ ∧ b < B ∧ ∀ i s, L[i]? = some s → w.cell? ⟨b, off + i * 2, none⟩ = some (.int .i64 s.a0) ∧ w.cell? ⟨b, off + i * 2 + 1, none⟩ = some (.int .i64 s.a1)
theorem cells45 : Try.prog.cellsOf 45 = 2 := by kernel_rfl
theorem split2 {H : Type} {enc : TypeId × Value → H} {w : World} {sp : Nat → Bool} {n : Nat} {cs : List Value} {x : DataW H × List MemPlace} (h : DataW.trod enc Try.prog w 0 sp true n 45 cs = some x) (hl : cs.length = 2) :
    ∃ s : S2, cs = [.int .i64 s.a0, .int .i64 s.a1] ∧ (Lit.int .i64 s.a0).wf = true ∧ (Lit.int .i64 s.a1).wf = true := by
  obtain ⟨xs, m, rfl, _, _, hxl, hf⟩ := DataW.trod_array Try.underlying45 h
  match cs, hl with
  | [v0, v1], _ =>
    have f0 := hf 0 (by omega)
    have f1 := hf 1 (by omega)
    rw [cells3] at f0 f1
    simp at f0 f1
    rw [List.getElem?_eq_getElem (by omega)] at f0 f1
    obtain ⟨m0, e0, _, w0⟩ := DataW.trod_int Try.underlying3 f0
    obtain ⟨m1, e1, _, w1⟩ := DataW.trod_int Try.underlying3 f1
    injection e0 with e0
    injection e1 with e1
    exact ⟨⟨m0, m1⟩, by rw [e0, e1], w0, w1⟩
theorem view2 {H : Type} {enc : TypeId × Value → H} {W : World} {base : Nat} {v : Value} {d : DataW H} {p : List MemPlace} (hv : Value.okWide Try.prog W .any base 44 v) (h : DataW.Trod enc Try.prog W 0 (fun _ => true) true 44 v d p) (_hlt : ∀ x ∈ p, x.block < W.heap.size) :
    ∃ A c L, v = .slice A L.length c ∧ RS2 W W.heap.size A L ∧ L.length ≤ c ∧ L.length ≤ 9223372036854775807 ∧ ∀ s ∈ L, Fits s.a0 ∧ Fits s.a1 := by
  obtain ⟨a0, len, cap, rfl⟩ := okWide_slice Try.underlying44 hv
  obtain ⟨fuel, hf⟩ := h
  rcases open_slice Try.underlying44 hf with ⟨hcs, hx⟩ | ⟨a, len', cap', m, n, D, Pl, hcs, _, hl, hm, hmm, hx, hcell⟩
  · simp [Value.cells] at hcs
    obtain ⟨rfl, rfl, rfl⟩ := hcs
    exact ⟨none, 0, [], rfl, .inl rfl, by simp, by simp, by simp⟩
  · simp [Value.cells] at hcs
    obtain ⟨rfl, rfl, rfl⟩ := hcs
    simp only [if_true] at hmm
    have each : ∀ i, i < m → ∃ s : S2, W.cell? (a.add (i * 2)) = some (.int .i64 s.a0) ∧ W.cell? ((a.add (i * 2)).add 1) = some (.int .i64 s.a1) ∧ (Lit.int .i64 s.a0).wf = true ∧ (Lit.int .i64 s.a1).wf = true := by
      intro i hi
      obtain ⟨cs', h1, h2⟩ := hcell i hi
      rw [cells45] at h1
      obtain ⟨_, hlen, hc⟩ := World.cells?_some h1
      obtain ⟨s, rfl, z0, z1⟩ := split2 h2 hlen
      have c0 := hc 0 (by omega)
      have c1 := hc 1 (by omega)
      refine ⟨s, ?_, by simpa using c1, z0, z1⟩
      have e0 : (a.add (i * 2)).add 0 = a.add (i * 2) := by unfold Addr.add; split <;> simp_all
      rw [e0] at c0
      simpa using c0
    obtain ⟨q, hq⟩ := choose_lt each
    have hll : ((List.range len).map q).length = len := by simp
    refine ⟨some a, cap, (List.range len).map q, by rw [hll], ?_, by omega, by rw [hll]; unfold maxLen at hm; omega, fun s hs => ?_⟩
    · by_cases h0 : len = 0
      · subst h0; exact .inl (by simp)
      · obtain ⟨b, off, spot⟩ := a
        have h00 := (hq 0 (by omega)).1
        have hspot : spot = none := by simpa [Addr.add] using World.cell?_spot h00
        subst hspot
        have hbl : b < W.heap.size := by
          have := World.block_lt_of_cell? W _ h00
          rw [add_plain] at this
          exact this
        refine .inr ⟨b, off, rfl, hbl, fun r x hr => ?_⟩
        rw [List.getElem?_map] at hr
        simp only [Option.map_eq_some_iff] at hr
        obtain ⟨r', hr', rfl⟩ := hr
        obtain ⟨hrl, hr'⟩ := List.getElem?_eq_some_iff.1 hr'
        simp only [List.getElem_range] at hr'
        subst hr'
        simp only [List.length_range] at hrl
        obtain ⟨h0', h1', _⟩ := hq r (by omega)
        rw [add_plain, add_plain] at h1'
        rw [add_plain] at h0'
        exact ⟨h0', h1'⟩
    · obtain ⟨r, hr, rfl⟩ := List.mem_map.1 hs
      have hrl := List.mem_range.1 hr
      obtain ⟨_, _, y0, y1⟩ := hq r (by omega)
      exact ⟨fits_of y0, fits_of y1⟩
end Go.Proofs.Ytehllnbpianpfaa.Open
