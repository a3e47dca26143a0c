/-
  How a slice of steps (three numbers each) that comes in is read: as a list, nil let in.
-/
import Derived.Test.YtibiobcjnnoeeaaOpen
import Derived.Deep.Slices
namespace Go.Proofs.Ytibiobcjnnoeeaa.Open
open Go.ChangeShapes Go.WideShapes Go.ChangeAt Go.RowKit Go.Deep

/-- A step. -/
structure Stp where
  k : Int
  a : Int
  b : Int
instance : Inhabited Stp := ⟨⟨0, 0, 0⟩⟩
def RS (w : World) (B : Nat) (A : Option Addr) (L : List Stp) : Prop := L = [] ∨ ∃ b off, A = some ⟨b, off, none⟩ ∧ b < B ∧ ∀ i s, L[i]? = some s → w.cell? ⟨b, off + i * 3, none⟩ = some (.int .i64 s.k) ∧ w.cell? ⟨b, off + i * 3 + 1, none⟩ = some (.int .i64 s.a) ∧ w.cell? ⟨b, off + i * 3 + 2, none⟩ = some (.int .i64 s.b)
theorem cells31 : Try.prog.cellsOf 31 = 3 := by kernel_rfl
theorem three {H : Type} {enc : TypeId × Value → H} {w : World} {sp : Nat → Bool} {n : Nat} {cs : List Value} {x : DataW H × List MemPlace} (h : DataW.trod enc Try.prog w 0 sp true n 31 cs = some x) (hl : cs.length = 3) :
    ∃ s : Stp, cs = [.int .i64 s.k, .int .i64 s.a, .int .i64 s.b] ∧ (Lit.int .i64 s.a).wf = true := by
  obtain ⟨xs, m, rfl, _, _, hxl, hf⟩ := DataW.trod_array Try.underlying31 h
  match cs, hl with
  | [v0, v1, v2], _ =>
    have f0 := hf 0 (by omega)
    have f1 := hf 1 (by omega)
    have f2 := hf 2 (by omega)
    rw [cells3] at f0 f1 f2
    simp at f0 f1 f2
    rw [List.getElem?_eq_getElem (by omega)] at f0 f1 f2
    obtain ⟨m0, e0, _, _⟩ := DataW.trod_int Try.underlying3 f0
    obtain ⟨m1, e1, _, w1⟩ := DataW.trod_int Try.underlying3 f1
    obtain ⟨m2, e2, _, _⟩ := DataW.trod_int Try.underlying3 f2
    injection e0 with e0
    injection e1 with e1
    injection e2 with e2
    exact ⟨⟨m0, m1, m2⟩, by rw [e0, e1, e2], w1⟩
theorem view3 {H : Type} {enc : TypeId × Value → H} {W : World} {base : Nat} {v : Value} {d : DataW H} {p : List MemPlace} (hv : Value.okWide Try.prog W .any base 22 v) (h : DataW.Trod enc Try.prog W 0 (fun _ => true) true 22 v d p) (_hlt : ∀ x ∈ p, x.block < W.heap.size) :
    ∃ A c L, v = .slice A L.length c ∧ RS W W.heap.size A L ∧ L.length ≤ c ∧ L.length ≤ 9223372036854775807 ∧ ∀ s ∈ L, -9223372036854775808 ≤ s.a ∧ s.a ≤ 9223372036854775807 := by
  obtain ⟨a0, len, cap, rfl⟩ := okWide_slice Try.underlying22 hv
  obtain ⟨fuel, hf⟩ := h
  rcases open_slice Try.underlying22 hf with ⟨hcs, hx⟩ | ⟨a, len', cap', m, n, D, Pl, hcs, _, hl, hm, hmm, hx, hcell⟩
  · simp [Value.cells] at hcs
    obtain ⟨rfl, rfl, rfl⟩ := hcs
    exact ⟨none, 0, [], rfl, .inl rfl, by simp, by simp, by simp⟩
  · simp [Value.cells] at hcs
    obtain ⟨rfl, rfl, rfl⟩ := hcs
    simp only [if_true] at hmm
    have each : ∀ i, i < m → ∃ s : Stp, W.cell? (a.add (i * 3)) = some (.int .i64 s.k) ∧ W.cell? ((a.add (i * 3)).add 1) = some (.int .i64 s.a) ∧ W.cell? ((a.add (i * 3)).add 2) = some (.int .i64 s.b) ∧ (Lit.int .i64 s.a).wf = true := by
      intro i hi
      obtain ⟨cs', h1, h2⟩ := hcell i hi
      rw [cells31] at h1
      obtain ⟨_, hlen, hc⟩ := World.cells?_some h1
      obtain ⟨s, rfl, hw⟩ := three h2 hlen
      have c0 := hc 0 (by omega)
      have c1 := hc 1 (by omega)
      have c2 := hc 2 (by omega)
      refine ⟨s, ?_, by simpa using c1, by simpa using c2, hw⟩
      have e0 : (a.add (i * 3)).add 0 = a.add (i * 3) := by unfold Addr.add; split <;> simp_all
      rw [e0] at c0
      simpa using c0
    obtain ⟨q, hq⟩ := choose_lt each
    have hll : ((List.range len).map q).length = len := by simp
    refine ⟨some a, cap, (List.range len).map q, by rw [hll], ?_, by omega, by rw [hll]; unfold maxLen at hm; omega, fun s hs => ?_⟩
    · by_cases h0 : len = 0
      · subst h0; exact .inl (by simp)
      · obtain ⟨b, off, spot⟩ := a
        have h00 := (hq 0 (by omega)).1
        have hspot : spot = none := by simpa [Addr.add] using World.cell?_spot h00
        subst hspot
        have hbl : b < W.heap.size := by
          have := World.block_lt_of_cell? W _ h00
          rw [add_plain] at this
          exact this
        refine .inr ⟨b, off, rfl, hbl, fun r x hr => ?_⟩
        rw [List.getElem?_map] at hr
        simp only [Option.map_eq_some_iff] at hr
        obtain ⟨r', hr', rfl⟩ := hr
        obtain ⟨hrl, hr'⟩ := List.getElem?_eq_some_iff.1 hr'
        simp only [List.getElem_range] at hr'
        subst hr'
        simp only [List.length_range] at hrl
        obtain ⟨h1, h2, h3, _⟩ := hq r (by omega)
        rw [add_plain, add_plain] at h2 h3
        rw [add_plain] at h1
        exact ⟨h1, h2, h3⟩
    · obtain ⟨r, hr, rfl⟩ := List.mem_map.1 hs
      have hrl := List.mem_range.1 hr
      exact bounds_i64 (hq r (by omega)).2.2.2
end Go.Proofs.Ytibiobcjnnoeeaa.Open
