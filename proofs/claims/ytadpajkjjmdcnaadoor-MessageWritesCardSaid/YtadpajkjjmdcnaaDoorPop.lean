/-
  How a slice of bytes and a slice of numbers that come in are read: as lists, nil let in.
-/
import Derived.Test.YtadpajkjjmdcnaaDoorPme
import Derived.ProofKit
import Derived.OpenShut
import Derived.Carry
import Derived.ChangeSlices
import Derived.ChangeMaps5
namespace Go.Proofs.YtadpajkjjmdcnaaDoor.Pop
open Go.ChangeShapes Go.WideShapes Go.ChangeAt Go.RowKit Mth Pm

theorem laidOut : laidOutB Tryd.prog = true := by kernel_rfl
theorem cells3 : Tryd.prog.cellsOf 3 = 1 := by kernel_rfl
theorem cells5 : Tryd.prog.cellsOf 5 = 1 := by kernel_rfl

theorem fits_of {n : Int} (h : (Lit.int .i64 n).wf = true) : -9223372036854775808 ≤ n ∧ n ≤ 9223372036854775807 := bounds_i64 h

set_option maxRecDepth 20000 in
theorem view {K : IntKind} {t e : TypeId} (ht : Tryd.prog.underlying t = some (.slice e)) (he : Tryd.prog.underlying e = some (.int K)) (hc : Tryd.prog.cellsOf e = 1)
    {H : Type} {enc : TypeId × Value → H} {W : World} {base : Nat} {v : Value} {d : DataW H} {p : List MemPlace} (hv : Value.okWide Tryd.prog W .any base t v) (h : DataW.Trod enc Tryd.prog W 0 (fun _ => true) true t v d p) (hlt : ∀ x ∈ p, x.block < W.heap.size) :
    ∃ A c l, v = .slice A l.length c ∧ Rd K W W.heap.size A l ∧ l.length ≤ c ∧ l.length ≤ 9223372036854775807 ∧ ∀ x ∈ l, (Lit.int K x).wf = true := by
  obtain ⟨a0, len, cap, rfl⟩ := okWide_slice ht hv
  obtain ⟨fuel, hf⟩ := h
  rcases open_ints ht he hc hf with ⟨hcs, hx⟩ | ⟨a, len', cap', zs, hcs, _, hl, hm, hz, hx, hcell, hwz⟩
  · simp [Value.cells] at hcs
    obtain ⟨rfl, rfl, rfl⟩ := hcs
    exact ⟨none, 0, [], rfl, Rd.nil, by simp, by simp, by simp⟩
  · simp [Value.cells] at hcs
    obtain ⟨rfl, rfl, rfl⟩ := hcs
    simp only [Prod.mk.injEq] at hx
    obtain ⟨rfl, rfl⟩ := hx
    simp only [if_true] at hz
    have hlt' : (zs.take len).length = len := by simp; omega
    refine ⟨some a, cap, zs.take len, by rw [hlt'], ?_, by omega, by unfold maxLen at hm; omega, fun x hx => hwz x (List.mem_of_mem_take hx)⟩
    by_cases h0 : len = 0
    · subst h0; exact .inl (by simp)
    · obtain ⟨b, off, spot⟩ := a
      have hspot : spot = none := by simpa [Addr.add] using World.cell?_spot (hcell 0 (by omega))
      subst hspot
      refine .inr ⟨b, off, rfl, hlt (.cell b off) (MemPlace.mem_row.2 ⟨0, by omega, by simp⟩), fun k x hx => ?_⟩
      rw [List.getElem?_take] at hx
      split at hx
      · have hk : k < zs.length := by omega
        have := hcell k hk
        rw [add_plain] at this
        rw [this]
        rw [List.getElem?_eq_getElem hk] at hx
        injection hx with hx
        simp [List.getD, hk, hx]
      · cases hx

set_option maxRecDepth 20000 in
/-- A slice of bytes. -/
theorem viewB {H : Type} {enc : TypeId × Value → H} {W : World} {base : Nat} {v : Value} {d : DataW H} {p : List MemPlace} (hv : Value.okWide Tryd.prog W .any base 27 v) (h : DataW.Trod enc Tryd.prog W 0 (fun _ => true) true 27 v d p) (hlt : ∀ x ∈ p, x.block < W.heap.size) :
    ∃ A c l, v = .slice A l.length c ∧ Rd .u8 W W.heap.size A l ∧ l.length ≤ c ∧ l.length ≤ 9223372036854775807 ∧ Byt l := by
  obtain ⟨A, c, l, h1, h2, h3, h4, h5⟩ := view Tryd.underlying27 Tryd.underlying5 cells5 hv h hlt
  exact ⟨A, c, l, h1, h2, h3, h4, fun x hx => by have := bounds_u8 (h5 x hx); omega⟩
set_option maxRecDepth 20000 in
/-- A slice of numbers. -/
theorem viewI {H : Type} {enc : TypeId × Value → H} {W : World} {base : Nat} {v : Value} {d : DataW H} {p : List MemPlace} (hv : Value.okWide Tryd.prog W .any base 22 v) (h : DataW.Trod enc Tryd.prog W 0 (fun _ => true) true 22 v d p) (hlt : ∀ x ∈ p, x.block < W.heap.size) :
    ∃ A c l, v = .slice A l.length c ∧ Rd .i64 W W.heap.size A l ∧ l.length ≤ c ∧ l.length ≤ 9223372036854775807 ∧ ∀ x ∈ l, -9223372036854775808 ≤ x ∧ x ≤ 9223372036854775807 := by
  obtain ⟨A, c, l, h1, h2, h3, h4, h5⟩ := view Tryd.underlying22 Tryd.underlying3 cells3 hv h hlt
  exact ⟨A, c, l, h1, h2, h3, h4, fun x hx => fits_of (h5 x hx)⟩
end Go.Proofs.YtadpajkjjmdcnaaDoor.Pop
