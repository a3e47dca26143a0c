/-
  How a tile and a grid that come in are read.
-/
import Derived.Test.YtiggpmennomplaaGrd
import Derived.ProofKit
import Derived.OpenShut
import Derived.Carry
import Derived.ChangeSlices
import Derived.Lib.SmallJoins
import Derived.Deep.Grids
namespace Go.Proofs.Ytiggpmennomplaa.Open
open Go.ChangeShapes Go.WideShapes Go.ChangeAt Go.RowKit Go.Deep Con

theorem laidOut : laidOutB Try.prog = true := by kernel_rfl
theorem cells4 : Try.prog.cellsOf 4 = 1 := by kernel_rfl
theorem fits_of {n : Int} (h : (Lit.int .i64 n).wf = true) : Fits n := bounds_i64 h
theorem add_plain (b off k : Nat) : (⟨b, off, none⟩ : Addr).add k = ⟨b, off + k, none⟩ := by unfold Addr.add; split <;> simp_all

theorem viewP {H : Type} {enc : TypeId × Value → H} {W : World} {base : Nat} {v : Value} {d : DataW H} {p : List MemPlace} (hv : Value.okWide Try.prog W .any base 26 v) (h : DataW.Trod enc Try.prog W 0 (fun _ => true) true 26 v d p) :
    ∃ x y, v = pv x y ∧ Fits x ∧ Fits y := by
  obtain ⟨v0, v1, y0, y1, n, rfl, _, _, h0, h1⟩ := Go.Joins.open_agg2 Try.underlying26 (by kernel_rfl) (by kernel_rfl) hv h
  obtain ⟨x, e0, _, w0⟩ := DataW.trod_int Try.underlying3 h0
  obtain ⟨y, e1, _, w1⟩ := DataW.trod_int Try.underlying3 h1
  simp at e0 e1
  exact ⟨x, y, by rw [e0, e1], fits_of w0, fits_of w1⟩

theorem viewG {H : Type} {enc : TypeId × Value → H} {W : World} {base : Nat} {v : Value} {d : DataW H} {p : List MemPlace} (hv : Value.okWide Try.prog W .any base 24 v) (h : DataW.Trod enc Try.prog W 0 (fun _ => true) true 24 v d p) (hlt : ∀ x ∈ p, x.block < W.heap.size) :
    ∃ w h A c l, v = gv w h A (List.length l) c ∧ Fits w ∧ Fits h ∧ RB W W.heap.size A l := by
  obtain ⟨v0, v1, v2, y0, y1, y2, n, rfl, _, hp, h0, h1, h2⟩ := Go.Joins.open_agg3 Try.underlying24 (by kernel_rfl) (by kernel_rfl) hv h
  obtain ⟨x, e0, _, w0⟩ := DataW.trod_int Try.underlying3 h0
  obtain ⟨y, e1, _, w1⟩ := DataW.trod_int Try.underlying3 h1
  simp at e0 e1
  rcases open_bools Try.underlying22 Try.underlying4 cells4 h2 with ⟨hcs, hx⟩ | ⟨a, len, cap, B, hcs, _, hl, hm, hx, hcell⟩
  · simp at hcs
    exact ⟨x, y, none, 0, [], by rw [e0, e1, hcs]; rfl, fits_of w0, fits_of w1, .inl rfl⟩
  · simp at hcs
    refine ⟨x, y, some a, cap, (List.range len).map B, by rw [e0, e1, hcs]; simp, fits_of w0, fits_of w1, ?_⟩
    by_cases hz : len = 0
    · subst hz; exact .inl (by simp)
    · obtain ⟨b, off, spot⟩ := a
      have hspot : spot = none := by simpa [Addr.add] using World.cell?_spot (hcell 0 (by omega))
      subst hspot
      refine .inr ⟨b, off, rfl, hlt (.cell b off) (by rw [hp, hx]; simp; exact Or.inr (Or.inr (MemPlace.mem_row.2 ⟨0, by omega, by simp⟩))), fun k u hu => ?_⟩
      rw [List.getElem?_map] at hu
      by_cases hk : k < len
      · rw [List.getElem?_range hk] at hu
        have := hcell k (by omega)
        rw [add_plain] at this
        rw [this]
        simp at hu
        rw [hu]
      · rw [List.getElem?_eq_none (by simp; omega)] at hu; cases hu
end Go.Proofs.Ytiggpmennomplaa.Open
