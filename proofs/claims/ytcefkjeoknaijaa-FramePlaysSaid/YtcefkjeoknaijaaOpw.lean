/-
  How slices and texts that come in are read, with the bound on what one of them may take.
-/
import Derived.Test.YtcefkjeoknaijaaOpen
import Derived.SizedLaws
namespace Go.Proofs.Ytcefkjeoknaijaa.Opw
open Go.ChangeShapes Go.WideShapes Go.ChangeAt Go.RowKit Mth Mem

theorem bytes5 : Try.prog.bytesOf 5 = 1 := by kernel_rfl

theorem len_of {K : IntKind} {t e : TypeId} (ht : Try.prog.underlying t = some (.slice e)) (he : Try.prog.underlying e = some (.int K)) (hc : Try.prog.cellsOf e = 1) (hby : 1 ≤ Try.prog.bytesOf e)
    {H : Type} {enc : TypeId × Value → H} {W : World} {base : Nat} {v : Value} {d : DataW H} {p : List MemPlace} (hv : Value.okWide Try.prog W .any base t v) (h : DataW.Trod enc Try.prog W 0 (fun _ => true) true t v d p)
    {ts : List TypeId} {ds : List (DataW H)} {j : Nat} (hz : (DataW.weightsEach Try.prog ts ds).all (· ≤ reachBytes) = true) (htj : ts[j]? = some t) (hdj : ds[j]? = some d) {A : Option Addr} {n c : Nat} (hvn : v = .slice A n c) : (n : Int) ≤ 140737488351232 := by
  subst hvn
  obtain ⟨fuel, hf⟩ := h
  rcases open_ints ht he hc hf with ⟨hcs, hx⟩ | ⟨a, len', cap', zs, hcs, _, hl, hm, hzl, hx, hcell, hwz⟩
  · simp [Value.cells] at hcs
    omega
  · simp [Value.cells] at hcs
    obtain ⟨rfl, rfl, rfl⟩ := hcs
    simp only [Prod.mk.injEq] at hx
    obtain ⟨rfl, rfl⟩ := hx
    simp only [if_true] at hzl
    have := sized_slice hz htj hdj ht
    have e1 : (lits (H := H) K (zs.take n)).length = n := by
      unfold lits
      rw [List.length_map, List.length_take]
      omega
    rw [e1] at this
    have h2 : n * 1 ≤ (n + (lits (H := H) K (zs.drop n)).length) * Try.prog.bytesOf e := Nat.mul_le_mul (by omega) hby
    have h3 : reachBytes = 140737488351232 := rfl
    omega
theorem lenB {H : Type} {enc : TypeId × Value → H} {W : World} {base : Nat} {v : Value} {d : DataW H} {p : List MemPlace} (hv : Value.okWide Try.prog W .any base 23 v) (h : DataW.Trod enc Try.prog W 0 (fun _ => true) true 23 v d p)
    {ts : List TypeId} {ds : List (DataW H)} {j : Nat} (hz : (DataW.weightsEach Try.prog ts ds).all (· ≤ reachBytes) = true) (htj : ts[j]? = some 23) (hdj : ds[j]? = some d) {A : Option Addr} {n c : Nat} (hvn : v = .slice A n c) : (n : Int) ≤ 140737488351232 :=
  len_of Try.underlying23 Try.underlying5 Open.cells5 (by rw [bytes5]; omega) hv h hz htj hdj hvn
end Go.Proofs.Ytcefkjeoknaijaa.Opw
