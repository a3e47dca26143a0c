/-
  How a slice of slices of bytes that comes in is read: as a list of lists, nil let in; with the bound on what one of them may take.
-/
import Derived.Test.YtcefkjeoknaijaaOpw
import Derived.Test.YtcefkjeoknaijaaSml
import Derived.Deep.Matrix
namespace Go.Proofs.Ytcefkjeoknaijaa.Opr
open Go.ChangeShapes Go.WideShapes Go.ChangeAt Go.RowKit Go.Deep Mth Mem Con

theorem cells23 : Try.prog.cellsOf 23 = 1 := by kernel_rfl
theorem bytes23 : Try.prog.bytesOf 23 = 24 := by kernel_rfl

theorem weightsAll_mem {H : Type} {P : Program} {e : TypeId} : ∀ {l : List (DataW H)} {d : DataW H}, d ∈ l → ∀ n ∈ d.weights P e, n ∈ DataW.weightsAll P e l
  | d0 :: l, d, h, n, hn => by
    simp only [DataW.weightsAll, List.mem_append]
    rcases List.mem_cons.1 h with rfl | h
    · exact .inl hn
    · exact .inr (weightsAll_mem h n hn)
theorem sized_elem {H : Type} {P : Program} {ts : List TypeId} {ds : List (DataW H)} (h : (DataW.weightsEach P ts ds).all (· ≤ reachBytes) = true) {j : Nat} {t e q : TypeId} {elems spare : List (DataW H)} (ht : ts[j]? = some t) (hd : ds[j]? = some (.slice elems spare)) (hu : P.underlying t = some (.slice e)) (hv : P.underlying e = some (.slice q)) {xs ys : List (DataW H)} (hm : .slice xs ys ∈ elems) : (xs.length + ys.length) * P.bytesOf q ≤ reachBytes := by
  have := List.all_eq_true.1 h _ (DataW.weights_mem_each ht hd ((xs.length + ys.length) * P.bytesOf q) (by
    simp only [DataW.weights, hu, List.mem_cons, List.mem_append]
    exact .inr (.inl (weightsAll_mem hm _ (by simp [DataW.weights, hv])))))
  simpa using this

theorem view2 {H : Type} {enc : TypeId × Value → H} {W : World} {base : Nat} {v : Value} {d : DataW H} {p : List MemPlace} (hv : Value.okWide Try.prog W .any base 22 v) (h : DataW.Trod enc Try.prog W 0 (fun _ => true) true 22 v d p)
    {ts : List TypeId} {ds : List (DataW H)} {j : Nat} (hz : (DataW.weightsEach Try.prog ts ds).all (· ≤ reachBytes) = true) (htj : ts[j]? = some 22) (hdj : ds[j]? = some d) :
    ∃ (A : Option Addr) (c : Nat) (P : List (List Int)), v = .slice A P.length c ∧ Parts W W.heap.size A P ∧ (P.length : Int) ≤ 140737488351232 ∧ ∀ x ∈ P, (x.length : Int) ≤ 140737488351232 := by
  obtain ⟨a0, len, cap, rfl⟩ := okWide_slice Try.underlying22 hv
  obtain ⟨fuel, hf⟩ := h
  have hrb : reachBytes = 140737488351232 := rfl
  rcases open_int_rows Try.underlying22 Try.underlying23 Try.underlying5 cells23 Open.cells5 hf with ⟨hcs, hx⟩ | ⟨a, len', cap', A, L, C, Z, hcs, _, hl, hm, hx, hrows⟩
  · simp [Value.cells] at hcs
    obtain ⟨rfl, rfl, rfl⟩ := hcs
    exact ⟨none, 0, [], rfl, .inl rfl, by simp, by simp⟩
  · simp [Value.cells] at hcs
    obtain ⟨rfl, rfl, rfl⟩ := hcs
    simp only [Prod.mk.injEq] at hx
    obtain ⟨rfl, rfl⟩ := hx
    have hout := sized_slice hz htj hdj Try.underlying22
    rw [bytes23] at hout
    simp only [List.length_map, List.length_range] at hout
    have hlen : ((List.range len).map (fun r => (Z r).take (L r))).length = len := by simp
    refine ⟨some a, cap, (List.range len).map (fun r => (Z r).take (L r)), by rw [hlen], ?_, by rw [hlen]; omega, fun x hx => ?_⟩
    · by_cases h0 : len = 0
      · subst h0; exact .inl (by simp)
      · obtain ⟨b, off, spot⟩ := a
        have h00 := (hrows 0 (by omega)).1
        have hspot : spot = none := by simpa [Addr.add] using World.cell?_spot h00
        subst hspot
        have hbl : b < W.heap.size := by
          have := World.block_lt_of_cell? W _ h00
          rw [add_plain] at this
          exact this
        refine .inr ⟨b, off, rfl, hbl, fun r x hr => ?_⟩
        rw [List.getElem?_map] at hr
        simp only [Option.map_eq_some_iff] at hr
        obtain ⟨r', hr', rfl⟩ := hr
        obtain ⟨hrl, hr'⟩ := List.getElem?_eq_some_iff.1 hr'
        simp only [List.getElem_range] at hr'
        subst hr'
        simp only [List.length_range] at hrl
        obtain ⟨h1, h2, h3, h4, h5, h6, h7⟩ := hrows r (by omega)
        have hlr : ((Z r).take (L r)).length = L r := by simp; omega
        refine ⟨A r, C r, by rw [hlr, ← add_plain]; exact h1, ?_, fun x hx => by have := bounds_u8 (h5 x (List.mem_of_mem_take hx)); omega⟩
        by_cases hz0 : L r = 0
        · exact .inl (by rw [hz0]; simp)
        · rcases hA : A r with _ | ⟨b', off', spot'⟩
          · have := h6 hA; omega
          · obtain ⟨_, hcell⟩ := h7 _ hA
            have hc0 := hcell 0 (by omega)
            have hspot : spot' = none := by simpa [Addr.add] using World.cell?_spot hc0
            subst hspot
            have hbl' : b' < W.heap.size := by
              have := World.block_lt_of_cell? W _ hc0
              rw [add_plain] at this
              exact this
            refine .inr ⟨b', off', rfl, hbl', fun k x hx => ?_⟩
            rw [List.getElem?_take] at hx
            split at hx
            · have hk : k < (Z r).length := by omega
              have := hcell k (by omega)
              rw [add_plain] at this
              rw [this]
              rw [List.getElem?_eq_getElem hk] at hx
              injection hx with hx
              simp [List.getD, hk, hx]
            · cases hx
    · obtain ⟨r, hr, rfl⟩ := List.mem_map.1 hx
      have hrl := List.mem_range.1 hr
      obtain ⟨h1, h2, h3, h4, h5, h6, h7⟩ := hrows r (by omega)
      rcases hA : A r with _ | a'
      · have := h6 hA
        simp; omega
      · have hmem : (.slice (lits .u8 ((Z r).take (L r))) (lits .u8 ((Z r).drop (L r))) : DataW H) ∈ (List.range len).map fun r => intRow .u8 (A r) (L r) (Z r) := by
          refine List.mem_map.2 ⟨r, hr, ?_⟩
          simp only [intRow, hA]
        have := sized_elem hz htj hdj Try.underlying22 Try.underlying23 hmem
        rw [Opw.bytes5] at this
        have e1 : (lits (H := H) .u8 ((Z r).take (L r))).length = ((Z r).take (L r)).length := by simp [lits]
        rw [e1] at this
        omega
end Go.Proofs.Ytcefkjeoknaijaa.Opr
