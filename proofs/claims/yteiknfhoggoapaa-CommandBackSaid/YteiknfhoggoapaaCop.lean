/-
  How commands, texts and bytes that come in are read, with the bound on what each of them may take.
-/
import Derived.Test.YteiknfhoggoapaaPop
import Derived.Test.YteiknfhoggoapaaCmc
import Derived.SizedLaws
import Derived.Lib.SmallJoins
namespace Go.Proofs.Yteiknfhoggoapaa.Cop
open Go.ChangeShapes Go.WideShapes Go.ChangeAt Go.RowKit Mth Pm Con

theorem bytes5 : Try.prog.bytesOf 5 = 1 := by kernel_rfl
theorem cells23 : Try.prog.cellsOf 23 = 4 := by kernel_rfl
theorem text_of (s : ByteArray) : ∃ t, s = strOfNums t ∧ Byt t ∧ t.length = s.size := ⟨sb s, (sb_back s).symm, sb_byt s, sb_len s⟩
set_option maxRecDepth 20000 in
/-- A command that comes in. -/
theorem viewC {H : Type} {enc : TypeId × Value → H} {W : World} {base : Nat} {v : Value} {d : DataW H} {p : List MemPlace} (hv : Value.okWide Try.prog W .any base 23 v) (h : DataW.Trod enc Try.prog W 0 (fun _ => true) true 23 v d p)
    {ts : List TypeId} {ds : List (DataW H)} {j : Nat} (hz : (DataW.weightsEach Try.prog ts ds).all (· ≤ reachBytes) = true) (htj : ts[j]? = some 23) (hdj : ds[j]? = some d) :
    ∃ c : Cm, v = cv c ∧ FC c ∧ (c.t.length : Int) ≤ 140737488351232 ∧ p = [] := by
  obtain ⟨v0, v1, v2, v3, y0, y1, y2, y3, n, rfl, rfl, rfl, h0, h1, h2, h3⟩ := Go.Joins.open_agg4 Try.underlying23 (by kernel_rfl) cells23 hv h
  obtain ⟨a0, e0, x0, w0⟩ := DataW.trod_int Try.underlying3 h0
  obtain ⟨s, e1, x1, w1⟩ := DataW.trod_string Try.underlying9 h1
  obtain ⟨a2, e2, x2, w2⟩ := DataW.trod_int Try.underlying3 h2
  obtain ⟨a3, e3, x3, w3⟩ := DataW.trod_int Try.underlying3 h3
  injection e0 with e0; injection e1 with e1; injection e2 with e2; injection e3 with e3
  subst e0; subst e1; subst e2; subst e3
  subst x0; subst x1; subst x2; subst x3
  obtain ⟨t, hst, hb, hlen⟩ := text_of s
  have hsz : s.data.toList.length ≤ reachBytes := by
    have := List.all_eq_true.1 hz _ (DataW.weights_mem_each htj hdj s.data.toList.length (by simp [DataW.weights, DataW.weightsEach, Try.underlying23]))
    simpa using this
  rw [Array.length_toList] at hsz
  have h3' : reachBytes = 140737488351232 := rfl
  have h4 : s.data.size = s.size := rfl
  refine ⟨⟨a0, t, a2, a3⟩, by rw [hst], ⟨Pop.fits_of w0, hb, Pop.fits_of w2, Pop.fits_of w3⟩, ?_, rfl⟩
  show ((t.length : Nat) : Int) ≤ 140737488351232
  omega
theorem lenB {H : Type} {enc : TypeId × Value → H} {W : World} {base : Nat} {v : Value} {d : DataW H} {p : List MemPlace} (hv : Value.okWide Try.prog W .any base 25 v) (h : DataW.Trod enc Try.prog W 0 (fun _ => true) true 25 v d p)
    {ts : List TypeId} {ds : List (DataW H)} {j : Nat} (hz : (DataW.weightsEach Try.prog ts ds).all (· ≤ reachBytes) = true) (htj : ts[j]? = some 25) (hdj : ds[j]? = some d) {A : Option Addr} {n c : Nat} (hvn : v = .slice A n c) : (n : Int) ≤ 140737488351232 := by
  subst hvn
  obtain ⟨fuel, hf⟩ := h
  rcases open_ints Try.underlying25 Try.underlying5 Pop.cells5 hf with ⟨hcs, hx⟩ | ⟨a, len', cap', zs, hcs, _, hl, hm, hzl, hx, hcell, hwz⟩
  · simp [Value.cells] at hcs
    omega
  · simp [Value.cells] at hcs
    obtain ⟨rfl, rfl, rfl⟩ := hcs
    simp only [Prod.mk.injEq] at hx
    obtain ⟨rfl, rfl⟩ := hx
    simp only [if_true] at hzl
    have := sized_slice hz htj hdj Try.underlying25
    have e1 : (lits (H := H) .u8 (zs.take n)).length = n := by
      unfold lits
      rw [List.length_map, List.length_take]
      omega
    rw [e1, bytes5] at this
    have h3 : reachBytes = 140737488351232 := rfl
    omega
theorem lenT {H : Type} {s : ByteArray} {ts : List TypeId} {ds : List (DataW H)} {j : Nat} (hz : (DataW.weightsEach Try.prog ts ds).all (· ≤ reachBytes) = true) (htj : ts[j]? = some 9) (hdj : ds[j]? = some (.lit (.string s.data.toList))) : (s.size : Int) ≤ 140737488351232 := by
  have := sized_string hz htj hdj
  rw [Array.length_toList] at this
  have h3 : reachBytes = 140737488351232 := rfl
  have h4 : s.data.size = s.size := rfl
  omega
end Go.Proofs.Yteiknfhoggoapaa.Cop
