/-
  Small laws that several of the statements' walks use: the form of a row of the call's own, texts that are alike.
-/
import Derived.Test.YtgandkgcnackkaaSmall
namespace Go.Proofs.Ytgandkgcnackkaa.Con
open Go.RowKit Mth Mem

theorem below_drewN {B : Nat} {a w : World} (h : Below B a w) (n : Nat) : Below B a (w.drewN n) := ⟨h.os, h.tape, h.output, h.size, h.block⟩

theorem own_form {w : World} {base : Nat} {K : IntKind} {e : TypeId} {A : Option Addr} {c : Nat} {l : List Int} (h : Own w base K e A c l) (hl : 1 ≤ l.length) : ∃ g, A = some ⟨g, 0, none⟩ ∧ base ≤ g ∧ g < w.heap.size ∧ l.length ≤ c := by
  rcases h.2 with ⟨_, h0⟩ | ⟨g, cap, cur, hv, hb, hg, hn, _⟩
  · omega
  · injection hv with h1 h2 h3
    exact ⟨g, h1, hb, (Array.getElem?_eq_some_iff.1 hg).1, by omega⟩


theorem neg_last {w w1 w2 w3 : World} (h1 : Below w.heap.size w w1) (h2 : Below w1.heap.size w1 w2) (h3 : Below w2.heap.size w2 w3) : Below w.heap.size w w3 :=
  have k1 := h1.trans (h2.mono h1.size)
  k1.trans (h3.mono k1.size)

theorem txt_inj {l m : List Int} (hl : Byt l) (hm : Byt m) (h : (strOfNums l).toList = (strOfNums m).toList) : l = m := by
  rw [ByteArray.toList_eq, ByteArray.toList_eq] at h
  refine str_inj hl hm ?_
  have : (strOfNums l).data = (strOfNums m).data := Array.toList_inj.1 h
  exact congrArg ByteArray.mk this
theorem eq_same {l m : List Int} (h : l = m) : ((strOfNums l).toList == (strOfNums m).toList) = true := by subst h; simp

end Go.Proofs.Ytgandkgcnackkaa.Con
