/-
  A feed's Push as the laws use it: beside what stays; the loads that it answers, one by one.
-/
import Derived.Test.YtcefkjeoknaijaaSml
namespace Go.Proofs.Ytcefkjeoknaijaa.Con
open Go.RowKit Mth Mem

theorem Feed.more {w : World} {base base' g : Nat} {r : Option Nat} {l : List Int} {d : Bool} (h : Feed w base g r l d) (hb : base' ≤ base) : Feed w base' g r l d := by
  obtain ⟨A, c, h1, h2, h3, h4⟩ := h
  exact ⟨A, c, h1, by omega, own_base h3 hb, h4⟩
theorem Turn.below_feed {w w' : World} {base g : Nat} {r : Option Nat} {l : List Int} {d : Bool} (h : Turn w w' g r) (hf : Feed w base g r l d) : Below base w w' := by
  have := hf.lt
  exact h.below (by omega) this.1 (fun k hk => (this.2.2 k hk).1)

theorem Rows.at' {w : World} {lo : Nat} {f : Option Nat} {A : Option Addr} {c : Nat} {L : List (List Int)} (h : Rows w lo f A c L) {k : Nat} (hk : k < L.length) :
    ∃ g x A1 c1, A = some ⟨g, 0, none⟩ ∧ L[k]? = some x ∧ w.cell? ⟨g, k, none⟩ = some (.slice A1 x.length c1) ∧ Own w lo .u8 5 A1 c1 x ∧ (∀ j, blk A1 = some j → some j ≠ f) := by
  obtain ⟨xs, h1, h2, _⟩ := h
  obtain ⟨A1, c1, k1, k2, k3⟩ := h2.2 k L[k] (List.getElem?_eq_getElem hk)
  rcases h1.2 with ⟨_, h0⟩ | ⟨g, cap, cur, hv, hb, hg, hn, _⟩
  · omega
  · injection hv with hA _ hc
    subst hA
    have f0 := h1.cells (g := g) rfl k _ k1
    rw [add_none, Nat.zero_add] at f0
    exact ⟨g, L[k], A1, c1, rfl, List.getElem?_eq_getElem hk, f0, k2, k3⟩

/-- Push on a feed that is not dead, below which nothing turns. -/
theorem x_push {w0 w : World} {base g : Nat} {r : Option Nat} {l b : List Int} {B : Nat} {A : Option Addr} {c : Nat} (h : Feed w base g r l false) (hw : Below base w0 w) (hr : Rd .u8 w B A b) (hl : (l.length : Int) ≤ 4104) (hm : (b.length : Int) ≤ 20000) (hby : Byt l) (hbb : Byt b) {L : List (List Int)} {z : List Int} {x : Int} (hp : parse (l ++ b) = (L, z, x)) (d : Bool) (hd : (x != 0) = d) :
    Calls Try.prog 10 #[.pointer (some ⟨g, 0, none⟩), .slice A b.length c] w fun e w' => ∃ A' c' r', e = .returned (.tuple #[.slice A' L.length c', .int .i64 x]) ∧ Hid (Feed w' base g r' z d) ∧ Hid (Rows w' w.heap.size r' A' c' L) ∧ Hid (Below base w0 w') ∧ Hid (Turn w w' g r) ∧ Hid (r' = r ∨ ∀ k, r' = some k → w.heap.size ≤ k) := by
  subst hd
  have hlt := h.lt
  refine (push_any w base g r l b B A c h hr hl hm (hby.app hbb) (by omega) L z x hp).mono ?_
  rintro e w' ⟨A', c', r', rfl, HF, HR, HT, HX⟩
  exact ⟨A', c', r', rfl, HF, HR, hw.trans (HT.out.below_feed h), HT, HX⟩
end Go.Proofs.Ytcefkjeoknaijaa.Con
