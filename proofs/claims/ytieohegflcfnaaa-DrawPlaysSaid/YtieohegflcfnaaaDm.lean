/-
  Plain mathematics of Deal: places that change, and that each number stands once in what is dealt; and rows that are known whole.
-/
import Derived.Test.YtieohegflcfnaaaMem
import Derived.Laws.OwnMore
namespace Go.Proofs.Ytieohegflcfnaaa.Mth

/-- What stands at i and at j change places. -/
def swp (p : List Int) (i j : Nat) : List Int := (p.set i (p.getD j 0)).set j (p.getD i 0)
def sg (i j k : Nat) : Nat := if k = j then i else if k = i then j else k
theorem swp_length (p : List Int) (i j : Nat) : (swp p i j).length = p.length := by simp [swp]
theorem swp_get {p : List Int} {i j : Nat} (hi : i < p.length) (hj : j < p.length) (k : Nat) : (swp p i j)[k]? = p[sg i j k]? := by
  unfold swp sg
  by_cases h1 : k = j
  · subst h1
    rw [if_pos rfl, List.getElem?_set_self (by simpa using hj)]
    simp [List.getD, hi]
  · rw [if_neg h1, List.getElem?_set_ne (fun e => h1 e.symm)]
    by_cases h2 : k = i
    · subst h2
      rw [if_pos rfl, List.getElem?_set_self hi]
      simp [List.getD, hj]
    · rw [if_neg h2, List.getElem?_set_ne (fun e => h2 e.symm)]
theorem sg_inj {i j a b : Nat} (h : sg i j a = sg i j b) : a = b := by
  unfold sg at h
  repeat' split at h
  all_goals omega

/-- Each number from 0 on below the length stands at one place at most, and no other one stands anywhere. -/
def Each (p : List Int) : Prop := (∀ (a b : Nat) (x : Int), p[a]? = some x → p[b]? = some x → a = b) ∧ ∀ (a : Nat) (x : Int), p[a]? = some x → 0 ≤ x ∧ x < (p.length : Int)
theorem Each.swp {p : List Int} (h : Each p) {i j : Nat} (hi : i < p.length) (hj : j < p.length) : Each (swp p i j) := by
  refine ⟨fun a b x ha hb => ?_, fun a x ha => ?_⟩
  · rw [swp_get hi hj] at ha hb
    exact sg_inj (h.1 _ _ x ha hb)
  · rw [swp_get hi hj] at ha
    rw [swp_length]
    exact h.2 _ x ha

/-- 0 to n - 1. -/
def iota (n : Nat) : List Int := (List.range n).map Int.ofNat
theorem iota_length (n : Nat) : (iota n).length = n := by simp [iota]
theorem iota_get {n k : Nat} (h : k < n) : (iota n)[k]? = some (k : Int) := by simp [iota, h]
theorem iota_each (n : Nat) : Each (iota n) := by
  refine ⟨fun a b x ha hb => ?_, fun a x ha => ?_⟩
  · obtain ⟨h1, h2⟩ := List.getElem?_eq_some_iff.1 ha
    obtain ⟨h3, h4⟩ := List.getElem?_eq_some_iff.1 hb
    simp [iota] at h1 h2 h3 h4
    omega
  · obtain ⟨h1, h2⟩ := List.getElem?_eq_some_iff.1 ha
    simp [iota] at h1 h2
    rw [iota_length]
    omega

/-- The rounds of Deal, from i down to 1: what is dealt so far, how many words are taken. -/
def dealGo (l : List Int) : Nat → List Int → Nat → Option (List Int × Nat)
  | 0, p, t => some (p, t)
  | i + 1, p, t =>
    match fair (l.drop t) (i + 2) with
    | none => none
    | some (d, u) => dealGo l i (swp p (i + 1) d.toNat) (t + u)
theorem dealGo_none {l : List Int} {i : Nat} {p : List Int} {t : Nat} (h : fair (l.drop t) (i + 2) = none) : dealGo l (i + 1) p t = none := by
  simp only [dealGo]; rw [h]
theorem dealGo_some {l : List Int} {i : Nat} {p : List Int} {t u : Nat} {d : Int} (h : fair (l.drop t) (i + 2) = some (d, u)) : dealGo l (i + 1) p t = dealGo l i (swp p (i + 1) d.toNat) (t + u) := by
  simp only [dealGo]; rw [h]

def deal (l : List Int) (n : Nat) : Option (List Int × Nat) := dealGo l (n - 1) (iota n) 0

theorem dealGo_each {l : List Int} {i : Nat} {p q : List Int} {t s : Nat} (h : dealGo l i p t = some (q, s)) (hp : Each p) (hi : i < p.length ∨ i = 0) (ht : t ≤ l.length) : Each q ∧ q.length = p.length ∧ s ≤ l.length := by
  induction i generalizing p t with
  | zero =>
    simp only [dealGo, Option.some.injEq, Prod.mk.injEq] at h
    obtain ⟨rfl, rfl⟩ := h
    exact ⟨hp, rfl, ht⟩
  | succ i ih =>
    rcases hf : fair (l.drop t) (i + 2) with _ | ⟨d, u⟩
    · rw [dealGo_none hf] at h; cases h
    · rw [dealGo_some hf] at h
      have hb := fair_some hf
      rw [List.length_drop] at hb
      have hd : d.toNat < p.length := by omega
      have := ih h (hp.swp (i := i + 1) (by omega) hd) (by rw [swp_length]; omega) (by omega)
      rw [swp_length] at this
      exact this
theorem deal_each {l : List Int} {n : Nat} {q : List Int} {s : Nat} (h : deal l n = some (q, s)) : Each q ∧ q.length = n ∧ s ≤ l.length := by
  have := dealGo_each h (iota_each n) (by rw [iota_length]; omega) (Nat.zero_le _)
  rw [iota_length] at this
  exact this
end Go.Proofs.Ytieohegflcfnaaa.Mth
namespace Go.Proofs.Ytieohegflcfnaaa.Mem
open Go.RowKit

/-- Block g is just the numbers p. -/
def Arr (w : World) (g : Nat) (p : List Int) : Prop := w.heap[g]? = some (.cells (vs p).toArray 3 (0, 0))
theorem Arr.lt {w : World} {g : Nat} {p : List Int} (h : Arr w g p) : g < w.heap.size := (Array.getElem?_eq_some_iff.1 h).1
theorem Arr.cell {w : World} {g : Nat} {p : List Int} (h : Arr w g p) {i : Nat} {x : Int} (hx : p[i]? = some x) : w.cell? ⟨g, i, none⟩ = some (.int .i64 x) := by
  rw [cell_of_row w g i _ 3 (0, 0) h]
  simpa using vs_at hx
theorem Arr.frozen {w : World} {g : Nat} {p : List Int} (h : Arr w g p) (i : Nat) : w.frozen? ⟨g, i, none⟩ = false := by
  unfold Arr at h; simp [World.frozen?, h]
theorem Arr.set {w : World} {g : Nat} {p : List Int} (h : Arr w g p) (i : Nat) (x : Int) : Arr (w.setCell ⟨g, i, none⟩ (.int .i64 x)) g (p.set i x) := by
  unfold Arr at h ⊢
  simp [World.setCell, Array.getElem?_modify, h, vs, List.map_set]
theorem Arr.far {w : World} {g : Nat} {p : List Int} (h : Arr w g p) {a : Addr} (ha : g ≠ a.block) (u : Value) : Arr (w.setCell a u) g p := (Below.heap_setCell w a u g ha).trans h
theorem Arr.keep {w w' : World} {g : Nat} {p : List Int} (h : Arr w g p) (hk : w'.heap[g]? = w.heap[g]?) : Arr w' g p := hk.trans h
theorem Arr.drewN {w : World} {g : Nat} {p : List Int} (h : Arr w g p) (n : Nat) : Arr (w.drewN n) g p := h
theorem Arr.drew {w : World} {g : Nat} {p : List Int} (h : Arr w g p) : Arr w.drew g p := h
theorem Arr.rd {w : World} {g : Nat} {p : List Int} (h : Arr w g p) : Rd w w.heap.size (some ⟨g, 0, none⟩) p :=
  .inr ⟨g, 0, rfl, h.lt, fun k x hx => by rw [Nat.zero_add]; exact h.cell hx⟩
theorem Arr.of_own {w : World} {base g n : Nat} {p : List Int} (h : w.ownsRow base 3 1 (.slice (some ⟨g, 0, none⟩) n n) n (vs p)) : Arr w g p := by
  rcases h.2 with ⟨hv, _⟩ | ⟨g', cap, cur, hv, _, hg, hn, hm, hs, ht⟩
  · cases hv
  · injection hv with h1 h2 h3
    injection h1 with h1
    injection h1 with h1 _ _
    subst h1; subst h3
    unfold Arr
    rw [hg]
    have : cur = (vs p).toArray := by
      apply Array.ext'
      rw [← ht, List.take_of_length_le (by simp [hs])]
    rw [this]
end Go.Proofs.Ytieohegflcfnaaa.Mem
