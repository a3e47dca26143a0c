/-
  Words for memory, over any program: a slice of numbers that reads as a list; a block that is one struct of one slice; what a stream is, and what turns when one of its methods is called.
-/
import Derived.Test.YtieohegflcfnaaaMth
import Derived.WalkKit
import Derived.Lib.Hide
import Derived.Deep.Draws
namespace Go.Proofs.Ytieohegflcfnaaa.Mem
open Go.RowKit

/-- The cells of a list of numbers. -/
def vs (l : List Int) : List Value := l.map (Value.int .i64)

theorem vs_at {l : List Int} {k : Nat} {x : Int} (h : l[k]? = some x) : (vs l)[k]? = some (.int .i64 x) := by simp [vs, h]
theorem at_vs {l : List Int} {k : Nat} {u : Value} (h : (vs l)[k]? = some u) : ∃ x, l[k]? = some x ∧ u = .int .i64 x := by
  simp only [vs, List.getElem?_map, Option.map_eq_some_iff] at h
  obtain ⟨x, h1, h2⟩ := h
  exact ⟨x, h1, h2.symm⟩
theorem vs_one (l : List Int) : ∀ u ∈ vs l, u.oneCell' = true := by
  intro u hu
  simp only [vs, List.mem_map] at hu
  obtain ⟨x, _, rfl⟩ := hu
  rfl
theorem vs_length (l : List Int) : (vs l).length = l.length := by simp [vs]

/-- A slice at A reads as the numbers l, below block number B. -/
def Rd (w : World) (B : Nat) (A : Option Addr) (l : List Int) : Prop :=
  l = [] ∨ ∃ b off, A = some ⟨b, off, none⟩ ∧ b < B ∧ ∀ k x, l[k]? = some x → w.cell? ⟨b, off + k, none⟩ = some (.int .i64 x)

theorem Rd.at' {w : World} {B : Nat} {A : Option Addr} {l : List Int} (h : Rd w B A l) {k : Nat} (hk : k < l.length) :
    ∃ b off x, A = some ⟨b, off, none⟩ ∧ b < B ∧ l[k]? = some x ∧ w.cell? ⟨b, off + k, none⟩ = some (.int .i64 x) := by
  rcases h with rfl | ⟨b, off, hA, hb, hc⟩
  · simp at hk
  · exact ⟨b, off, l[k], hA, hb, List.getElem?_eq_getElem hk, hc k _ (List.getElem?_eq_getElem hk)⟩
theorem Rd.nil {w : World} {B : Nat} {A : Option Addr} : Rd w B A [] := .inl rfl
theorem Rd.keep {w w' : World} {B : Nat} {A : Option Addr} {l : List Int} (h : Rd w B A l) (hk : ∀ b, b < B → w'.heap[b]? = w.heap[b]?) : Rd w' B A l := by
  rcases h with rfl | ⟨b, off, hA, hb, hc⟩
  · exact .inl rfl
  · exact .inr ⟨b, off, hA, hb, fun k x hx => (World.cell?_of_block (w := w) (hk b hb)).trans (hc k x hx)⟩
theorem Rd.below {w w' : World} {B : Nat} {A : Option Addr} {l : List Int} (h : Rd w B A l) (hb : Below B w w') : Rd w' B A l := h.keep fun b hlt => hb.block b hlt
theorem Rd.more {w : World} {B B' : Nat} {A : Option Addr} {l : List Int} (h : Rd w B A l) (hB : B ≤ B') : Rd w B' A l := by
  rcases h with rfl | ⟨b, off, hA, hb, hc⟩
  · exact .inl rfl
  · exact .inr ⟨b, off, hA, by omega, hc⟩
theorem Rd.take {w : World} {B : Nat} {A : Option Addr} {l : List Int} (h : Rd w B A l) (n : Nat) : Rd w B A (l.take n) := by
  rcases h with rfl | ⟨b, off, hA, hb, hc⟩
  · exact .inl (by simp)
  · refine .inr ⟨b, off, hA, hb, fun k x hx => hc k x ?_⟩
    rw [List.getElem?_take] at hx
    split at hx
    · exact hx
    · cases hx
theorem Rd.cut {w : World} {B : Nat} {b off : Nat} {l : List Int} (h : Rd w B (some ⟨b, off, none⟩) l) (n : Nat) : Rd w B (some ⟨b, off + n, none⟩) (l.drop n) := by
  rcases h with rfl | ⟨b', off', hA, hb, hc⟩
  · exact .inl (by simp)
  · injection hA with hA
    injection hA with h1 h2
    subst h1; subst h2
    refine .inr ⟨b, off + n, rfl, hb, fun k x hx => ?_⟩
    rw [Nat.add_assoc]
    exact hc _ x (by rw [← hx, List.getElem?_drop])
theorem Rd.of_own {w : World} {base : Nat} {e : TypeId} {A : Option Addr} {n c : Nat} {l : List Int} (h : w.ownsRow base e 1 (.slice A n c) n (vs l)) : Rd w w.heap.size A l := by
  rcases h.2 with ⟨hv, rfl⟩ | ⟨g, cap, cur, hv, _, hg, _⟩
  · left
    have := h.1
    simp [vs_length] at this
    exact this
  · injection hv with hA _ _
    subst hA
    refine .inr ⟨g, 0, rfl, (Array.getElem?_eq_some_iff.1 hg).1, fun k x hx => ?_⟩
    have := h.cells (g := g) rfl k _ (vs_at hx)
    have ha : (⟨g, 0, none⟩ : Addr).add k = ⟨g, 0 + k, none⟩ := by unfold Addr.add; split <;> simp_all
    rw [ha] at this
    exact this

/-- Block g is one struct of type t that holds the one value v. -/
def Blk (w : World) (g : Nat) (t : TypeId) (v : Value) : Prop := w.heap[g]? = some (.cells #[v] t (0, 0))
theorem Blk.lt {w : World} {g : Nat} {t : TypeId} {v : Value} (h : Blk w g t v) : g < w.heap.size := (Array.getElem?_eq_some_iff.1 h).1
theorem Blk.cell {w : World} {g : Nat} {t : TypeId} {v : Value} (h : Blk w g t v) : w.cell? ⟨g, 0, none⟩ = some v := (cell_of_row w g 0 #[v] t (0, 0) h).trans rfl
theorem Blk.frozen {w : World} {g : Nat} {t : TypeId} {v : Value} (h : Blk w g t v) : w.frozen? ⟨g, 0, none⟩ = false := by
  unfold Blk at h; simp [World.frozen?, h]
theorem Blk.set {w : World} {g : Nat} {t : TypeId} {v : Value} (h : Blk w g t v) (u : Value) : Blk (w.setCell ⟨g, 0, none⟩ u) g t u := by
  unfold Blk at h ⊢
  simp [World.setCell, Array.getElem?_modify, h]

/-- Only block g, block r, and what is new, has turned. -/
structure Turn (w w' : World) (g : Nat) (r : Option Nat) : Prop where
  os : w'.os = w.os
  tape : w'.tape = w.tape
  output : w'.output = w.output
  size : w.heap.size ≤ w'.heap.size
  block : ∀ k, k < w.heap.size → k ≠ g → some k ≠ r → w'.heap[k]? = w.heap[k]?

theorem Turn.refl (w : World) (g : Nat) (r : Option Nat) : Turn w w g r := ⟨rfl, rfl, rfl, Nat.le_refl _, fun _ _ _ _ => rfl⟩
theorem Turn.below {w w' : World} {g : Nat} {r : Option Nat} {B : Nat} (h : Turn w w' g r) (hB : B ≤ w.heap.size) (hg : B ≤ g) (hr : ∀ k, r = some k → B ≤ k) : Below B w w' :=
  ⟨h.os, h.tape, h.output, h.size, fun k hk => h.block k (by omega) (by omega) (fun e => by have := hr k e.symm; omega)⟩
theorem Turn.of_grown {w w' : World} {g : Nat} {r : Option Nat} (h : w.grownBy w' r) : Turn w w' g r := ⟨h.os, h.tape, h.output, h.size, fun k hk _ hr => h.block k hk hr⟩
theorem Turn.of_below {w w' : World} {g : Nat} {r : Option Nat} (h : Below w.heap.size w w') : Turn w w' g r := ⟨h.os, h.tape, h.output, h.size, fun k hk _ _ => h.block k hk⟩
theorem Turn.setCell {w w' : World} {g : Nat} {r : Option Nat} (h : Turn w w' g r) (u : Value) : Turn w (w'.setCell ⟨g, 0, none⟩ u) g r :=
  ⟨h.os, h.tape, h.output, by simpa [World.setCell] using h.size, fun k hk hg hr => (Below.heap_setCell w' ⟨g, 0, none⟩ u k hg).trans (h.block k hk hg hr)⟩
theorem Turn.drewN {w w' : World} {g : Nat} {r : Option Nat} (h : Turn w w' g r) (n : Nat) : Turn w (w'.drewN n) g r := ⟨h.os, h.tape, h.output, h.size, h.block⟩

/-- A stream, or the document's own: a struct at block g of type t, with a slice of the call's own (its row: block r) that holds l. -/
def Str (w : World) (base : Nat) (t : TypeId) (g : Nat) (r : Option Nat) (l : List Int) : Prop :=
  ∃ A c, Blk w g t (.slice A l.length c) ∧ base ≤ g ∧ w.ownsRow base 3 1 (.slice A l.length c) l.length (vs l) ∧ (Value.slice A l.length c).ownBlock = r

theorem own_far {w w' : World} {base : Nat} {e : TypeId} {v : Value} {n : Nat} {xs : List Value} (h : w.ownsRow base e 1 v n xs) (hk : ∀ k, v.ownBlock = some k → w'.heap[k]? = w.heap[k]?) : w'.ownsRow base e 1 v n xs := by
  refine ⟨h.1, ?_⟩
  rcases h.2 with h2 | ⟨g, cap, cur, rfl, hg, hh, r⟩
  · exact .inl h2
  · exact .inr ⟨g, cap, cur, rfl, hg, (hk g rfl).trans hh, r⟩

theorem Str.keep {w w' : World} {base : Nat} {t : TypeId} {g : Nat} {r : Option Nat} {l : List Int} (h : Str w base t g r l) (hg : w'.heap[g]? = w.heap[g]?) (hr : ∀ k, r = some k → w'.heap[k]? = w.heap[k]?) : Str w' base t g r l := by
  obtain ⟨A, c, h1, h2, h3, h4⟩ := h
  exact ⟨A, c, hg.trans h1, h2, own_far h3 (fun k hk => hr k (h4 ▸ hk)), h4⟩
theorem Str.lt {w : World} {base : Nat} {t : TypeId} {g : Nat} {r : Option Nat} {l : List Int} (h : Str w base t g r l) : base ≤ g ∧ g < w.heap.size ∧ ∀ k, r = some k → base ≤ k ∧ k < w.heap.size := by
  obtain ⟨A, c, h1, h2, h3, h4⟩ := h
  exact ⟨h2, h1.lt, fun k hk => h3.lt k (h4.trans hk)⟩
theorem Str.ne {w : World} {base : Nat} {t : TypeId} {g : Nat} {r : Option Nat} {l : List Int} (h : Str w base t g r l) {g' : Nat} {t' : TypeId} {v : Value} (hb : Blk w g' t' v) (ht : 3 ≠ t') : r ≠ some g' := by
  rintro rfl
  obtain ⟨A, c, h1, h2, h3, h4⟩ := h
  rcases h3.2 with ⟨hv, _⟩ | ⟨g2, cap, cur, hv, _, hh, _⟩
  · rw [hv] at h4; simp [Value.ownBlock] at h4
  · rw [hv] at h4
    simp only [Value.ownBlock, Option.some.injEq] at h4
    subst h4
    unfold Blk at hb
    rw [hh] at hb
    injection hb with hb
    injection hb with _ hb
    exact ht hb
theorem Str.blk {w : World} {base : Nat} {t : TypeId} {g : Nat} {r : Option Nat} {l : List Int} (h : Str w base t g r l) : ∃ A c, Blk w g t (.slice A l.length c) := by
  obtain ⟨A, c, h1, _⟩ := h
  exact ⟨A, c, h1⟩

/-- What a stream's method leaves: the stream holds l'; only it has turned; its row is the elder one or a new one. -/
def Went (w w' : World) (base : Nat) (t : TypeId) (g : Nat) (r : Option Nat) (l' : List Int) : Prop :=
  ∃ r', Str w' base t g r' l' ∧ Turn w w' g r ∧ (r' = r ∨ ∃ k, r' = some k ∧ w.heap.size ≤ k)

/-- Two streams side by side stay apart. -/
theorem Str.beside {w w' : World} {base : Nat} {t t' : TypeId} {g g' : Nat} {r r' : Option Nat} {l l' : List Int} (h : Str w base t g r l) (h' : Str w base t' g' r' l') (ht : 3 ≠ t) (ht' : 3 ≠ t') (hg : g ≠ g') (hr : ∀ k, r = some k → r' ≠ some k) (hT : Turn w w' g' r') : Str w' base t g r l := by
  obtain ⟨A, c, hb⟩ := h.blk
  obtain ⟨A', c', hb'⟩ := h'.blk
  refine h.keep (hT.block g hb.lt hg (fun e => h'.ne hb ht e.symm)) (fun k hk => hT.block k (h.lt.2.2 k hk).2 ?_ (fun e => hr k hk e.symm))
  rintro rfl
  exact h.ne hb' ht' hk
end Go.Proofs.Ytieohegflcfnaaa.Mem
