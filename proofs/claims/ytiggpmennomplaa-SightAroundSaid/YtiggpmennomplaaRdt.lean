/-
  Words for rows of tiles: a slice that reads as a list of tiles, and a row of the call's own.
-/
import Derived.Test.YtiggpmennomplaaArn
import Derived.Deep.Draws
import Derived.Maps.OwnSet
namespace Go.Proofs.Ytiggpmennomplaa.Con
open Go.RowKit Go.Shelf Arn

theorem flat_len (l : List Tile) : (flat l).length = l.length * 2 := by
  induction l with
  | nil => rfl
  | cons t r ih => rw [show flat (t :: r) = .int .i64 t.1.1 :: .int .i64 t.1.2 :: flat r from rfl]; simp only [List.length_cons, ih]; omega
theorem flat_cons (t : Tile) (r : List Tile) : flat (t :: r) = .int .i64 t.1.1 :: .int .i64 t.1.2 :: flat r := rfl
theorem flat_get {l : List Tile} {k : Nat} {t : Tile} (h : l[k]? = some t) : (flat l)[k * 2]? = some (.int .i64 t.1.1) ∧ (flat l)[k * 2 + 1]? = some (.int .i64 t.1.2) := by
  induction l generalizing k with
  | nil => simp at h
  | cons x r ih =>
    cases k with
    | zero => simp at h; subst h; exact ⟨rfl, rfl⟩
    | succ k =>
      rw [List.getElem?_cons_succ] at h
      obtain ⟨h1, h2⟩ := ih h
      rw [flat_cons, show (k + 1) * 2 = k * 2 + 1 + 1 by omega]
      exact ⟨h1, h2⟩
theorem flat_take (l : List Tile) (n : Nat) : (flat l).take (n * 2) = flat (l.take n) := by
  induction l generalizing n with
  | nil => simp [flat]
  | cons x r ih =>
    cases n with
    | zero => simp [flat]
    | succ n =>
      rw [show (n + 1) * 2 = n * 2 + 1 + 1 by omega, flat_cons, List.take_succ_cons, List.take_succ_cons, ih, List.take_succ_cons, flat_cons]
theorem flat_set (l : List Tile) (k : Nat) (t : Tile) : flat (l.set k t) = ((flat l).set (k * 2) (.int .i64 t.1.1)).set (k * 2 + 1) (.int .i64 t.1.2) := by
  induction l generalizing k with
  | nil => simp [flat]
  | cons x r ih =>
    cases k with
    | zero => rfl
    | succ k =>
      rw [show (k + 1) * 2 = k * 2 + 1 + 1 by omega, flat_cons, List.set_cons_succ, flat_cons, List.set_cons_succ, List.set_cons_succ, ih, List.set_cons_succ, List.set_cons_succ]

theorem add_at (b off k : Nat) : (⟨b, off, none⟩ : Addr).add k = ⟨b, off + k, none⟩ := by unfold Addr.add; split <;> simp_all

/-- A slice at A reads as the tiles l. -/
def RT (w : World) (B : Nat) (A : Option Addr) (l : List Tile) : Prop :=
  l = [] ∨ ∃ b, A = some ⟨b, 0, none⟩ ∧ b < B ∧ ∀ k t, l[k]? = some t → w.cell? ⟨b, k * 2, none⟩ = some (.int .i64 t.1.1) ∧ w.cell? ⟨b, k * 2 + 1, none⟩ = some (.int .i64 t.1.2)
theorem RT.below {w w' : World} {B B' : Nat} {A : Option Addr} {l : List Tile} (h : RT w B A l) (hb : Below B' w w') (hB : B ≤ B') : RT w' B A l := by
  rcases h with rfl | ⟨b, hA, hlt, hc⟩
  · exact .inl rfl
  · refine .inr ⟨b, hA, hlt, fun k t ht => ?_⟩
    have e := hb.block b (by omega)
    obtain ⟨h1, h2⟩ := hc k t ht
    exact ⟨(World.cell?_of_block (w := w) e).trans h1, (World.cell?_of_block (w := w) e).trans h2⟩
theorem RT.more {w : World} {B B' : Nat} {A : Option Addr} {l : List Tile} (h : RT w B A l) (hB : B ≤ B') : RT w B' A l := by
  rcases h with rfl | ⟨b, hA, hlt, hc⟩
  · exact .inl rfl
  · exact .inr ⟨b, hA, by omega, hc⟩
theorem RT.at' {w : World} {B : Nat} {A : Option Addr} {l : List Tile} (h : RT w B A l) {k : Nat} {t : Tile} (ht : l[k]? = some t) : ∃ b, A = some ⟨b, 0, none⟩ ∧ b < B ∧ w.cell? ⟨b, k * 2, none⟩ = some (.int .i64 t.1.1) ∧ w.cell? ⟨b, k * 2 + 1, none⟩ = some (.int .i64 t.1.2) := by
  rcases h with rfl | ⟨b, hA, hb, hc⟩
  · simp at ht
  · exact ⟨b, hA, hb, hc k _ ht⟩

/-- A row of tiles of the call's own. -/
def OwnT (w : World) (base : Nat) (v : Value) (l : List Tile) : Prop := w.ownsRow base 26 2 v l.length (flat l)
theorem OwnT.shape {w : World} {base : Nat} {v : Value} {l : List Tile} (h : OwnT w base v l) : ∃ A c, v = .slice A l.length c ∧ RT w w.heap.size A l ∧ ((A = none ∧ l = [] ∧ c = 0) ∨ ∃ b cur, A = some ⟨b, 0, none⟩ ∧ base ≤ b ∧ l.length ≤ c ∧ w.heap[b]? = some (.cells cur 26 (0, 0)) ∧ cur.size = c * 2 ∧ c ≤ maxLen ∧ cur.toList.take (l.length * 2) = flat l) := by
  rcases h.2 with ⟨hv, h0⟩ | ⟨b, cap, cur, hv, hb, hg, hn, hm, hs, hx⟩
  · have hl := List.eq_nil_of_length_eq_zero h0
    subst hl
    exact ⟨none, 0, hv, .inl rfl, .inl ⟨rfl, rfl, rfl⟩⟩
  · refine ⟨_, cap, hv, .inr ⟨b, rfl, (Array.getElem?_eq_some_iff.1 hg).1, fun k t ht => ?_⟩, .inr ⟨b, cur, rfl, hb, hn, hg, hs, hm, hx⟩⟩
    subst hv
    have C := World.ownsRow.cells h (g := b) rfl
    obtain ⟨h1, h2⟩ := flat_get ht
    have C1 := C _ _ h1; have C2 := C _ _ h2
    rw [add_at, Nat.zero_add] at C1 C2
    exact ⟨C1, C2⟩
end Go.Proofs.Ytiggpmennomplaa.Con
