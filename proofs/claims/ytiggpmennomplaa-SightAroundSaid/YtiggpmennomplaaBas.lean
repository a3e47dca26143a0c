/-
  Boxes of tiles, and what a round keeps: small laws for ranges over functions.
-/
import Derived.Test.YtiggpmennomplaaWlk
import Derived.RangeFuncNested
import Derived.RangeFuncBound
import Derived.RangeFuncCalls
import Derived.RangeFuncLeaves
import Derived.Shelf.Abstract
import Derived.Shelf.RegionOpen
import Derived.WalkKit
import Derived.OwnWalkIn
import Derived.TacticsInMore
import Derived.LoopNIn
import Derived.LoopIn
import Derived.StillTailTactics
namespace Go.Proofs.Ytiggpmennomplaa.Con
open Go.RowKit Go.Shelf Wlk
attribute [local go_sem] Oper.semAt_some

/-- A box of a tile. -/
def BoxP (W : World) (B : Nat) (x y : Int) : Prop := W.heap[B]? = some (.cells #[.int .i64 x, .int .i64 y] 26 (0, 0))
theorem BoxP.lt {W : World} {B : Nat} {x y : Int} (h : BoxP W B x y) : B < W.heap.size := (Array.getElem?_eq_some_iff.1 h).1
theorem BoxP.cell0 {W : World} {B : Nat} {x y : Int} (h : BoxP W B x y) : W.cell? ⟨B, 0, none⟩ = some (.int .i64 x) := by simp [World.cell?, show W.heap[B]? = _ from h]
theorem BoxP.cell1 {W : World} {B : Nat} {x y : Int} (h : BoxP W B x y) : W.cell? ⟨B, 1, none⟩ = some (.int .i64 y) := by simp [World.cell?, show W.heap[B]? = _ from h]
theorem BoxP.frozen {W : World} {B : Nat} {x y : Int} (h : BoxP W B x y) (k : Nat) : W.frozen? ⟨B, k, none⟩ = false := by simp [World.frozen?, show W.heap[B]? = _ from h]
theorem BoxP.new (W : World) (x y : Int) : BoxP (W.alloc (.cells #[.int .i64 x, .int .i64 y] 26)) W.heap.size x y := World.alloc_heap_new W _
theorem BoxP.kept {W W' : World} {B : Nat} {x y : Int} (h : BoxP W B x y) (he : W'.heap[B]? = W.heap[B]?) : BoxP W' B x y := he.trans h
theorem BoxP.alloc {W : World} {B : Nat} {x y : Int} (h : BoxP W B x y) (o : Obj) : BoxP (W.alloc o) B x y := h.kept (Below.heap_alloc W o B h.lt)

/-- What a round keeps: what lay below n₀, and each block of cells but those of K. -/
def KC (K : List Nat) (n₀ : Nat) (W W' : World) : Prop := Below n₀ W W' ∧ ∀ k o, k ∉ K → W.heap[k]? = some o → o.isCells = true → W'.heap[k]? = some o
theorem KC.trans {K : List Nat} {n₀ : Nat} {A B C : World} (h : KC K n₀ A B) (k : KC K n₀ B C) : KC K n₀ A C :=
  ⟨h.1.trans k.1, fun i o hi ho hc => k.2 i o hi (h.2 i o hi ho hc) hc⟩
theorem KC.box {K : List Nat} {n₀ : Nat} {A B : World} (h : KC K n₀ A B) {b : Nat} {x y : Int} (hb : BoxP A b x y) (hk : b ∉ K) : BoxP B b x y := h.2 b _ hk hb rfl
theorem KC.putObj {K : List Nat} {n₀ m : Nat} (hn : n₀ ≤ m) (W : World) (l : Nat) (o o' : Obj) (hl : m ≤ l) (h : W.heap[l]? = some o) (hc : o.isCells = false) : KC K n₀ W (W.putObj l o') := by
  refine ⟨⟨rfl, rfl, rfl, by simp, fun k hk => World.putObj_heap_other (by omega)⟩, fun k _ _ ho h2 => ?_⟩
  rw [World.putObj_heap_other (fun e => by subst e; rw [h] at ho; cases ho; rw [hc] at h2; cases h2)]
  exact ho
theorem KC.of_below {K : List Nat} {n₀ : Nat} {A B : World} (h : Below A.heap.size A B) (hn : n₀ ≤ A.heap.size) : KC K n₀ A B :=
  ⟨h.mono hn, fun k _ _ ho _ => (h.block k (Array.getElem?_eq_some_iff.1 ho).1).trans ho⟩
theorem KC.set {K : List Nat} {n₀ : Nat} (W : World) (b i : Nat) (v : Value) (hb : b ∈ K) (hn : n₀ ≤ b) : KC K n₀ W (W.setCell ⟨b, i, none⟩ v) :=
  ⟨(Below.refl n₀ W).setCell (p := ⟨b, i, none⟩) hn v, fun k _ hk ho _ => (Below.heap_setCell W ⟨b, i, none⟩ v k (fun e => hk (e ▸ hb))).trans ho⟩

theorem set_same {W : World} {B : Nat} {c : Array Value} {t : TypeId} {fr : Nat × Nat} (h : W.heap[B]? = some (.cells c t fr)) (k : Nat) (v : Value) : (W.setCell ⟨B, k, none⟩ v).heap[B]? = some (.cells (c.setIfInBounds k v) t fr) := by
  obtain ⟨hlt, hk⟩ := Array.getElem?_eq_some_iff.1 h
  show (W.heap.modify B _)[B]? = _
  rw [Array.getElem?_eq_getElem (by rw [Array.size_modify]; exact hlt), Array.getElem_modify_self, hk]
  rfl
/-- Both cells of a box written anew. -/
abbrev put2 (W : World) (B : Nat) (x y : Int) : World := ((W.setCell ⟨B, 0, none⟩ (.int .i64 x)).setCell ⟨B, 1, none⟩ (.int .i64 y))
theorem BoxP.put {W : World} {B : Nat} {x y : Int} (h : BoxP W B x y) (x' y' : Int) : BoxP (put2 W B x' y') B x' y' := by
  exact set_same (set_same h 0 (.int .i64 x')) 1 (.int .i64 y')
theorem BoxP.put_other {W : World} {B B' : Nat} {x y : Int} (h : BoxP W B x y) (hne : B ≠ B') (x' y' : Int) : BoxP (put2 W B' x' y') B x y :=
  (Below.heap_setCell _ ⟨B', 1, none⟩ _ B hne).trans ((Below.heap_setCell _ ⟨B', 0, none⟩ _ B hne).trans h)
theorem grown_put {A W : World} {B : Nat} (h : A.grownBy W none) (hB : A.heap.size ≤ B) (x' y' : Int) : A.grownBy (put2 W B x' y').drew none :=
  ⟨h.os, h.tape, h.output, by show A.heap.size ≤ (put2 W B x' y').heap.size; simp; exact h.size, fun k hk hn =>
    (Below.heap_setCell _ ⟨B, 1, none⟩ _ k (by show k ≠ B; omega)).trans ((Below.heap_setCell _ ⟨B, 0, none⟩ _ k (by show k ≠ B; omega)).trans (h.block k hk hn))⟩

theorem bcell {W w1 : World} (hb : Below W.heap.size W w1) : (∀ b o, b < W.heap.size → w1.cell? ⟨b, o, none⟩ = W.cell? ⟨b, o, none⟩) ∧ (∀ b o, b < W.heap.size → w1.frozen? ⟨b, o, none⟩ = W.frozen? ⟨b, o, none⟩) :=
  ⟨fun b o h => hb.cell (p := ⟨b, o, none⟩) h, fun b o h => hb.frozen (p := ⟨b, o, none⟩) h⟩

theorem new_at (w : World) (o : Obj) {k : Nat} (h : k = w.heap.size) : (w.alloc o).heap[k]? = some o := by subst h; exact World.alloc_heap_new _ _
theorem old_at {w : World} {o o2 : Obj} {k : Nat} (h : w.heap[k]? = some o) : (w.alloc o2).heap[k]? = some o := (Below.heap_alloc w o2 k (Array.getElem?_eq_some_iff.1 h).1).trans h
theorem own_at {B k : Nat} {V V' : World} {row : Option Nat} {cs : Array Value} {t : TypeId} {fr : Nat × Nat} (h : V.heap[k]? = some (.cells cs t fr)) (hg : V.grownBy V' row) (hr : ∀ r, row = some r → B ≤ r ∧ ∃ o : Obj, V.heap[r]? = some o ∧ o.isCells = false) : V'.heap[k]? = some (.cells cs t fr) :=
  (hg.block k (Array.getElem?_eq_some_iff.1 h).1 (fun e => by obtain ⟨_, o, ho, hc⟩ := hr k e.symm; rw [h] at ho; cases ho; cases hc)).trans h

theorem keeps_below {B : Nat} {V V' : World} (h : Below V.heap.size V V') : KeepsFrom B V V' := ⟨h.size, fun k _ _ hk _ => (h.block k (Array.getElem?_eq_some_iff.1 hk).1).trans hk⟩
end Go.Proofs.Ytiggpmennomplaa.Con
