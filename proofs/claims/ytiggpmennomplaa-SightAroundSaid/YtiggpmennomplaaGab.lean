/-
  A grid and two tiles in boxes of a call's own; the contracts of bothIn, tile and walls (the maker of the iterator over the walls between two tiles).
-/
import Derived.Test.YtiggpmennomplaaLne
import Derived.Test.YtiggpmennomplaaLwx
import Derived.Laws.EntriesVeiled
namespace Go.Proofs.Ytiggpmennomplaa.Con
open Go.RowKit Go.Shelf Lin
attribute [local go_sem] Oper.semAt_some

/-- A grid and two tiles, in three boxes one behind another. -/
structure G3 (W H : Int) (A : Option Addr) (n c : Nat) (ax ay bx by' : Int) (s : Nat) (V : World) : Prop where
  g : V.heap[s]? = some (.cells #[.int .i64 W, .int .i64 H, .slice A n c] 24 (0, 0))
  a : BoxP V (s + 1) ax ay
  b : BoxP V (s + 1 + 1) bx by'
abbrev gab (W H : Int) (A : Option Addr) (n c : Nat) (ax ay bx by' : Int) (w : World) : World :=
  ((w.alloc (.cells #[.int .i64 W, .int .i64 H, .slice A n c] 24)).alloc (.cells #[.int .i64 ax, .int .i64 ay] 26)).alloc (.cells #[.int .i64 bx, .int .i64 by'] 26)
theorem gab_g3 (W H : Int) (A : Option Addr) (n c : Nat) (ax ay bx by' : Int) (w : World) : G3 W H A n c ax ay bx by' w.heap.size (gab W H A n c ax ay bx by' w) :=
  ⟨old_at (old_at (new_at _ _ rfl)), old_at (new_at _ _ (by simp)), new_at _ _ (by simp)⟩
theorem gab_below (W H : Int) (A : Option Addr) (n c : Nat) (ax ay bx by' : Int) (w : World) : Below w.heap.size w (gab W H A n c ax ay bx by' w) :=
  (((Below.refl _ w).alloc (Nat.le_refl _) _).alloc (by simp) _).alloc (by simp; omega) _
theorem G3.of {W H : Int} {A : Option Addr} {n c : Nat} {ax ay bx by' : Int} {s : Nat} {V V' : World} (h : G3 W H A n c ax ay bx by' s V) (hb : Below V.heap.size V V') : G3 W H A n c ax ay bx by' s V' :=
  ⟨(hb.block _ (Array.getElem?_eq_some_iff.1 h.g).1).trans h.g, h.a.kept (hb.block _ h.a.lt), h.b.kept (hb.block _ h.b.lt)⟩
theorem G3.kept {W H : Int} {A : Option Addr} {n c : Nat} {ax ay bx by' : Int} {s : Nat} {V V' : World} (h : G3 W H A n c ax ay bx by' s V) (hk : ∀ k, s ≤ k → k < s + 3 → V'.heap[k]? = V.heap[k]?) : G3 W H A n c ax ay bx by' s V' :=
  ⟨(hk _ (by omega) (by omega)).trans h.g, h.a.kept (hk _ (by omega) (by omega)), h.b.kept (hk _ (by omega) (by omega))⟩
theorem G3.lt {W H : Int} {A : Option Addr} {n c : Nat} {ax ay bx by' : Int} {s : Nat} {V : World} (h : G3 W H A n c ax ay bx by' s V) : s + 3 ≤ V.heap.size := h.b.lt
theorem G3.cells {W H : Int} {A : Option Addr} {n c : Nat} {ax ay bx by' : Int} {s : Nat} {V : World} (h : G3 W H A n c ax ay bx by' s V) :
    V.cell? ⟨s, 0, none⟩ = some (.int .i64 W) ∧ V.cell? ⟨s, 1, none⟩ = some (.int .i64 H) ∧ V.cell? ⟨s, 2, none⟩ = some (.slice A n c) ∧
    V.cell? ⟨s + 1, 0, none⟩ = some (.int .i64 ax) ∧ V.cell? ⟨s + 1, 1, none⟩ = some (.int .i64 ay) ∧ V.cell? ⟨s + 1 + 1, 0, none⟩ = some (.int .i64 bx) ∧ V.cell? ⟨s + 1 + 1, 1, none⟩ = some (.int .i64 by') :=
  ⟨by simp [World.cell?, h.g], by simp [World.cell?, h.g], by simp [World.cell?, h.g], h.a.cell0, h.a.cell1, h.b.cell0, h.b.cell1⟩
theorem g3_own {W H : Int} {A : Option Addr} {n c : Nat} {ax ay bx by' : Int} {s B : Nat} {V V' : World} {row : Option Nat} (h : G3 W H A n c ax ay bx by' s V) (hg : V.grownBy V' row) (hr : ∀ r, row = some r → B ≤ r ∧ ∃ o : Obj, V.heap[r]? = some o ∧ o.isCells = false) : G3 W H A n c ax ay bx by' s V' :=
  ⟨own_at h.g hg hr, own_at h.a hg hr, own_at h.b hg hr⟩

def bothB (W H : Int) (n : Nat) (ax ay bx by' : Int) : Bool := inB W H n ax ay && inB W H n bx by'

set_option maxRecDepth 100000 in
theorem bothIn_any (W H : Int) (A : Option Addr) (n c : Nat) (ax ay bx by' : Int) (w : World) :
    Calls Try.prog 23 #[gv W H A n c, pv ax ay, pv bx by'] w fun e w' => e = .returned (.bool (bothB W H n ax ay bx by')) ∧ Below w.heap.size w w' := by
  have hb := gab_below W H A n c ax ay bx by' w
  have hg := gab_g3 W H A n c ax ay bx by' w
  have HG := Lib.hid hg; clear hg
  have hia : ∀ w : World, Calls Try.prog 18 #[gv W H A n c, pv ax ay] w fun e w' => e = .returned (.bool (inB W H n ax ay)) ∧ Below w.heap.size w w' := fun w => in_any W H A n c ax ay w
  have hib : ∀ w : World, Calls Try.prog 18 #[gv W H A n c, pv bx by'] w fun e w' => e = .returned (.bool (inB W H n bx by')) ∧ Below w.heap.size w w' := fun w => in_any W H A n c bx by' w
  unfold bothB
  cases ha : inB W H n ax ay with
  | false =>
    rw [ha] at hia
    have HA := Lib.hid hia; clear hia
    clear ha
    go_enter Try.func23, Try.ntmps23
    go_wp2_with (first | ((with_reducible refine (HA.out _).mono ?_); rintro e w1 ⟨rfl, hB⟩; obtain ⟨c0, c1, c2, c3, c4, c5, c6⟩ := (HG.out.of hB).cells; have HB := Lib.hid hB; clear hB))
    go_ret
    exact ⟨rfl, hb.trans (HB.out.mono hb.size)⟩
  | true =>
    rw [ha] at hia
    have HA := Lib.hid hia; clear hia
    have HI := Lib.hid hib; clear hib
    clear ha
    go_enter Try.func23, Try.ntmps23
    go_wp2_with (first
      | ((with_reducible refine (HA.out _).mono ?_); rintro e w1 ⟨rfl, hB⟩; obtain ⟨c0, c1, c2, c3, c4, c5, c6⟩ := (HG.out.of hB).cells; have HB := Lib.hid hB; clear hB)
      | ((with_reducible refine (HI.out _).mono ?_); rintro e w2 ⟨rfl, hB2⟩))
    go_ret
    exact ⟨rfl, hb.trans ((HB.out.trans (hB2.mono HB.out.size)).mono hb.size)⟩

theorem tile_any (x y : Int) (w : World) : Calls Try.prog 22 #[.int .i64 x, .int .i64 y] w fun e w' => e = .returned (pv x y) ∧ Below w.heap.size w w' := by
  go_enter Try.func22, Try.ntmps22
  go_wp2
  refine bodyPost_ret (v := pv x y) (by simp [results, Try.results22, go_sem]; try rfl) rfl ?_
  exact ⟨rfl, (Below.refl _ w).alloc (Nat.le_refl _) _⟩

theorem walls_any (W H : Int) (A : Option Addr) (n c : Nat) (ax ay bx by' : Int) (w : World) :
    Calls Try.prog 24 #[gv W H A n c, pv ax ay, pv bx by'] w fun e w' => e = .returned (.func (.func 38) #[] #[pt (w.heap.size + 1), pt (w.heap.size + 1 + 1), pt w.heap.size]) ∧ w' = gab W H A n c ax ay bx by' w := by
  go_enter Try.func24, Try.ntmps24
  go_wp2
  go_ret
  exact ⟨rfl, rfl⟩

/-- What Line tells. -/
def lineG (W H : Int) (n : Nat) (ax ay bx by' : Int) : List Tile := if bothB W H n ax ay bx by' = true then lineL ax ay bx by' else []
theorem both_in {W H : Int} {n : Nat} {ax ay bx by' : Int} (h : bothB W H n ax ay bx by' = true) : ((0 ≤ ax ∧ ax ≤ 256) ∧ 0 ≤ ay ∧ ay ≤ 256) ∧ (0 ≤ bx ∧ bx ≤ 256) ∧ 0 ≤ by' ∧ by' ≤ 256 := by
  unfold bothB at h
  rw [Bool.and_eq_true] at h
  have h1 := at_in h.1
  have h2 := at_in h.2
  omega
end Go.Proofs.Ytiggpmennomplaa.Con
