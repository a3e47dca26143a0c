/-
  Rows that uses made: what holds of them, and of a round of uses.
-/
import Derived.Test.YtmdnjkiciaidiaaRrw
namespace Go.Proofs.Ytmdnjkiciaidiaa.Con
open Go.RowKit Go.Maps

def FF (P : List Cp) : Prop := ∀ x ∈ P, ∀ y ∈ x.2, Fits y
theorem ff_ft {P : List Cp} (h : FF P) : FtC P := fun x hx y hy => (h x hx y hy).2
theorem ff_bk {P : List Cp} (h : FF P) (id : Int) : ∀ y ∈ bkI P id, Fits y := fun y hy => h _ (bk_in (by have := List.length_pos_of_mem hy; omega)) y hy
theorem ff_use {P : List Cp} (h : FF P) (id cool now : Int) : FF (usL P id cool now) := by
  intro x hx y hy
  rcases put_mem hx with hx | hx
  · unfold oneI at hx
    split at hx
    · cases hx
    · rcases List.mem_singleton.1 hx with rfl
      have hy : y ∈ nbI (wyI P id now) cool now := hy
      unfold nbI at hy
      split at hy
      · rcases List.mem_append.1 hy with hy | hy
        · exact ff_bk h id y (aw_in hy)
        · rcases List.mem_singleton.1 hy with rfl; exact held_fits _
      · exact ff_bk h id y (aw_in hy)
  · exact h x hx y hy
/-- The charges of the ability of that Id. -/
def fU (ch : List Int) (id : Int) : Int := (ch[(id - 1).toNat]?).getD 0
theorem fu_at {ch : List Int} {k : Nat} {y : Int} (h : ch[k]? = some y) : fU ch ((k : Int) + 1) = y := by
  unfold fU
  rw [show ((k : Int) + 1 - 1).toNat = k by omega, h]; rfl
/-- What holds of the row behind k steps. -/
structure Inv (ch : List Int) (k : Nat) (P : List Cp) : Prop where
  ui : UI P (fU ch)
  ff : FF P
  len : P.length ≤ k
theorem Inv.short {ch : List Int} {k : Nat} {P : List Cp} (h : Inv ch k P) : ∀ x ∈ P, x.2.length ≤ 1000 := fun x hx => Nat.le_trans (h.ui.1.1 x hx).2.2.1 (by omega)
theorem inv_nil (ch : List Int) : Inv ch 0 [] := ⟨ui_nil _, fun x hx => (by cases hx), Nat.le_refl _⟩
theorem Inv.more {ch : List Int} {k : Nat} {P : List Cp} (h : Inv ch k P) : Inv ch (k + 1) P := ⟨h.ui, h.ff, by have := h.len; omega⟩
theorem Inv.use {ch : List Int} {k j : Nat} {P : List Cp} (h : Inv ch k P) {c co now : Int} (hc : ch[j]? = some c) (h2 : c ≤ 100) (hn : 0 ≤ now) (hn2 : now ≤ 1000000) (hw : ((wyI P ((j : Int) + 1) now).length : Int) < c) : Inv ch (k + 1) (usL P ((j : Int) + 1) co now) :=
  ⟨ui_use h.ui (by omega) (by rw [fu_at hc]; exact h2) (by rw [fu_at hc]; exact hw) (by omega) (by omega), ff_use h.ff _ _ _, by have := put_len (id := (j : Int) + 1) (b := nbI (wyI P ((j : Int) + 1) now) co now) P; have := h.len; show (putI P _ _).length ≤ _; omega⟩
/-- All that a round asks, of an ability of c charges. -/
theorem Inv.facts {ch : List Int} {k j : Nat} {P : List Cp} (h : Inv ch k P) {c co now : Int} (hc : ch[j]? = some c) (h1 : 1 ≤ c) (h2 : c ≤ 100) (hn : 0 ≤ now) (hn2 : now ≤ 1000000) :
    ∃ at' : Int, nxI P ((j : Int) + 1) c now = at' ∧ now ≤ at' ∧ Fits at' ∧ usB P ((j : Int) + 1) c at' ∧
      (((wyI P ((j : Int) + 1) now).length : Int) < c → at' = now ∧ usB P ((j : Int) + 1) c now ∧ RtC (usL P ((j : Int) + 1) co now) ∧ (wyI (usL P ((j : Int) + 1) co now) ((j : Int) + 1) now).length = (wyI P ((j : Int) + 1) now).length + (if 0 < co then 1 else 0)) ∧
      (¬ ((wyI P ((j : Int) + 1) now).length : Int) < c → ¬ usB P ((j : Int) + 1) c now ∧ rdI c (wyI P ((j : Int) + 1) (at' - 1)).length = 0) := by
  have hl : ((bkI P ((j : Int) + 1)).length : Int) ≤ c := by
    have := ui_len h.ui (id := (j : Int) + 1) (by rw [fu_at hc]; exact h1)
    rw [fu_at hc] at this; exact this
  obtain ⟨q1, q2, q3, q4⟩ := nx_facts (now := now) h.ui.1 h1 hl
  refine ⟨nxI P ((j : Int) + 1) c now, rfl, q1, ?_, ⟨h.ui.1, by omega, q3, by omega⟩, fun hw => ⟨q2 hw, ⟨h.ui.1, by omega, hw, by omega⟩, ?_, ?_⟩, fun hw => ⟨fun hu => hw hu.2.2.1, rd_zero.2 (q4 hw)⟩⟩
  · unfold nxI
    by_cases hw : ((wyI P ((j : Int) + 1) now).length : Int) < c
    · rw [if_pos hw]; exact ⟨by omega, by omega⟩
    · rw [if_neg hw, if_neg (by omega)]
      cases hq : wyI P ((j : Int) + 1) now with
      | nil => exact ⟨by show _ ≤ (0 : Int); omega, by show (0 : Int) ≤ _; omega⟩
      | cons x r =>
        have hx : x ∈ wyI P ((j : Int) + 1) now := by rw [hq]; exact List.mem_cons_self ..
        exact ff_bk h.ff _ x (aw_in hx)
  · exact (us_right h.ui.1 (ff_ft h.ff) (by omega) (by omega) (by omega) (by omega)).1
  · exact us_way h.ui.1 (ff_ft h.ff) (by omega) (by omega)
theorem and_le (k : Int) (n : Nat) (hn : n < 2 ^ 62) : ∃ d : Nat, bits BinOp.and IntKind.i64 k (n : Int) = (d : Int) ∧ d ≤ n := by
  have h : bits BinOp.and IntKind.i64 k (n : Int) = IntKind.i64.wrap ((BitVec.ofInt 64 k &&& BitVec.ofInt 64 (n : Int)).toNat : Int) := rfl
  have h2 : (BitVec.ofInt 64 k &&& BitVec.ofInt 64 (n : Int)).toNat ≤ n := by
    rw [BitVec.toNat_and]
    have h3 : (BitVec.ofInt 64 (n : Int)).toNat = n := by
      rw [BitVec.ofInt_natCast, BitVec.toNat_ofNat]
      exact Nat.mod_eq_of_lt (by omega)
    rw [h3]
    exact Nat.and_le_right
  refine ⟨_, ?_, h2⟩
  rw [h]
  exact IntWalk.i64_in _ (by omega)
/-! ### a store of a whole ability -/
theorem eight0 (V : World) (p : Nat) (v0 v1 v2 v3 v4 v5 v6 v7 : Value) : (((((((V.setCell ⟨p, 0, none⟩ v0).setCell ⟨p, 1, none⟩ v1).setCell ⟨p, 2, none⟩ v2).setCell ⟨p, 3, none⟩ v3).setCell ⟨p, 4, none⟩ v4).setCell ⟨p, 5, none⟩ v5).setCell ⟨p, 6, none⟩ v6).setCell ⟨p, 7, none⟩ v7 = V.setCells p 0 [v0, v1, v2, v3, v4, v5, v6, v7] := rfl
theorem put8 {w : World} {P : Nat} {u0 u1 u2 u3 u4 u5 u6 u7 : Value} {t : TypeId} (h : w.heap[P]? = some (.cells #[u0, u1, u2, u3, u4, u5, u6, u7] t (0, 0))) (v0 v1 v2 v3 v4 v5 v6 v7 : Value) :
    (w.setCells P 0 [v0, v1, v2, v3, v4, v5, v6, v7]).heap[P]? = some (.cells #[v0, v1, v2, v3, v4, v5, v6, v7] t (0, 0)) := by
  have h0 := heap_setCell_same _ P 0 _ t v0 h
  have h1 := heap_setCell_same _ P 1 _ t v1 h0
  have h2 := heap_setCell_same _ P 2 _ t v2 h1
  have h3 := heap_setCell_same _ P 3 _ t v3 h2
  have h4 := heap_setCell_same _ P 4 _ t v4 h3
  have h5 := heap_setCell_same _ P 5 _ t v5 h4
  have h6 := heap_setCell_same _ P 6 _ t v6 h5
  have h7 := heap_setCell_same _ P 7 _ t v7 h6
  simpa [World.setCells] using h7
theorem cell_of {w : World} {b : Nat} {cs : Array Value} {t : TypeId} (h : w.heap[b]? = some (.cells cs t (0, 0))) (o : Nat) : w.cell? ⟨b, o, none⟩ = cs[o]? := by simp [World.cell?, h]
theorem froz_of {w : World} {b : Nat} {cs : Array Value} {t : TypeId} (h : w.heap[b]? = some (.cells cs t (0, 0))) (o : Nat) : w.frozen? ⟨b, o, none⟩ = false := by simp [World.frozen?, h]
end Go.Proofs.Ytmdnjkiciaidiaa.Con
