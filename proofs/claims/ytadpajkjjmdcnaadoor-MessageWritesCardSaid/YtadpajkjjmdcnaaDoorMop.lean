/-
  How a message that comes in is read; the table of sizes that the row lists; a world that holds it, for the witness.
-/
import Derived.Test.YtadpajkjjmdcnaaDoorPop
import Derived.Test.YtadpajkjjmdcnaaDoorMso
import Derived.Lib.SmallJoins
import Derived.Lib.LaidTab
import Derived.Deep.DeepHandedRow
namespace Go.Proofs.YtadpajkjjmdcnaaDoor.Mop
open Go.ChangeShapes Go.WideShapes Go.ChangeAt Go.RowKit Mth Pm Con

theorem cells24 : Tryd.prog.cellsOf 24 = 3 := by kernel_rfl
theorem cells41 : Tryd.prog.cellsOf 41 = 11 := by kernel_rfl
theorem gTab : Tryd.prog.globalNamed "barrow/message.sizes" = some 0 := by kernel_rfl
theorem gTabType : (Tryd.prog.globals[0]?).map (·.type) = some 41 := by kernel_rfl
theorem text_of (s : ByteArray) : ∃ t, s = strOfNums t ∧ Byt t ∧ t.length = s.size := ⟨sb s, (sb_back s).symm, sb_byt s, sb_len s⟩
set_option maxRecDepth 20000 in
/-- A message that comes in. -/
theorem viewM {H : Type} {enc : TypeId × Value → H} {W : World} {base : Nat} {v : Value} {d : DataW H} {p : List MemPlace} (hv : Value.okWide Tryd.prog W .any base 24 v) (h : DataW.Trod enc Tryd.prog W 0 (fun _ => true) true 24 v d p) (hlt : ∀ x ∈ p, x.block < W.heap.size) :
    ∃ (m : Ms) (A : Option Addr) (c : Nat), v = mv m A c ∧ Rd .i64 W W.heap.size A m.l ∧ FM m ∧ (m.l.length : Int) ≤ 9223372036854775807 ∧ (m.t.length : Int) ≤ 9223372036854775807 := by
  obtain ⟨v0, v1, v2, y0, y1, y2, n, rfl, _, hp, h0, h1, h2⟩ := Go.Joins.open_agg3 Tryd.underlying24 (by kernel_rfl) cells24 hv h
  obtain ⟨a0, e0, _, w0⟩ := DataW.trod_int Tryd.underlying3 h0
  obtain ⟨s, e2, _, w2⟩ := DataW.trod_string Tryd.underlying9 h2
  injection e0 with e0; injection e2 with e2
  subst e0; subst e2
  obtain ⟨t, rfl, hb, hlen⟩ := text_of s
  have ht : (t.length : Int) ≤ 9223372036854775807 := by unfold maxLen at w2; omega
  rcases open_ints Tryd.underlying22 Tryd.underlying3 Pop.cells3 h1 with ⟨hcs, _⟩ | ⟨a, len, cap, zs, hcs, _, hl, hm, hz, hx, hcell, hwz⟩
  · injection hcs with hcs
    subst hcs
    exact ⟨⟨a0, [], t⟩, none, 0, rfl, Rd.nil, ⟨Pop.fits_of w0, Fit.nil, hb⟩, by simp, ht⟩
  · injection hcs with hcs
    subst hcs
    simp only [if_true] at hz
    have hlt' : (zs.take len).length = len := by simp; omega
    refine ⟨⟨a0, zs.take len, t⟩, some a, cap, by show _ = mv _ _ _; unfold mv; rw [hlt'], ?_, ⟨Pop.fits_of w0, fun x hx => Pop.fits_of (hwz x (List.mem_of_mem_take hx)), hb⟩, by simp only [hlt']; unfold maxLen at hm; omega, ht⟩
    simp only
    by_cases h0 : len = 0
    · subst h0; exact .inl (by simp)
    · obtain ⟨b, off, spot⟩ := a
      have hspot : spot = none := by simpa [Addr.add] using World.cell?_spot (hcell 0 (by omega))
      subst hspot
      refine .inr ⟨b, off, rfl, hlt (.cell b off) (by rw [hp, hx]; simp only [List.mem_append]; exact .inr (.inl (MemPlace.mem_row.2 ⟨0, by omega, by simp⟩))), fun k x hx => ?_⟩
      rw [List.getElem?_take] at hx
      split at hx
      · have hk : k < zs.length := by omega
        have := hcell k hk
        rw [add_plain] at this
        rw [this]
        rw [List.getElem?_eq_getElem hk] at hx
        injection hx with hx
        simp [List.getD, hk, hx]
      · cases hx
/-- What the rows' list gives: the table of sizes stands in memory. -/
theorem table {W : World} (h : laidMetH Tryd.prog [("barrow/message.sizes", Rows.laid_barrow_message_sizes)] W) : Sz W := by
  have hT : Lib.TabIs Tryd.prog W "barrow/message.sizes" .i64 szL := Lib.tabIs_of_head (rest := []) gTab gTabType Tryd.underlying41 Tryd.underlying3 Pop.cells3 cells41 h
  refine .inr ⟨0, 0, rfl, by omega, fun k x hx => ?_⟩
  obtain ⟨hk, rfl⟩ := List.getElem?_eq_some_iff.1 hx
  have := hT.cell gTab k hk
  rw [Nat.zero_add, this]
  simp [List.getD, hk]
/-- A world for the witness: the settled one, the table (block 0) holding what its initialiser lays. -/
noncomputable def laidWorld (os : Os) : World :=
  { World.holding Tryd.prog os ⟨#[], #[], []⟩ with heap := (World.holding Tryd.prog os ⟨#[], #[], []⟩).heap.modify 0 fun
      | .cells _ t frozen => .cells #[.int .i64 0, .int .i64 2, .int .i64 1, .int .i64 0, .int .i64 10, .int .i64 1, .int .i64 3, .int .i64 5, .int .i64 3, .int .i64 2, .int .i64 0] t frozen
      | o => o }
end Go.Proofs.YtadpajkjjmdcnaaDoor.Mop
