/-
  The contract of the index's At: where the unit is, if it is there.
-/
import Derived.Test.YtehllnbpianpfaaSmc
namespace Go.Proofs.Ytehllnbpianpfaa.Con
open Go.RowKit Cll Go.Maps
section
variable {w : World} {S : Nat → Prop} {N xb hb cb : Nat} {Dh Dc : DataW Unit} {L : List Un}
set_option maxHeartbeats 4000000 in
theorem at_no (h : IX w S N xb hb cb Dh Dc L) (id : Int) (hf : Fits id) (hn : lk L id = none) : Calls Try.prog 12 #[.pointer (some ⟨xb, 0, none⟩), .int .i64 id] w fun e w' => e = .returned (.tuple #[pv 0 0, .bool false]) ∧ Below w.heap.size w w' := by
  have hb1 : Below w.heap.size w (w.alloc (.cells #[.int .i64 0, .int .i64 0] 32)) := (Below.refl _ w).alloc (Nat.le_refl _) _
  have hc0 := h.cell0
  have hlk := hlook_none (h.step hb1) hf hn true
  simp only [if_true] at hlk
  have hlt := h.lt
  clear h hn hb1
  go_enter Try.func12, Try.ntmps12
  go_wp2
  go_returns
  exact ⟨rfl, by go_grown⟩
set_option maxHeartbeats 4000000 in
theorem at_yes (h : IX w S N xb hb cb Dh Dc L) (id : Int) (hf : Fits id) (t : Un) (ht : lk L id = some t) : Calls Try.prog 12 #[.pointer (some ⟨xb, 0, none⟩), .int .i64 id] w fun e w' => e = .returned (.tuple #[pv t.x t.y, .bool true]) ∧ Below w.heap.size w w' := by
  obtain ⟨hx, hy, ib, D, hl, hI⟩ := h.home ht
  obtain ⟨c, hc⟩ : ∃ c, t.x / 16 = c := ⟨_, rfl⟩
  obtain ⟨r, hr⟩ : ∃ r, t.y / 16 = r := ⟨_, rfl⟩
  have hb1 : Below w.heap.size w (w.alloc (.cells #[.int .i64 0, .int .i64 0] 32)) := (Below.refl _ w).alloc (Nat.le_refl _) _
  have hb2 : Below w.heap.size w ((w.alloc (.cells #[.int .i64 0, .int .i64 0] 32)).alloc (.cells #[.int .i64 c, .int .i64 r] 54)) := hb1.alloc (by simp) _
  have hlk := hlook_some (h.step hb1) hf ht true
  simp only [if_true] at hlk
  rw [hc] at hx; rw [hr] at hy
  rw [hc, hr] at hlk hl hI
  have hI2 := hI.keep (hb2.block ib (h.low ib hI.s))
  have hix := h.step hb2
  have hc0 := h.cell0
  have hlt := h.lt
  have q0 : ((w.alloc (.cells #[.int .i64 0, .int .i64 0] 32)).alloc (.cells #[.int .i64 c, .int .i64 r] 54)).heap[w.heap.size]? = some (.cells #[.int .i64 0, .int .i64 0] 32 (0, 0)) := (Below.heap_alloc _ _ _ (by simp)).trans (heap_alloc_new w _)
  have q1 : ((w.alloc (.cells #[.int .i64 0, .int .i64 0] 32)).alloc (.cells #[.int .i64 c, .int .i64 r] 54)).heap[w.heap.size + 1]? = some (.cells #[.int .i64 c, .int .i64 r] 54 (0, 0)) := by
    have := heap_alloc_new (w.alloc (.cells #[.int .i64 0, .int .i64 0] 32)) (.cells #[.int .i64 c, .int .i64 r] 54)
    simpa using this
  have hxl := hix.cell1
  have hck := clook_some (w := ((w.alloc (.cells #[.int .i64 0, .int .i64 0] 32)).alloc (.cells #[.int .i64 c, .int .i64 r] 54)).drew) hix.cel hx hy hl
  have hil := ilook (w := ((w.alloc (.cells #[.int .i64 0, .int .i64 0] 32)).alloc (.cells #[.int .i64 c, .int .i64 r] 54)).drew) (hI2.keep rfl) hf ht hc hr
  have HB := Lib.hid hb2
  clear h ht hb1 hb2 hI hI2 hix hc hr hl
  go_enter Try.func12, Try.ntmps12
  go_wp2
  generalize (w.alloc (.cells #[.int .i64 0, .int .i64 0] 32)).alloc (.cells #[.int .i64 c, .int .i64 r] 54) = w1 at *
  have c0 : w1.cell? ⟨w.heap.size + 1, 0, none⟩ = some (.int .i64 c) := (cell_of_row _ _ 0 _ 54 (0, 0) q1).trans rfl
  have c1 : w1.cell? ⟨w.heap.size + 1, 1, none⟩ = some (.int .i64 r) := (cell_of_row _ _ 1 _ 54 (0, 0) q1).trans rfl
  have e0 : w1.drew.cell? ⟨w.heap.size, 0, none⟩ = some (.int .i64 0) := (cell_of_row w1 _ 0 _ 32 (0, 0) q0).trans rfl
  have e1 : w1.drew.cell? ⟨w.heap.size, 1, none⟩ = some (.int .i64 0) := (cell_of_row w1 _ 1 _ 32 (0, 0) q0).trans rfl
  have f0 : w1.drew.frozen? ⟨w.heap.size, 0, none⟩ = false := by show w1.frozen? _ = false; simp [World.frozen?, q0]
  have f1 : w1.drew.frozen? ⟨w.heap.size, 1, none⟩ = false := by show w1.frozen? _ = false; simp [World.frozen?, q0]
  go_still_tail 8, (by kernel_rfl)
  change wpList _ _ _ _ _ w1.drew
  have HB2 : Hid (Below w.heap.size w w1.drew) := Lib.hid HB.out.drew
  clear hck hil c0 c1 q0 q1 hxl HB hlk
  generalize w1.drew = w2 at *
  have s0 : (w2.setCell ⟨w.heap.size, 0, none⟩ (.int .i64 t.x)).cell? ⟨w.heap.size, 0, none⟩ = some (.int .i64 t.x) := World.cell?_setCell_same _ _ _ e0
  have s1 : (w2.setCell ⟨w.heap.size, 0, none⟩ (.int .i64 t.x)).cell? ⟨w.heap.size, 1, none⟩ = some (.int .i64 0) := (World.cell?_setCell_other _ _ _ _ (by simp)).trans e1
  have s2 : ((w2.setCell ⟨w.heap.size, 0, none⟩ (.int .i64 t.x)).setCell ⟨w.heap.size, 1, none⟩ (.int .i64 t.y)).cell? ⟨w.heap.size, 1, none⟩ = some (.int .i64 t.y) := World.cell?_setCell_same _ _ _ s1
  go_wp2
  refine bodyPost_ret (by simp [results, Try.results12, go_sem, s0, s2]; try rfl) rfl ?_
  exact ⟨rfl, (HB2.out.setCell (Nat.le_refl _) _).setCell (Nat.le_refl _) _⟩
end
end Go.Proofs.Ytehllnbpianpfaa.Con
