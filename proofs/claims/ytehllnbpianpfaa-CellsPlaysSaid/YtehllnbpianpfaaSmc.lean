/-
  Contracts of the small functions of package cells: what is on a side, the number of a cell that is nearest to one, the tile of a cell that is nearest, and an index without a unit.
-/
import Derived.Test.YtehllnbpianpfaaDrp
import Derived.Lib.MinMax
import Derived.Handy
namespace Go.Proofs.Ytehllnbpianpfaa.Con
open Go.RowKit Cll Go.Maps

/-- May a tile stand there? -/
def onB (n : Int) : Bool := decide (0 ≤ n ∧ n ≤ 255)
theorem side_any (n : Int) (w : World) : Calls Try.prog 22 #[.int .i64 n] w fun e w' => e = .returned (.bool (onB n)) ∧ w' = w := by
  by_cases h0 : 0 ≤ n
  · have h0' : decide (n ≥ 0) = true := by simpa using h0
    by_cases h1 : n < 256
    · have h1' : decide (n < 256) = true := by simpa using h1
      go_enter Try.func22, Try.ntmps22
      go_wp2
      go_ret
      exact ⟨by simp [onB]; omega, rfl⟩
    · have h1' : decide (n < 256) = false := by simpa using h1
      go_enter Try.func22, Try.ntmps22
      go_wp2
      go_ret
      exact ⟨by simp [onB]; omega, rfl⟩
  · have h0' : decide (n ≥ 0) = false := by simpa using h0
    go_enter Try.func22, Try.ntmps22
    go_wp2
    go_ret
    exact ⟨by simp [onB]; omega, rfl⟩
theorem within_any (n c : Int) (m : Int) (w : World) (hc : Sd c) (hm : c * 16 = m) : Calls Try.prog 33 #[.int .i64 n, .int .i64 m] w fun e w' => e = .returned (.int .i64 (cut c n)) ∧ w' = w := by
  obtain ⟨h1, h2⟩ := hc
  have hk : cut c n = max m (min n (m + 15)) := by unfold cut; rw [hm]
  rw [hk]
  have b1 : (-9223372036854775808 : Int) ≤ m + 16 := by omega
  have b2 : m + 16 ≤ 9223372036854775807 := by omega
  have b3 : (-9223372036854775808 : Int) ≤ m + 15 := by omega
  clear hk hm
  go_enter Try.func33, Try.ntmps33
  go_wp2
  all_goals go_ret
  all_goals exact ⟨ret_int (by simp only [Int.max_def, Int.min_def]; (repeat' split) <;> omega), rfl⟩
theorem nearest_any (c r px py : Int) (w : World) (hc : Sd c) (hr : Sd r) : Calls Try.prog 24 #[pv c r, pv px py] w fun e w' => e = .returned (pv (cut c px) (cut r py)) ∧ Below w.heap.size w w' := by
  obtain ⟨m, hm⟩ : ∃ m, c * 16 = m := ⟨_, rfl⟩
  obtain ⟨n, hn⟩ : ∃ n, r * 16 = n := ⟨_, rfl⟩
  have b1 := hc.1; have b2 := hc.2; have b3 := hr.1; have b4 := hr.2
  have hwm : IntKind.i64.wrap (c * 16) = m := by rw [← hm]; exact IntWalk.i64_in _ (by omega)
  have hwn : IntKind.i64.wrap (r * 16) = n := by rw [← hn]; exact IntWalk.i64_in _ (by omega)
  have hnx := fun w => within_any px c m w hc hm
  have hny := fun w => within_any py r n w hr hn
  generalize cut c px = X at hnx
  generalize cut r py = Y at hny
  clear hm hn b1 b2 b3 b4 hc hr
  have hB : Below w.heap.size w (((w.alloc (.cells #[.int .i64 c, .int .i64 r] 54)).alloc (.cells #[.int .i64 px, .int .i64 py] 32)).alloc (.cells #[.int .i64 0, .int .i64 0] 32)) := (((Below.refl _ w).alloc (Nat.le_refl _) _).alloc (by simp) _).alloc (by simp; omega) _
  have hb0 : (((w.alloc (.cells #[.int .i64 c, .int .i64 r] 54)).alloc (.cells #[.int .i64 px, .int .i64 py] 32)).alloc (.cells #[.int .i64 0, .int .i64 0] 32)).heap[w.heap.size]? = some (.cells #[.int .i64 c, .int .i64 r] 54 (0, 0)) := (Below.heap_alloc _ _ _ (by simp; omega)).trans ((Below.heap_alloc _ _ _ (by simp)).trans (heap_alloc_new w _))
  have hb1 : (((w.alloc (.cells #[.int .i64 c, .int .i64 r] 54)).alloc (.cells #[.int .i64 px, .int .i64 py] 32)).alloc (.cells #[.int .i64 0, .int .i64 0] 32)).heap[w.heap.size + 1]? = some (.cells #[.int .i64 px, .int .i64 py] 32 (0, 0)) := (Below.heap_alloc _ _ _ (by simp)).trans (by have := heap_alloc_new (w.alloc (.cells #[.int .i64 c, .int .i64 r] 54)) (.cells #[.int .i64 px, .int .i64 py] 32); simpa using this)
  have hb2 : (((w.alloc (.cells #[.int .i64 c, .int .i64 r] 54)).alloc (.cells #[.int .i64 px, .int .i64 py] 32)).alloc (.cells #[.int .i64 0, .int .i64 0] 32)).heap[w.heap.size + 1 + 1]? = some (.cells #[.int .i64 0, .int .i64 0] 32 (0, 0)) := by
    have := heap_alloc_new ((w.alloc (.cells #[.int .i64 c, .int .i64 r] 54)).alloc (.cells #[.int .i64 px, .int .i64 py] 32)) (.cells #[.int .i64 0, .int .i64 0] 32)
    simpa using this
  go_enter Try.func24, Try.ntmps24
  go_wp2
  generalize ((w.alloc (.cells #[.int .i64 c, .int .i64 r] 54)).alloc (.cells #[.int .i64 px, .int .i64 py] 32)).alloc (.cells #[.int .i64 0, .int .i64 0] 32) = w1 at *
  have c0 : w1.cell? ⟨w.heap.size, 0, none⟩ = some (.int .i64 c) := (cell_of_row w1 _ 0 _ 54 (0, 0) hb0).trans rfl
  have c1 : w1.cell? ⟨w.heap.size, 1, none⟩ = some (.int .i64 r) := (cell_of_row w1 _ 1 _ 54 (0, 0) hb0).trans rfl
  have d0 : w1.cell? ⟨w.heap.size + 1, 0, none⟩ = some (.int .i64 px) := (cell_of_row w1 _ 0 _ 32 (0, 0) hb1).trans rfl
  have d1 : w1.cell? ⟨w.heap.size + 1, 1, none⟩ = some (.int .i64 py) := (cell_of_row w1 _ 1 _ 32 (0, 0) hb1).trans rfl
  have f0 : w1.frozen? ⟨w.heap.size + 1 + 1, 0, none⟩ = false := by simp [World.frozen?, hb2]
  have f1 : w1.frozen? ⟨w.heap.size + 1 + 1, 1, none⟩ = false := by simp [World.frozen?, hb2]
  have e0 : w1.cell? ⟨w.heap.size + 1 + 1, 0, none⟩ = some (.int .i64 0) := (cell_of_row w1 _ 0 _ 32 (0, 0) hb2).trans rfl
  have e1 : w1.cell? ⟨w.heap.size + 1 + 1, 1, none⟩ = some (.int .i64 0) := (cell_of_row w1 _ 1 _ 32 (0, 0) hb2).trans rfl
  have s0 : (w1.setCell ⟨w.heap.size + 1 + 1, 0, none⟩ (.int .i64 X)).cell? ⟨w.heap.size + 1 + 1, 0, none⟩ = some (.int .i64 X) := World.cell?_setCell_same _ _ _ e0
  have s1 : (w1.setCell ⟨w.heap.size + 1 + 1, 0, none⟩ (.int .i64 X)).cell? ⟨w.heap.size + 1 + 1, 1, none⟩ = some (.int .i64 0) := (World.cell?_setCell_other _ _ _ _ (by simp)).trans e1
  have s2 : ((w1.setCell ⟨w.heap.size + 1 + 1, 0, none⟩ (.int .i64 X)).setCell ⟨w.heap.size + 1 + 1, 1, none⟩ (.int .i64 Y)).cell? ⟨w.heap.size + 1 + 1, 1, none⟩ = some (.int .i64 Y) := World.cell?_setCell_same _ _ _ s1
  clear hb0 hb1 hb2
  refine wp_region_still_tail 13 (by kernel_rfl) (by kernel_rfl) ?_
  simp only [List.take_succ_cons, List.take_zero, List.drop_succ_cons, List.drop_zero]
  iterate 5 still_step
  still_call (hnx _)
  iterate 5 still_step
  still_call (hny _)
  still_step
  refine wpStill_nil ?_
  go_wp2
  refine bodyPost_ret (by simp [results, Try.results24, go_sem, s0, s2]; try rfl) rfl ?_
  exact ⟨rfl, ((hB.setCell (by show w.heap.size ≤ w.heap.size + 1 + 1; omega) _).setCell (by show w.heap.size ≤ w.heap.size + 1 + 1; omega) _).drew⟩
/-- Three new blocks. -/
def news (w : World) (b : Nat) : Prop := w.heap.size ≤ b ∧ b < w.heap.size + 3
theorem made_ix (w : World) : IX (((w.alloc (.map #[] 0)).alloc (.map #[] 0)).alloc (.cells #[.map (some w.heap.size), .map (some (w.heap.size + 1))] 52)) (news w) 0 (w.heap.size + 2) w.heap.size (w.heap.size + 1) (.map []) (.map []) [] where
  st := by
    have := heap_alloc_new ((w.alloc (.map #[] 0)).alloc (.map #[] 0)) (.cells #[.map (some w.heap.size), .map (some (w.heap.size + 1))] 52)
    simpa using this
  sx := ⟨by omega, by omega⟩
  sh := ⟨by omega, by omega⟩
  sc := ⟨by omega, by omega⟩
  ne := by omega
  hom := ((World.ownsMap_made w Try.prog 3 Rt).alloc _).alloc _
  cel := by
    have := (World.ownsMap_made (w.alloc (.map #[] 0)) Try.prog 54 Rm).alloc (.cells #[.map (some w.heap.size), .map (some (w.heap.size + 1))] 52)
    simpa using this
  homv k := rfl
  keys kl d h := by cases h
  inn c r _ _ := .inl ⟨rfl, fun t ht => by cases ht⟩
  apart k1 k2 b h := by cases h
  good := Cll.Good.nil
  len := Nat.le_refl _
  low b h := by have := h.2; simp; omega
  cap := by omega
theorem IX.more {w : World} {S : Nat → Prop} {N M xb hb cb : Nat} {Dh Dc : DataW Unit} {L : List Un} (h : IX w S N xb hb cb Dh Dc L) (hN : N ≤ M) (hM : (M : Int) ≤ 100000) : IX w S M xb hb cb Dh Dc L where
  st := h.st
  sx := h.sx
  sh := h.sh
  sc := h.sc
  ne := h.ne
  hom := h.hom.mono hN
  cel := h.cel.mono hN
  homv := h.homv
  keys := h.keys
  inn c r hc hr := by
    rcases h.inn c r hc hr with h1 | ⟨b, D, h1, h2⟩
    · exact .inl h1
    · exact .inr ⟨b, D, h1, ⟨h2.s, h2.nh, h2.nc, h2.own.mono hN, h2.at'⟩⟩
  apart := h.apart
  good := h.good
  len := Nat.le_trans h.len hN
  low := h.low
  cap := hM
/-- An index, told by its block alone. -/
def IXe (w : World) (S : Nat → Prop) (N xb : Nat) (L : List Un) : Prop := ∃ hb cb Dh Dc, IX w S N xb hb cb Dh Dc L
theorem IXe.step {w w' : World} {S : Nat → Prop} {N xb : Nat} {L : List Un} (h : IXe w S N xb L) (hb : Below w.heap.size w w') : IXe w' S N xb L := by
  obtain ⟨a, b, c, d, h⟩ := h
  exact ⟨a, b, c, d, h.step hb⟩
theorem IXe.keep {w w' : World} {S : Nat → Prop} {N xb : Nat} {L : List Un} (h : IXe w S N xb L) (hs : w.heap.size ≤ w'.heap.size) (hk : ∀ b, S b → w'.heap[b]? = w.heap[b]?) : IXe w' S N xb L := by
  obtain ⟨a, b, c, d, h⟩ := h
  exact ⟨a, b, c, d, h.keep hs hk⟩
theorem new_any (w : World) : Calls Try.prog 7 #[] w fun e w' => ∃ xb, e = .returned (.pointer (some ⟨xb, 0, none⟩)) ∧ Hid (IXe w' (news w) 0 xb []) ∧ Below w.heap.size w w' ∧ w.heap.size ≤ xb ∧ w'.heap.size = w.heap.size + 3 := by
  have HI := Lib.hid (made_ix w)
  have hmm := @run_makeMap Try.prog
  go_enter Try.func7, Try.ntmps7
  go_wp2
  go_ret
  exact ⟨_, rfl, Lib.hid ⟨_, _, _, _, HI.out⟩, (((Below.refl _ w).alloc (Nat.le_refl _) _).alloc (by simp) _).alloc (by simp; omega) _, by omega, by simp⟩
end Go.Proofs.Ytehllnbpianpfaa.Con
