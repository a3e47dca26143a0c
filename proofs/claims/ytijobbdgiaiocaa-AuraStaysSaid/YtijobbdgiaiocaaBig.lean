/-
  The contract of the document's own digits (barrowref01.big): for every 64-bit number its five digits in base 65536, without its sign; only new memory is laid.
-/
import Derived.Test.YtijobbdgiaiocaaNum
import Derived.Deep.OwnRows
import Derived.Laws.Tables

namespace Go.Proofs.Ytijobbdgiaiocaa.Con
open Go.RowKit Num

/-- What holds at the head of a round of big: k digits are laid, y is what is left. -/
structure BigAt (a : Int) (w wr : World) (k : Nat) (y : Int) : Prop where
  grown : Gr w wr
  size : wr.heap.size = w.heap.size + 2
  left : y.natAbs = a.natAbs / 65536 ^ k
  out : wr.rowIs w.heap.size 94 5 (fun _ => .int .i64 0)
  row : wr.rowIs (w.heap.size + 1) 94 5 (fun j => .int .i64 (if j < k then dig a j else 0))

theorem big_start (a : Int) (w : World) : BigAt a w ((w.alloc (Obj.cells #[Value.int IntKind.i64 0, Value.int IntKind.i64 0, Value.int IntKind.i64 0, Value.int IntKind.i64 0, Value.int IntKind.i64 0] 94)).alloc (Obj.cells #[Value.int IntKind.i64 0, Value.int IntKind.i64 0, Value.int IntKind.i64 0, Value.int IntKind.i64 0, Value.int IntKind.i64 0] 94)) 0 a := by
  refine ⟨((Gr.refl _).alloc _ _).alloc _ _, by simp, by simp, ?_, ?_⟩
  · refine (World.rowIs_alloc w _ 94 (fun _ => .int .i64 0) ?_).alloc _
    intro i hi
    match i, hi with
    | 0, _ => rfl
    | 1, _ => rfl
    | 2, _ => rfl
    | 3, _ => rfl
    | 4, _ => rfl
  · have := World.rowIs_alloc (w.alloc (Obj.cells #[Value.int IntKind.i64 0, Value.int IntKind.i64 0, Value.int IntKind.i64 0, Value.int IntKind.i64 0, Value.int IntKind.i64 0] 94)) #[Value.int IntKind.i64 0, Value.int IntKind.i64 0, Value.int IntKind.i64 0, Value.int IntKind.i64 0, Value.int IntKind.i64 0] 94 (fun j => .int .i64 (if j < 0 then dig a j else 0)) ?_
    · simpa using this
    · intro i hi
      match i, hi with
      | 0, _ => rfl
      | 1, _ => rfl
      | 2, _ => rfl
      | 3, _ => rfl
      | 4, _ => rfl

theorem dig_of {a y : Int} {k : Nat} (hk : k < 4) (h : y.natAbs = a.natAbs / 65536 ^ k) : dig a k = ((y.tmod 65536).natAbs : Int) := by
  unfold dig; rw [if_pos hk, ← h, Int.natAbs_tmod]; rfl

theorem big_set {a y : Int} {w wr : World} {k : Nat} (h : BigAt a w wr k y) (hk : k < 4) (d : Int) (hd : d = dig a k) (y' : Int) (hy : y'.natAbs = a.natAbs / 65536 ^ (k + 1)) :
    BigAt a w (wr.setCell { block := w.heap.size + 1, off := k } (Value.int IntKind.i64 d)) (k + 1) y' := by
  refine ⟨h.grown.setCell (by show w.heap.size ≤ w.heap.size + 1; omega) _, by simp [h.size], hy, h.out.setOther (by show w.heap.size ≠ w.heap.size + 1; omega) _, (h.row.set k _).congr (fun j _ => ?_)⟩
  by_cases e : j = k
  · subst e; rw [if_pos rfl, if_pos (by omega), hd]
  · rw [if_neg e]
    by_cases g : j < k
    · rw [if_pos g, if_pos (by omega)]
    · rw [if_neg g, if_neg (by omega)]
theorem big_pre {a y : Int} {w wr : World} {k : Nat} (h : BigAt a w wr k y) (hk : k < 4) (d : Int) (d' : Int) (hd : d' = dig a k) (y' : Int) (hy : y'.natAbs = a.natAbs / 65536 ^ (k + 1)) :
    BigAt a w ((wr.setCell { block := w.heap.size + 1, off := k } (Value.int IntKind.i64 d)).setCell { block := w.heap.size + 1, off := k } (Value.int IntKind.i64 d')) (k + 1) y' := by
  refine ⟨(h.grown.setCell (by show w.heap.size ≤ w.heap.size + 1; omega) _).setCell (by show w.heap.size ≤ w.heap.size + 1; omega) _, by simp [h.size], hy, (h.out.setOther (by show w.heap.size ≠ w.heap.size + 1; omega) _).setOther (by show w.heap.size ≠ w.heap.size + 1; omega) _, ((h.row.set k _).set k _).congr (fun j _ => ?_)⟩
  by_cases e : j = k
  · subst e; rw [if_pos rfl, if_pos (by omega), hd]
  · rw [if_neg e, if_neg e]
    by_cases g : j < k
    · rw [if_pos g, if_pos (by omega)]
    · rw [if_neg g, if_neg (by omega)]
theorem tdiv_abs (y : Int) : (y.tdiv 65536).natAbs = y.natAbs / 65536 := by rw [Int.natAbs_tdiv]; rfl
theorem left_next {a y : Int} {k : Nat} (h : y.natAbs = a.natAbs / 65536 ^ k) : (y.tdiv 65536).natAbs = a.natAbs / 65536 ^ (k + 1) := by
  rw [tdiv_abs, h, Nat.pow_succ, Nat.div_div_eq_div_mul]
theorem tmod_in (y : Int) : -65535 ≤ y.tmod 65536 ∧ y.tmod 65536 ≤ 65535 := by
  have h := Int.natAbs_tmod y 65536
  have : y.natAbs % 65536 < 65536 := Nat.mod_lt _ (by decide)
  have h2 : (65536 : Int).natAbs = 65536 := rfl
  rw [h2] at h
  omega

theorem row5 {w : World} {b : Nat} {t : TypeId} {f : Nat → Value} (h : w.rowIs b t 5 f) : w.heap[b]? = some (.cells #[f 0, f 1, f 2, f 3, f 4] t (0, 0)) := by
  obtain ⟨c, hc, hs, hv⟩ := h
  have : c = #[f 0, f 1, f 2, f 3, f 4] := by
    apply Array.ext_getElem?
    intro i
    by_cases hi : i < 5
    · rw [hv i hi]
      match i, hi with
      | 0, _ => rfl
      | 1, _ => rfl
      | 2, _ => rfl
      | 3, _ => rfl
      | 4, _ => rfl
    · rw [Array.getElem?_eq_none (by omega), Array.getElem?_eq_none (by simp; omega)]
  rw [hc, this]

theorem big_any (a : Int) (w : World) (ha : Fits a) :
    Calls Try.prog 59 #[.int .i64 a] w fun e w' => e = .returned (.agg #[.int .i64 (dig a 0), .int .i64 (dig a 1), .int .i64 (dig a 2), .int .i64 (dig a 3), .int .i64 (dig a 4)]) ∧ Gr w w' := by
  unfold Fits at ha
  go_enter Try.func59, Try.ntmps59
  go_wp2
  go_loopw [0, 4] (fun x i wr => ∃ (k : Nat) (y : Int), k ≤ 4 ∧ i = .int .i64 k ∧ x = .int .i64 y ∧ -9223372036854775808 ≤ y ∧ y ≤ 9223372036854775807 ∧ BigAt a w wr k y) (fun _ i _ => 4 - (intOf i).toNat)
  case atStart => exact ⟨0, a, by omega, rfl, rfl, ha.1, ha.2, big_start a w⟩
  case round =>
    obtain ⟨k, y, hk, rfl, rfl, hy1, hy2, hB⟩ := hrel
    by_cases hlt : k < 4
    · have hc := hB.row.cell (i := k) (by omega)
      have hf := hB.row.frozen k
      simp only [Nat.lt_irrefl, if_false] at hc
      have hm := tmod_in y
      have hd := Lib.hid (dig_of hlt hB.left)
      have hl := Lib.hid (left_next hB.left)
      have ht : -9223372036854775808 ≤ y.tdiv 65536 ∧ y.tdiv 65536 ≤ 9223372036854775807 := by
        have := tdiv_abs y
        have h3 : y.natAbs / 65536 ≤ y.natAbs := Nat.div_le_self _ _
        omega
      by_cases hs : y.tmod 65536 < 0
      · go_wp2
        go_roundw
        case rel => exact ⟨k + 1, _, by omega, by go_num, rfl, ht.1, ht.2, big_pre hB hlt _ _ (by have := hd.out; omega) _ hl.out⟩
        case measure => simp [intOf]; omega
      · have hs' : decide (y.tmod 65536 < 0) = false := by simpa using hs
        go_wp2
        go_roundw
        case rel => exact ⟨k + 1, _, by omega, by go_num, rfl, ht.1, ht.2, big_set hB hlt _ (by have := hd.out; omega) _ hl.out⟩
        case measure => simp [intOf]; omega
    · obtain rfl : k = 4 := by omega
      have c0 := hB.row.cell (i := 0) (by omega)
      have c1 := hB.row.cell (i := 1) (by omega)
      have c2 := hB.row.cell (i := 2) (by omega)
      have c3 := hB.row.cell (i := 3) (by omega)
      have c4 := hB.row.cell (i := 4) (by omega)
      simp only [show (0 : Nat) < 4 by omega, show (1 : Nat) < 4 by omega, show (2 : Nat) < 4 by omega, show (3 : Nat) < 4 by omega, show ¬ (4 : Nat) < 4 by omega, if_true, if_false] at c0 c1 c2 c3 c4
      have d0 := hB.out.cell (i := 0) (by omega)
      have d1 := hB.out.cell (i := 1) (by omega)
      have d2 := hB.out.cell (i := 2) (by omega)
      have d3 := hB.out.cell (i := 3) (by omega)
      have d4 := hB.out.cell (i := 4) (by omega)
      have f0 := hB.out.frozen 0
      have f1 := hB.out.frozen 1
      have f2 := hB.out.frozen 2
      have f3 := hB.out.frozen 3
      have f4 := hB.out.frozen 4
      have hB' := Lib.hid hB; clear hB
      go_wp2
      have hB := hB'.out
      have hr := ((((hB.out.set 0 (Value.int IntKind.i64 (dig a 0))).set 1 (Value.int IntKind.i64 (dig a 1))).set 2 (Value.int IntKind.i64 (dig a 2))).set 3 (Value.int IntKind.i64 (dig a 3))).set 4 (Value.int IntKind.i64 0)
      have hblk := row5 hr
      refine bodyPost_ret (results_cell_row Try.results59 _ _ w.heap.size 94 _ (0, 0) _ rfl hblk Try.underlying94 rfl (by kernel_rfl)) rfl ⟨rfl, ?_⟩
      exact ((((hB.grown.setCell (Nat.le_refl _) _).setCell (Nat.le_refl _) _).setCell (Nat.le_refl _) _).setCell (Nat.le_refl _) _).setCell (Nat.le_refl _) _
end Go.Proofs.Ytijobbdgiaiocaa.Con
