/-
  The contract of the iterator over the tiles of a box: row by row, each by rising X; for every box within a map, and every loop body that keeps the iterator's own boxes.
-/
import Derived.Test.YtiggpmennomplaaBit
namespace Go.Proofs.Ytiggpmennomplaa.Con
open Go.RowKit Go.Shelf Wlk
attribute [local go_sem] Oper.semAt_some

/-- The tile at x, y; the first one beyond a map. -/
def tileAt (x y : Int) : Tile := if h : (0 ≤ x ∧ x ≤ 256) ∧ 0 ≤ y ∧ y ≤ 256 then ⟨(x, y), h⟩ else ⟨(0, 0), by simp⟩
theorem tileAt_eq {x y : Int} (h : (0 ≤ x ∧ x ≤ 256) ∧ 0 ≤ y ∧ y ≤ 256) : (tileAt x y).1 = (x, y) := by unfold tileAt; rw [dif_pos h]
/-- A row of m tiles from x = l on. -/
def rowAt (l y : Int) (m : Nat) : List Tile := (List.range m).map fun (j : Nat) => tileAt (l + (j : Int)) y
theorem rowAt_len (l y : Int) (m : Nat) : (rowAt l y m).length = m := by simp [rowAt]
theorem rowAt_take {l y : Int} {m j : Nat} (h : j < m) : (rowAt l y m).take (j + 1) = (rowAt l y m).take j ++ [tileAt (l + (j : Int)) y] := by
  rw [List.take_succ_eq_append_getElem (by rw [rowAt_len]; exact h)]
  simp [rowAt]
/-- k rows from y = t on. -/
def rowsAt (l t : Int) (m k : Nat) : List Tile := (List.range k).flatMap fun (i : Nat) => rowAt l (t + (i : Int)) m
theorem rowsAt_succ (l t : Int) (m k : Nat) : rowsAt l t m (k + 1) = rowsAt l t m k ++ rowAt l (t + (k : Int)) m := by
  unfold rowsAt
  rw [List.range_succ, List.flatMap_append]
  simp
theorem rowsAt_pre {l t : Int} {m k n : Nat} (h : k ≤ n) : rowsAt l t m k <+: rowsAt l t m n := by
  induction n with
  | zero => have : k = 0 := by omega
            subst this; exact List.prefix_rfl
  | succ n ih =>
    by_cases e : k = n + 1
    · subst e; exact List.prefix_rfl
    · exact (ih (by omega)).trans ⟨_, (rowsAt_succ l t m n).symm⟩
theorem rowsAt_len (l t : Int) (m k : Nat) : (rowsAt l t m k).length = k * m := by
  induction k with
  | zero => simp [rowsAt]
  | succ k ih => rw [rowsAt_succ, List.length_append, ih, rowAt_len, Nat.succ_mul]
theorem part_pre {l t : Int} {m k n j : Nat} (h : k < n) : rowsAt l t m k ++ (rowAt l (t + (k : Int)) m).take j <+: rowsAt l t m n := by
  refine List.IsPrefix.trans ?_ (rowsAt_pre (show k + 1 ≤ n by omega))
  rw [rowsAt_succ]
  exact (List.prefix_append_right_inj _).2 (List.take_prefix _ _)

/-- The four boxes as they lie. -/
def FourI (b1 b2 b3 b4 : Nat) (l r t b : Int) (V : World) : Prop := Boxed V b1 3 (.int .i64 l) ∧ Boxed V b2 3 (.int .i64 r) ∧ Boxed V b3 3 (.int .i64 t) ∧ Boxed V b4 3 (.int .i64 b)
theorem FourI.keep {n₀ b1 b2 b3 b4 : Nat} {l r t b : Int} {V V' : World} (h : FourI b1 b2 b3 b4 l r t b V) (k : K4 n₀ b1 b2 b3 b4 V V') : FourI b1 b2 b3 b4 l r t b V' :=
  ⟨k.2.1.trans h.1, k.2.2.1.trans h.2.1, k.2.2.2.1.trans h.2.2.1, k.2.2.2.2.trans h.2.2.2⟩

def RowsI (J : List Tile → World → Prop) (b1 b2 b3 b4 : Nat) (l r t b : Int) (m n : Nat) (y : Value) (wr : World) : Prop :=
  ∃ (k : Nat) (yy : Int), y = .int .i64 yy ∧ Hid (yy = t + (k : Int)) ∧ k ≤ n ∧ J (rowsAt l t m k) wr ∧ FourI b1 b2 b3 b4 l r t b wr
def ColsI (J : List Tile → World → Prop) (b1 b2 b3 b4 : Nat) (l r t b : Int) (m k : Nat) (x : Value) (wr : World) : Prop :=
  ∃ (j : Nat) (xx : Int), x = .int .i64 xx ∧ Hid (xx = l + (j : Int)) ∧ j ≤ m ∧ J (rowsAt l t m k ++ (rowAt l (t + (k : Int)) m).take j) wr ∧ FourI b1 b2 b3 b4 l r t b wr

set_option maxRecDepth 100000 in
set_option maxHeartbeats 2000000 in
theorem boxi_in (n : Nat) (hn : 1 ≤ n) (lp b1 b2 b3 b4 n₀ : Nat) (l r t b : Int) (m q : Nat) (hl : 0 ≤ l ∧ l ≤ 9223372036854775807 ∧ -9223372036854775808 ≤ r ∧ r ≤ 255) (ht : 0 ≤ t ∧ t ≤ 9223372036854775807 ∧ -9223372036854775808 ≤ b ∧ b ≤ 255) (hm : m = (r + 1 - l).toNat) (hq : q = (b + 1 - t).toNat)
    (J Jx : List Tile → World → Prop) (W : World) (hF : FourI b1 b2 b3 b4 l r t b W)
    (hY : ∀ pre x W1, J pre W1 → pre.length < (rowsAt l t m q).length → YieldAt Fence.wide (n - 1) Try.prog lp #[pv x.1.1 x.1.2] W1 fun e W' =>
      (e = .returned (.bool true) ∧ J (pre ++ [x]) W' ∧ K4 n₀ b1 b2 b3 b4 W1 W') ∨ (e = .returned (.bool false) ∧ Jx (pre ++ [x]) W'))
    (h0 : J [] W) :
    CallsIn Fence.wide n Try.prog 58 #[.func (.yield lp) #[] #[], .pointer (some ⟨b3, 0, none⟩), .pointer (some ⟨b4, 0, none⟩), .pointer (some ⟨b1, 0, none⟩), .pointer (some ⟨b2, 0, none⟩)] W fun e W' => (∃ v, e = .returned v) ∧
      ((∃ ys, ys = rowsAt l t m q ∧ J ys W') ∨ (∃ pre, pre <+: rowsAt l t m q ∧ Jx pre W')) := by
  have c3 := hF.2.2.1.cell
  have HM := Lib.hid hm; clear hm
  have HQ := Lib.hid hq; clear hq
  refine callsIn_of_wp Try.func58 rfl trivial ?_ rfl
  simp only [Try.ntmps58, List.size_toArray, List.length_cons, List.length_nil, Nat.reduceAdd, Nat.reduceSub, Array.replicate_succ, Array.replicate_zero, List.push_toArray, List.append_toArray, List.nil_append, List.cons_append]
  gi_wp2
  clear c3
  gi_loopw [6] (fun y wr => RowsI J b1 b2 b3 b4 l r t b m q y wr) (fun y _ => (b + 1 - intOf y).toNat)
  case atStart => exact ⟨0, t, rfl, Lib.hid (by simp), by omega, h0, hF⟩
  case round =>
    obtain ⟨k, y, rfl, hy, hk, hJ, hF1⟩ := hrel
    have c1 := hF1.1.cell
    have c4 := hF1.2.2.2.cell
    by_cases hlt : y ≤ b
    · have hkq : k < q := by have := HQ.out; have := hy.out; omega
      have hyb : 0 ≤ y ∧ y ≤ 255 := by have := hy.out; omega
      gi_wp2
      clear c1 c4
      gi_loopw [7] (fun x wr => ColsI J b1 b2 b3 b4 l r t b m k x wr) (fun x _ => (r + 1 - intOf x).toNat)
      case atStart => exact ⟨0, l, rfl, Lib.hid (by simp), by omega, by simpa using hJ, hF1⟩
      case round =>
        obtain ⟨j, x, rfl, hx, hj, hJ2, hF2⟩ := hrel
        have d2 := hF2.2.1.cell
        by_cases hjl : x ≤ r
        · have hjm : j < m := by have := HM.out; have := hx.out; omega
          have hxy : (0 ≤ x ∧ x ≤ 256) ∧ 0 ≤ y ∧ y ≤ 256 := by have := hx.out; have := hy.out; omega
          obtain ⟨tq, ht1, ht2, ht3⟩ : ∃ tq : Tile, tq.1.1 = x ∧ tq.1.2 = y ∧ tq = tileAt (l + (j : Int)) (t + (k : Int)) := ⟨tileAt x y, by rw [tileAt_eq hxy], by rw [tileAt_eq hxy], by rw [← hx.out, ← hy.out]⟩
          have HT := Lib.hid ht3; clear ht3
          have hlen : (rowsAt l t m k ++ (rowAt l (t + (k : Int)) m).take j).length < (rowsAt l t m q).length := by
            have h1 := (part_pre (l := l) (t := t) (m := m) (j := j + 1) hkq).length_le
            rw [List.length_append, List.length_take, rowAt_len] at h1 ⊢
            omega
          obtain ⟨fn, tmps, assign, body, hyy, hR⟩ := hY _ tq wr hJ2 hlen
          rw [ht1, ht2] at hyy
          clear ht1 ht2
          gi_wp2
          refine hR.mono ?_
          rintro e W3 (⟨rfl, hJ3, hk3⟩ | ⟨rfl, hJx3⟩)
          · have hF3 := hF2.keep hk3
            gi_wp2
            go_roundw
            case rel => exact ⟨j + 1, x + 1, rfl, Lib.hid (by have := hx.out; omega), by omega, by rw [rowAt_take hjm, ← List.append_assoc, ← HT.out]; exact hJ3, hF3⟩
            case measure => simp [intOf] <;> omega
          · gi_wp2
            refine bodyPost_ret (results_none rfl _ _ _) rfl ?_
            exact ⟨⟨_, rfl⟩, .inr ⟨_, by rw [HT.out, List.append_assoc, ← rowAt_take hjm]; exact part_pre hkq, hJx3⟩⟩
        · have hjm : j = m := by have := HM.out; have := hx.out; omega
          have hjl' : decide (x ≤ r) = false := by simpa using hjl
          have HJM := Lib.hid hjm; clear hjm
          have hJk : J (rowsAt l t m (k + 1)) wr := by
            rw [rowsAt_succ]
            have e : (rowAt l (t + (k : Int)) m).take j = rowAt l (t + (k : Int)) m := List.take_of_length_le (by rw [rowAt_len, HJM.out]; exact Nat.le_refl _)
            rw [e] at hJ2
            exact hJ2
          gi_wp2
          go_roundw
          case rel => exact ⟨k + 1, y + 1, rfl, Lib.hid (by have := hy.out; omega), by omega, hJk, hF2⟩
          case measure => simp [intOf] <;> omega
    · have hkq : k = q := by have := HQ.out; have := hy.out; omega
      have hlt' : decide (y ≤ b) = false := by simpa using hlt
      have HKQ := Lib.hid hkq; clear hkq
      have hJk : J (rowsAt l t m q) wr := by rw [← HKQ.out]; exact hJ
      gi_wp2
      go_end0
      exact ⟨⟨_, rfl⟩, .inl hJk⟩
end Go.Proofs.Ytiggpmennomplaa.Con
