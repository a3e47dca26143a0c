/-
  The contract of the iterator over the tiles of a box, at the box of the law's own small case: four tiles, row by row; for every loop body that keeps the iterator's own boxes.
-/
import Derived.Test.YtccfoeokadggaaaTwd
namespace Go.Proofs.Ytccfoeokadggaaa.Con
open Go.RowKit Go.Shelf Wlk
attribute [local go_sem] Oper.semAt_some

/-- A tile of a map. -/
abbrev Tile := { p : Int × Int // (0 ≤ p.1 ∧ p.1 ≤ 256) ∧ 0 ≤ p.2 ∧ p.2 ≤ 256 }
def tl (x y : Nat) (hx : x ≤ 1) (hy : y ≤ 1) : Tile := ⟨((x : Int), (y : Int)), by simp; omega⟩
def tiles : List Tile := [tl 0 0 (by omega) (by omega), tl 1 0 (by omega) (by omega), tl 0 1 (by omega) (by omega), tl 1 1 (by omega) (by omega)]
theorem tiles_take {k j : Nat} (hk : k ≤ 1) (hj : j ≤ 1) : tiles.take (2 * k + j + 1) = tiles.take (2 * k + j) ++ [tl j k hj hk] := by
  match k, j, hk, hj with
  | 0, 0, _, _ => rfl
  | 0, 1, _, _ => rfl
  | 1, 0, _, _ => rfl
  | 1, 1, _, _ => rfl

/-- What a round keeps: what lay below n₀, and the four boxes. -/
def K4 (n₀ b1 b2 b3 b4 : Nat) (V V' : World) : Prop := Below n₀ V V' ∧ V'.heap[b1]? = V.heap[b1]? ∧ V'.heap[b2]? = V.heap[b2]? ∧ V'.heap[b3]? = V.heap[b3]? ∧ V'.heap[b4]? = V.heap[b4]?
theorem K4.trans {n₀ b1 b2 b3 b4 : Nat} {A B C : World} (h : K4 n₀ b1 b2 b3 b4 A B) (k : K4 n₀ b1 b2 b3 b4 B C) : K4 n₀ b1 b2 b3 b4 A C :=
  ⟨h.1.trans k.1, k.2.1.trans h.2.1, k.2.2.1.trans h.2.2.1, k.2.2.2.1.trans h.2.2.2.1, k.2.2.2.2.trans h.2.2.2.2⟩
/-- The four boxes as they lie. -/
def Four (b1 b2 b3 b4 : Nat) (V : World) : Prop := Boxed V b1 3 (.int .i64 0) ∧ Boxed V b2 3 (.int .i64 1) ∧ Boxed V b3 3 (.int .i64 0) ∧ Boxed V b4 3 (.int .i64 1)
theorem Four.keep {n₀ b1 b2 b3 b4 : Nat} {V V' : World} (h : Four b1 b2 b3 b4 V) (k : K4 n₀ b1 b2 b3 b4 V V') : Four b1 b2 b3 b4 V' :=
  ⟨k.2.1.trans h.1, k.2.2.1.trans h.2.1, k.2.2.2.1.trans h.2.2.1, k.2.2.2.2.trans h.2.2.2⟩

def RowsAt (J : List Tile → World → Prop) (b1 b2 b3 b4 : Nat) (y : Value) (wr : World) : Prop :=
  ∃ k : Nat, y = .int .i64 (k : Int) ∧ k ≤ 2 ∧ J (tiles.take (2 * k)) wr ∧ Four b1 b2 b3 b4 wr
def ColsAt (J : List Tile → World → Prop) (b1 b2 b3 b4 k : Nat) (x : Value) (wr : World) : Prop :=
  ∃ j : Nat, x = .int .i64 (j : Int) ∧ j ≤ 2 ∧ J (tiles.take (2 * k + j)) wr ∧ Four b1 b2 b3 b4 wr

set_option maxRecDepth 100000 in
set_option maxHeartbeats 1000000 in
theorem box1_in (n : Nat) (hn : 1 ≤ n) (l b1 b2 b3 b4 n₀ : Nat) (J Jx : List Tile → World → Prop) (W : World) (hF : Four b1 b2 b3 b4 W)
    (hY : ∀ pre x W1, J pre W1 → pre.length < tiles.length → YieldAt Fence.wide (n - 1) Try.prog l #[pv x.1.1 x.1.2] W1 fun e W' =>
      (e = .returned (.bool true) ∧ J (pre ++ [x]) W' ∧ K4 n₀ b1 b2 b3 b4 W1 W') ∨ (e = .returned (.bool false) ∧ Jx (pre ++ [x]) W'))
    (h0 : J [] W) :
    CallsIn Fence.wide n Try.prog 39 #[.func (.yield l) #[] #[], .pointer (some ⟨b3, 0, none⟩), .pointer (some ⟨b4, 0, none⟩), .pointer (some ⟨b1, 0, none⟩), .pointer (some ⟨b2, 0, none⟩)] W fun e W' => (∃ v, e = .returned v) ∧
      ((∃ ys, ys = tiles ∧ J ys W') ∨ (∃ pre, pre <+: tiles ∧ Jx pre W')) := by
  have c3 := hF.2.2.1.cell
  refine callsIn_of_wp Try.func39 rfl trivial ?_ rfl
  simp only [Try.ntmps39, List.size_toArray, List.length_cons, List.length_nil, Nat.reduceAdd, Nat.reduceSub, Array.replicate_succ, Array.replicate_zero, List.push_toArray, List.append_toArray, List.nil_append, List.cons_append]
  gi_wp2
  clear c3
  gi_loopw [6] (fun y wr => RowsAt J b1 b2 b3 b4 y wr) (fun y _ => 2 - (intOf y).toNat)
  case atStart => exact ⟨0, rfl, by omega, h0, hF⟩
  case round =>
    obtain ⟨k, rfl, hk, hJ, hF1⟩ := hrel
    have c1 := hF1.1.cell
    have c4 := hF1.2.2.2.cell
    by_cases hlt : k ≤ 1
    · have hlt' : (k : Int) ≤ 1 := by omega
      gi_wp2
      clear c1 c4
      gi_loopw [7] (fun x wr => ColsAt J b1 b2 b3 b4 k x wr) (fun x _ => 2 - (intOf x).toNat)
      case atStart => exact ⟨0, rfl, by omega, hJ, hF1⟩
      case round =>
        obtain ⟨j, rfl, hj, hJ2, hF2⟩ := hrel
        have d2 := hF2.2.1.cell
        by_cases hjl : j ≤ 1
        · have hjl' : (j : Int) ≤ 1 := by omega
          obtain ⟨fn, tmps, assign, body, hyy, hR⟩ := hY _ (tl j k hjl hlt) wr hJ2 (by rw [List.length_take]; show min _ 4 < 4; omega)
          dsimp only [tl] at hyy
          gi_wp2
          refine hR.mono ?_
          rintro e W3 (⟨rfl, hJ3, hk3⟩ | ⟨rfl, hJx3⟩)
          · have hF3 := hF2.keep hk3
            gi_wp2
            go_roundw
            case rel => exact ⟨j + 1, by go_num, by omega, by rw [show 2 * k + (j + 1) = 2 * k + j + 1 by omega, tiles_take hlt hjl]; exact hJ3, hF3⟩
            case measure => simp [intOf] <;> omega
          · gi_wp2
            refine bodyPost_ret (results_none rfl _ _ _) rfl ?_
            exact ⟨⟨_, rfl⟩, .inr ⟨_, ⟨tiles.drop (2 * k + j + 1), by rw [← tiles_take hlt hjl]; exact List.take_append_drop _ _⟩, hJx3⟩⟩
        · obtain rfl : j = 2 := by omega
          gi_wp2
          go_roundw
          case rel => exact ⟨k + 1, by go_num, by omega, hJ2, hF2⟩
          case measure => simp [intOf] <;> omega
    · obtain rfl : k = 2 := by omega
      gi_wp2
      go_end0
      exact ⟨⟨_, rfl⟩, .inl ⟨tiles, rfl, hJ⟩⟩

theorem bstops {W0 : World} {b1 b2 b3 b4 n₀ : Nat} (hF : Four b1 b2 b3 b4 W0) :
    SeqStopsK Fence.wide 2 Try.prog 39 #[.pointer (some ⟨b3, 0, none⟩), .pointer (some ⟨b4, 0, none⟩), .pointer (some ⟨b1, 0, none⟩), .pointer (some ⟨b2, 0, none⟩)] (fun x : Tile => #[pv x.1.1 x.1.2]) (K4 n₀ b1 b2 b3 b4) (fun ys => ys = tiles) (fun pre => pre <+: tiles) tiles.length W0 :=
  fun l J Jx W hW _ _ hY h0 => box1_in 2 (by omega) l b1 b2 b3 b4 n₀ J Jx W ⟨(hW.block _ hF.1.lt).trans hF.1, (hW.block _ hF.2.1.lt).trans hF.2.1, (hW.block _ hF.2.2.1.lt).trans hF.2.2.1, (hW.block _ hF.2.2.2.lt).trans hF.2.2.2⟩ hY h0
end Go.Proofs.Ytccfoeokadggaaa.Con
