/-
  The contract of the iterator over the tiles of a straight walk: it tells each tile of the path in order, and stops where a round says so; for every loop body that keeps the iterator's own boxes.
-/
import Derived.Test.YtccfoeokadggaaaWlk
import Derived.RangeFuncNested
import Derived.RangeFuncBound
import Derived.RangeFuncCalls
import Derived.RangeFuncLeaves
import Derived.Shelf.Abstract
import Derived.Shelf.RegionOpen
import Derived.WalkKit
import Derived.OwnWalkIn
import Derived.TacticsInMore
import Derived.LoopNIn
import Derived.LoopIn
import Derived.StillTailTactics
namespace Go.Proofs.Ytccfoeokadggaaa.Con
open Go.RowKit Go.Shelf Wlk
attribute [local go_sem] Oper.semAt_some

/-- A box of a tile. -/
def BoxP (W : World) (B : Nat) (x y : Int) : Prop := W.heap[B]? = some (.cells #[.int .i64 x, .int .i64 y] 23 (0, 0))
theorem BoxP.lt {W : World} {B : Nat} {x y : Int} (h : BoxP W B x y) : B < W.heap.size := (Array.getElem?_eq_some_iff.1 h).1
theorem BoxP.cell0 {W : World} {B : Nat} {x y : Int} (h : BoxP W B x y) : W.cell? ⟨B, 0, none⟩ = some (.int .i64 x) := by simp [World.cell?, show W.heap[B]? = _ from h]
theorem BoxP.cell1 {W : World} {B : Nat} {x y : Int} (h : BoxP W B x y) : W.cell? ⟨B, 1, none⟩ = some (.int .i64 y) := by simp [World.cell?, show W.heap[B]? = _ from h]
theorem BoxP.frozen {W : World} {B : Nat} {x y : Int} (h : BoxP W B x y) (k : Nat) : W.frozen? ⟨B, k, none⟩ = false := by simp [World.frozen?, show W.heap[B]? = _ from h]
theorem BoxP.new (W : World) (x y : Int) : BoxP (W.alloc (.cells #[.int .i64 x, .int .i64 y] 23)) W.heap.size x y := World.alloc_heap_new W _
theorem BoxP.kept {W W' : World} {B : Nat} {x y : Int} (h : BoxP W B x y) (he : W'.heap[B]? = W.heap[B]?) : BoxP W' B x y := he.trans h
theorem BoxP.alloc {W : World} {B : Nat} {x y : Int} (h : BoxP W B x y) (o : Obj) : BoxP (W.alloc o) B x y := h.kept (Below.heap_alloc W o B h.lt)

/-- What a round keeps: what lay below n₀, and each block of cells but those of K. -/
def KC (K : List Nat) (n₀ : Nat) (W W' : World) : Prop := Below n₀ W W' ∧ ∀ k o, k ∉ K → W.heap[k]? = some o → o.isCells = true → W'.heap[k]? = some o
theorem KC.trans {K : List Nat} {n₀ : Nat} {A B C : World} (h : KC K n₀ A B) (k : KC K n₀ B C) : KC K n₀ A C :=
  ⟨h.1.trans k.1, fun i o hi ho hc => k.2 i o hi (h.2 i o hi ho hc) hc⟩
theorem KC.box {K : List Nat} {n₀ : Nat} {A B : World} (h : KC K n₀ A B) {b : Nat} {x y : Int} (hb : BoxP A b x y) (hk : b ∉ K) : BoxP B b x y := h.2 b _ hk hb rfl
theorem KC.putObj {K : List Nat} {n₀ m : Nat} (hn : n₀ ≤ m) (W : World) (l : Nat) (o o' : Obj) (hl : m ≤ l) (h : W.heap[l]? = some o) (hc : o.isCells = false) : KC K n₀ W (W.putObj l o') := by
  refine ⟨⟨rfl, rfl, rfl, by simp, fun k hk => World.putObj_heap_other (by omega)⟩, fun k _ _ ho h2 => ?_⟩
  rw [World.putObj_heap_other (fun e => by subst e; rw [h] at ho; cases ho; rw [hc] at h2; cases h2)]
  exact ho
theorem KC.of_below {K : List Nat} {n₀ : Nat} {A B : World} (h : Below A.heap.size A B) (hn : n₀ ≤ A.heap.size) : KC K n₀ A B :=
  ⟨h.mono hn, fun k _ _ ho _ => (h.block k (Array.getElem?_eq_some_iff.1 ho).1).trans ho⟩
theorem KC.set {K : List Nat} {n₀ : Nat} (W : World) (b i : Nat) (v : Value) (hb : b ∈ K) (hn : n₀ ≤ b) : KC K n₀ W (W.setCell ⟨b, i, none⟩ v) :=
  ⟨(Below.refl n₀ W).setCell (p := ⟨b, i, none⟩) hn v, fun k _ hk ho _ => (Below.heap_setCell W ⟨b, i, none⟩ v k (fun e => hk (e ▸ hb))).trans ho⟩

theorem set_same {W : World} {B : Nat} {c : Array Value} {t : TypeId} {fr : Nat × Nat} (h : W.heap[B]? = some (.cells c t fr)) (k : Nat) (v : Value) : (W.setCell ⟨B, k, none⟩ v).heap[B]? = some (.cells (c.setIfInBounds k v) t fr) := by
  obtain ⟨hlt, hk⟩ := Array.getElem?_eq_some_iff.1 h
  show (W.heap.modify B _)[B]? = _
  rw [Array.getElem?_eq_getElem (by rw [Array.size_modify]; exact hlt), Array.getElem_modify_self, hk]
  rfl
theorem dist_pos (ax ay bx by' : Int) (k : Nat) : dist (it bx k ax) (it by' k ay) bx by' = dist ax ay bx by' - k := by
  unfold dist; rw [it_left, it_left]; split <;> split <;> omega
theorem dist_of {ax ay bx by' x y : Int} {k : Nat} (h : (x, y) = pos ax ay bx by' k) : dist x y bx by' = dist ax ay bx by' - k := by
  have h1 : x = it bx k ax := congrArg Prod.fst h
  have h2 : y = it by' k ay := congrArg Prod.snd h
  rw [h1, h2, dist_pos]

/-- Both cells of a box written anew. -/
abbrev put2 (W : World) (B : Nat) (x y : Int) : World := ((W.setCell ⟨B, 0, none⟩ (.int .i64 x)).setCell ⟨B, 1, none⟩ (.int .i64 y))
theorem BoxP.put {W : World} {B : Nat} {x y : Int} (h : BoxP W B x y) (x' y' : Int) : BoxP (put2 W B x' y') B x' y' := by
  exact set_same (set_same h 0 (.int .i64 x')) 1 (.int .i64 y')
theorem BoxP.put_other {W : World} {B B' : Nat} {x y : Int} (h : BoxP W B x y) (hne : B ≠ B') (x' y' : Int) : BoxP (put2 W B' x' y') B x y :=
  (Below.heap_setCell _ ⟨B', 1, none⟩ _ B hne).trans ((Below.heap_setCell _ ⟨B', 0, none⟩ _ B hne).trans h)
theorem grown_put {A W : World} {B : Nat} (h : A.grownBy W none) (hB : A.heap.size ≤ B) (x' y' : Int) : A.grownBy (put2 W B x' y').drew none :=
  ⟨h.os, h.tape, h.output, by show A.heap.size ≤ (put2 W B x' y').heap.size; simp; exact h.size, fun k hk hn =>
    (Below.heap_setCell _ ⟨B, 1, none⟩ _ k (by show k ≠ B; omega)).trans ((Below.heap_setCell _ ⟨B, 0, none⟩ _ k (by show k ≠ B; omega)).trans (h.block k hk hn))⟩

/-- How many steps are left, read off the world. -/
def left (bx by' : Int) (wr : World) (p : Value) : Nat :=
  match p with
  | .pointer (some a) => match wr.cell? a, wr.cell? ⟨a.block, 1, none⟩ with
    | some (.int _ x), some (.int _ y) => dist x y bx by'
    | _, _ => 0
  | _ => 0
theorem left_box {bx by' : Int} {wr : World} {B : Nat} {x y : Int} (h : BoxP wr B x y) : left bx by' wr (.pointer (some ⟨B, 0, none⟩)) = dist x y bx by' := by
  unfold left; simp only [h.cell0, h.cell1]

set_option maxRecDepth 100000 in
theorem seq_any (ax ay bx by' : Int) (w : World) :
    Calls Try.prog 26 #[pv ax ay, pv bx by'] w fun e w' => e = .returned (.func (.func 35) #[] #[.pointer (some ⟨w.heap.size, 0, none⟩), .pointer (some ⟨w.heap.size + 1, 0, none⟩)]) ∧
      w' = (w.alloc (.cells #[.int .i64 ax, .int .i64 ay] 23)).alloc (.cells #[.int .i64 bx, .int .i64 by'] 23) := by
  go_enter Try.func26, Try.ntmps26
  go_wp2
  go_ret
  exact ⟨rfl, rfl⟩

/-- What holds at the head of a round of the iterator. -/
def Head (ax ay bx by' : Int) (J : List (Int × Int) → World → Prop) (Bb : Nat) (p : Value) (wr : World) : Prop :=
  ∃ (k B : Nat) (Wk : World) (x y : Int), p = .pointer (some ⟨B, 0, none⟩) ∧ k ≤ dist ax ay bx by' ∧ J ((path ax ay bx by').take k) Wk ∧ Wk.grownBy wr none ∧ Wk.heap.size ≤ B ∧
    BoxP wr B x y ∧ (x, y) = pos ax ay bx by' k ∧ BoxP wr Bb bx by' ∧ Bb < B

set_option maxRecDepth 100000 in
set_option maxHeartbeats 1000000 in
theorem steps1_in (n : Nat) (hn : 1 ≤ n) (l Ba Bb n₀ : Nat) (K : List Nat) (ax ay bx by' : Int) (J Jx : List (Int × Int) → World → Prop)
    (a1 : 0 ≤ ax ∧ ax ≤ 256) (a2 : 0 ≤ ay ∧ ay ≤ 256) (a3 : 0 ≤ bx ∧ bx ≤ 256) (a4 : 0 ≤ by' ∧ by' ≤ 256)
    (hK : ∀ k ∈ K, k < Bb) (W : World) (hBb : BoxP W Bb bx by') (hBa : BoxP W Ba ax ay)
    (hJ : ∀ s W1 W2, J s W1 → W1.grownBy W2 none → J s W2)
    (hY : ∀ pre x W1, J pre W1 → pre.length < (path ax ay bx by').length → YieldAt Fence.wide (n - 1) Try.prog l #[pv x.1 x.2] W1 fun e W' =>
      (e = .returned (.bool true) ∧ J (pre ++ [x]) W' ∧ KC K n₀ W1 W') ∨ (e = .returned (.bool false) ∧ Jx (pre ++ [x]) W'))
    (h0 : J [] W) :
    CallsIn Fence.wide n Try.prog 35 #[.func (.yield l) #[] #[], .pointer (some ⟨Ba, 0, none⟩), .pointer (some ⟨Bb, 0, none⟩)] W fun e W' => (∃ v, e = .returned v) ∧
      ((∃ ys, ys = path ax ay bx by' ∧ J ys W') ∨ (∃ pre, pre <+: path ax ay bx by' ∧ Jx pre W')) := by
  have c0 := hBa.cell0
  have c1 := hBa.cell1
  refine callsIn_of_wp Try.func35 rfl trivial ?_ rfl
  simp only [Try.ntmps35, List.size_toArray, List.length_cons, List.length_nil, Nat.reduceAdd, Nat.reduceSub, Array.replicate_succ, Array.replicate_zero, List.push_toArray, List.append_toArray, List.nil_append, List.cons_append]
  gi_wp2
  gi_loopw [4] (fun p wr => Head ax ay bx by' J Bb p wr) (fun p wr => left bx by' wr p)
  case atStart =>
    exact ⟨0, W.heap.size, W, ax, ay, rfl, by omega, h0, World.grownBy_alloc W _ none, Nat.le_refl _, BoxP.new W ax ay, (pos_zero ..).symm, hBb.alloc _, hBb.lt⟩
  case round =>
    obtain ⟨k, B, Wk, x, y, rfl, hk, hJk, hg, hBk, hbox, hxy, hbb, hBB⟩ := hrel
    have d0 := hbox.cell0
    have d1 := hbox.cell1
    have e0 := hbb.cell0
    have e1 := hbb.cell1
    have f0 := hbox.frozen 0
    have f1 := hbox.frozen 1
    have hx : x = it bx k ax := congrArg Prod.fst hxy
    have hy : y = it by' k ay := congrArg Prod.snd hxy
    have HX := Lib.hid hx; clear hx
    have HY := Lib.hid hy; clear hy
    have HXY := Lib.hid hxy; clear hxy
    by_cases hlt : k < dist ax ay bx by'
    · have hne : ¬ (x = bx ∧ y = by') := by rw [HX.out, HY.out]; exact pos_ne hlt
      obtain ⟨y0, y1⟩ := it_in by' ay k a2.1 a2.2 a4.1 a4.2
      obtain ⟨x0, x1⟩ := it_in bx ax k a1.1 a1.2 a3.1 a3.2
      rw [← HX.out] at x0 x1
      rw [← HY.out] at y0 y1
      by_cases hxb : x = bx
      · have hxb2 := hxb.symm
        subst hxb2
        have hnx : ∀ w : World, Calls Try.prog 36 #[.int .i64 bx, .int .i64 bx] w fun e w' => e = .returned (.int .i64 (nxt bx bx)) ∧ w' = w := fun w => (nearer_any bx bx w (by omega) (by omega)).mono fun _ _ h => ⟨h.1, h.2.symm⟩
        have hny : ∀ w : World, Calls Try.prog 36 #[.int .i64 y, .int .i64 by'] w fun e w' => e = .returned (.int .i64 (nxt y by')) ∧ w' = w := fun w => (nearer_any y by' w (by omega) (by omega)).mono fun _ _ h => ⟨h.1, h.2.symm⟩
        gi_wp2
        refine wpIn_wide.2 ?_
        refine wp_region_still_tail 11 (by kernel_rfl) (by kernel_rfl) ?_
        simp only [List.take_succ_cons, List.take_zero, List.drop_succ_cons, List.drop_zero]
        iterate 4 still_step
        still_call (hnx _)
        iterate 4 still_step
        still_call (hny _)
        still_step
        refine wpStill_nil ?_
        change wpList _ _ _ _ _ wr.drew
        go_wp2
        have hb2 : BoxP (put2 wr B (nxt bx bx) (nxt y by')).drew B (nxt bx bx) (nxt y by') := hbox.put _ _
        have hbb2 : BoxP (put2 wr B (nxt bx bx) (nxt y by')).drew Bb bx by' := hbb.put_other (by omega) _ _
        have hg2 : Wk.grownBy (put2 wr B (nxt bx bx) (nxt y by')).drew none := grown_put hg hBk _ _
        clear d0 d1 e0 e1 f0 f1
        generalize (put2 wr B (nxt bx bx) (nxt y by')).drew = w2 at hb2 hbb2 hg2 ⊢
        have hs : (nxt bx bx, nxt y by') = pos ax ay bx by' (k + 1) := by rw [pos_succ, ← HXY.out]
        have HS := Lib.hid hs; clear hs
        have d0 := hb2.cell0
        have d1 := hb2.cell1
        have hJ2 := hJ _ _ _ hJk hg2
        obtain ⟨fn, tmps, assign, body, hyy, hR⟩ := hY _ (nxt bx bx, nxt y by') w2 hJ2 (by rw [List.length_take, path_len]; omega)
        dsimp only at hyy
        gi_wp2
        refine hR.mono ?_
        rintro e W3 (⟨rfl, hJ3, hk3⟩ | ⟨rfl, hJx3⟩)
        · have hb3 := hk3.box hb2 (fun h => by have := hK _ h; omega)
          have hbb3 := hk3.box hbb2 (fun h => by have := hK _ h; omega)
          have p0 := hb3.cell0
          have p1 := hb3.cell1
          clear d0 d1
          gi_wp2
          go_roundw
          case rel =>
            have hb4 := BoxP.new W3 (nxt bx bx) (nxt y by')
            exact ⟨k + 1, W3.heap.size, W3, _, _, rfl, by omega, by rw [path_take hlt, ← HS.out]; exact hJ3, World.grownBy_alloc W3 _ none, Nat.le_refl _, hb4, HS.out, hbb3.alloc _, hbb3.lt⟩
          case measure =>
            show left bx by' _ (.pointer (some ⟨W3.heap.size, 0, none⟩)) < left bx by' wr (.pointer (some ⟨B, 0, none⟩))
            rw [left_box (BoxP.new W3 _ _), left_box hbox, dist_of HS.out, dist_of HXY.out]
            omega
        · gi_wp2
          refine bodyPost_ret (results_none rfl _ _ _) rfl ?_
          exact ⟨⟨_, rfl⟩, .inr ⟨_, ⟨(path ax ay bx by').drop (k + 1), by rw [HS.out, ← path_take hlt]; exact List.take_append_drop _ _⟩, hJx3⟩⟩
      · have hxb' : (x == bx) = false := by simpa using hxb
        have hnx : ∀ w : World, Calls Try.prog 36 #[.int .i64 x, .int .i64 bx] w fun e w' => e = .returned (.int .i64 (nxt x bx)) ∧ w' = w := fun w => (nearer_any x bx w (by omega) (by omega)).mono fun _ _ h => ⟨h.1, h.2.symm⟩
        have hny : ∀ w : World, Calls Try.prog 36 #[.int .i64 y, .int .i64 by'] w fun e w' => e = .returned (.int .i64 (nxt y by')) ∧ w' = w := fun w => (nearer_any y by' w (by omega) (by omega)).mono fun _ _ h => ⟨h.1, h.2.symm⟩
        gi_wp2
        refine wpIn_wide.2 ?_
        refine wp_region_still_tail 11 (by kernel_rfl) (by kernel_rfl) ?_
        simp only [List.take_succ_cons, List.take_zero, List.drop_succ_cons, List.drop_zero]
        iterate 4 still_step
        still_call (hnx _)
        iterate 4 still_step
        still_call (hny _)
        still_step
        refine wpStill_nil ?_
        change wpList _ _ _ _ _ wr.drew
        go_wp2
        have hb2 : BoxP (put2 wr B (nxt x bx) (nxt y by')).drew B (nxt x bx) (nxt y by') := hbox.put _ _
        have hbb2 : BoxP (put2 wr B (nxt x bx) (nxt y by')).drew Bb bx by' := hbb.put_other (by omega) _ _
        have hg2 : Wk.grownBy (put2 wr B (nxt x bx) (nxt y by')).drew none := grown_put hg hBk _ _
        clear d0 d1 e0 e1 f0 f1
        generalize (put2 wr B (nxt x bx) (nxt y by')).drew = w2 at hb2 hbb2 hg2 ⊢
        have hs : (nxt x bx, nxt y by') = pos ax ay bx by' (k + 1) := by rw [pos_succ, ← HXY.out]
        have HS := Lib.hid hs; clear hs
        have d0 := hb2.cell0
        have d1 := hb2.cell1
        have hJ2 := hJ _ _ _ hJk hg2
        obtain ⟨fn, tmps, assign, body, hyy, hR⟩ := hY _ (nxt x bx, nxt y by') w2 hJ2 (by rw [List.length_take, path_len]; omega)
        dsimp only at hyy
        gi_wp2
        refine hR.mono ?_
        rintro e W3 (⟨rfl, hJ3, hk3⟩ | ⟨rfl, hJx3⟩)
        · have hb3 := hk3.box hb2 (fun h => by have := hK _ h; omega)
          have hbb3 := hk3.box hbb2 (fun h => by have := hK _ h; omega)
          have p0 := hb3.cell0
          have p1 := hb3.cell1
          clear d0 d1
          gi_wp2
          go_roundw
          case rel =>
            have hb4 := BoxP.new W3 (nxt x bx) (nxt y by')
            exact ⟨k + 1, W3.heap.size, W3, _, _, rfl, by omega, by rw [path_take hlt, ← HS.out]; exact hJ3, World.grownBy_alloc W3 _ none, Nat.le_refl _, hb4, HS.out, hbb3.alloc _, hbb3.lt⟩
          case measure =>
            show left bx by' _ (.pointer (some ⟨W3.heap.size, 0, none⟩)) < left bx by' wr (.pointer (some ⟨B, 0, none⟩))
            rw [left_box (BoxP.new W3 _ _), left_box hbox, dist_of HS.out, dist_of HXY.out]
            omega
        · gi_wp2
          refine bodyPost_ret (results_none rfl _ _ _) rfl ?_
          exact ⟨⟨_, rfl⟩, .inr ⟨_, ⟨(path ax ay bx by').drop (k + 1), by rw [HS.out, ← path_take hlt]; exact List.take_append_drop _ _⟩, hJx3⟩⟩
    · obtain rfl : k = dist ax ay bx by' := by omega
      have he := pos_end (ax := ax) (ay := ay) (bx := bx) (by' := by') (Nat.le_refl _)
      have h1 : x = bx := by have := HXY.out; rw [he] at this; exact congrArg Prod.fst this
      have h2 : y = by' := by have := HXY.out; rw [he] at this; exact congrArg Prod.snd this
      have h1' := h1.symm
      have h2' := h2.symm
      subst h1' h2'
      gi_wp2
      go_end0
      exact ⟨⟨_, rfl⟩, .inl (by have := hJ _ _ _ hJk hg; rwa [← path_len, List.take_length] at this)⟩
end Go.Proofs.Ytccfoeokadggaaa.Con
