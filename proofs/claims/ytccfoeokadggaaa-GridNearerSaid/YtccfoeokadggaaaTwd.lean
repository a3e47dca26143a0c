/-
  The contract of Toward: for every grid whose walls read as a list, every two tiles and every number: where the walk ends; only new memory is made.
-/
import Derived.Test.YtccfoeokadggaaaStp
namespace Go.Proofs.Ytccfoeokadggaaa.Con
open Go.RowKit Go.Shelf Wlk
attribute [local go_sem] Oper.semAt_some

theorem bcell {W w1 : World} (hb : Below W.heap.size W w1) : (∀ b o, b < W.heap.size → w1.cell? ⟨b, o, none⟩ = W.cell? ⟨b, o, none⟩) ∧ (∀ b o, b < W.heap.size → w1.frozen? ⟨b, o, none⟩ = W.frozen? ⟨b, o, none⟩) :=
  ⟨fun b o h => hb.cell (p := ⟨b, o, none⟩) h, fun b o h => hb.frozen (p := ⟨b, o, none⟩) h⟩

/-- Where one comes. -/
def tow (W H : Int) (l : List Bool) (ax ay bx by' n : Int) : Int × Int :=
  if (inB W H l.length ax ay && inB W H l.length bx by') = true then tw (fun p => wallB W H l p.1 p.2) (bx, by') n.toNat (ax, ay) else (ax, ay)

/-- The five boxes at a walk's beginning. -/
abbrev opened (W H : Int) (A : Option Addr) (k c : Nat) (ax ay bx by' n : Int) (w : World) : World :=
  ((((w.alloc (.cells #[.int .i64 W, .int .i64 H, .slice A k c] 29)).alloc (.cells #[.int .i64 ax, .int .i64 ay] 23)).alloc (.cells #[.int .i64 bx, .int .i64 by'] 23)).alloc (.cells #[.int .i64 n] 3)).alloc (.cells #[.int .i64 0, .int .i64 0] 23)
theorem opened_below (W H : Int) (A : Option Addr) (k c : Nat) (ax ay bx by' n : Int) (w : World) : Below w.heap.size w (opened W H A k c ax ay bx by' n w) :=
  (((((Below.refl _ w).alloc (Nat.le_refl _) _).alloc (by simp) _).alloc (by simp; omega) _).alloc (by simp; omega) _).alloc (by simp; omega) _
theorem new_at (w : World) (o : Obj) {k : Nat} (h : k = w.heap.size) : (w.alloc o).heap[k]? = some o := by subst h; exact World.alloc_heap_new _ _
theorem old_at {w : World} {o o2 : Obj} {k : Nat} (h : w.heap[k]? = some o) : (w.alloc o2).heap[k]? = some o := (Below.heap_alloc w o2 k (Array.getElem?_eq_some_iff.1 h).1).trans h
theorem opened_box (W H : Int) (A : Option Addr) (k c : Nat) (ax ay bx by' n : Int) (w : World) : BoxP (opened W H A k c ax ay bx by' n w) (w.heap.size + 1 + 1 + 1 + 1) 0 0 := new_at _ _ (by simp)
theorem opened_n (W H : Int) (A : Option Addr) (k c : Nat) (ax ay bx by' n : Int) (w : World) : Boxed (opened W H A k c ax ay bx by' n w) (w.heap.size + 1 + 1 + 1) 3 (.int .i64 n) := old_at (new_at _ _ (by simp))
theorem opened_g (W H : Int) (A : Option Addr) (k c : Nat) (ax ay bx by' n : Int) (w : World) : (opened W H A k c ax ay bx by' n w).heap[w.heap.size]? = some (.cells #[.int .i64 W, .int .i64 H, .slice A k c] 29 (0, 0)) :=
  old_at (old_at (old_at (old_at (new_at _ _ rfl))))

theorem five {W H : Int} {A : Option Addr} {k c : Nat} {ax ay bx by' n : Int} {w : World} {m : Nat} (h : (opened W H A k c ax ay bx by' n w).heap.size ≤ m) :
    w.heap.size < m ∧ w.heap.size + 1 < m ∧ w.heap.size + 1 + 1 < m ∧ w.heap.size + 1 + 1 + 1 < m ∧ w.heap.size + 1 + 1 + 1 + 1 < m := by simp at h; omega
theorem five' {s k m : Nat} (h : s + 1 + 1 + 1 + 1 < k) (hm : k ≤ m) : s < m ∧ s + 1 < m ∧ s + 1 + 1 < m ∧ s + 1 + 1 + 1 < m ∧ s + 1 + 1 + 1 + 1 < m := by omega

set_option maxRecDepth 100000 in
set_option maxHeartbeats 2000000 in
theorem toward_no (W H : Int) (A : Option Addr) (l : List Bool) (c : Nat) (ax ay bx by' n : Int) (w : World) (hI : (inB W H l.length ax ay && inB W H l.length bx by') = false) :
    Calls Try.prog 15 #[gv W H A l.length c, pv ax ay, pv bx by', .int .i64 n] w fun e w' => e = .returned (pv ax ay) ∧ Below w.heap.size w w' := by
  have hb0 := opened_below W H A l.length c ax ay bx by' n w
  have hr0 := opened_box W H A l.length c ax ay bx by' n w
  cases ha : inB W H l.length ax ay with
  | false =>
    have HR := Lib.hid hr0; clear hr0
    go_enter Try.func15, Try.ntmps15
    go_wp2
    go_step3
    go_wp2_with (first
      | ((with_reducible refine (in_any W H A l.length c ax ay _).mono ?_); rintro e w1 ⟨rfl, hB⟩; obtain ⟨hc1, hf1⟩ := bcell hB; have hz1 := five hB.size; obtain ⟨z0, z1, z2, z3, z4⟩ := hz1; have HB := Lib.hid hB; clear hB))
    rw [Exit.noGoto_ret]
    have hbr : BoxP w1 (w.heap.size + 1 + 1 + 1 + 1) 0 0 := (HB.out.block _ (by simp)).trans HR.out
    have hbx := hbr.put ax ay
    have q0 := hbx.cell0
    have q1 := hbx.cell1
    refine bodyPost_ret (v := pv ax ay) (by simp [results, Try.results15, go_sem, q0, q1]; try rfl) rfl ?_
    exact ⟨rfl, ((hb0.trans (HB.out.mono (by simp; omega))).setCell (p := ⟨w.heap.size + 1 + 1 + 1 + 1, 0, none⟩) (by show w.heap.size ≤ w.heap.size + 1 + 1 + 1 + 1; omega) _).setCell (p := ⟨w.heap.size + 1 + 1 + 1 + 1, 1, none⟩) (by show w.heap.size ≤ w.heap.size + 1 + 1 + 1 + 1; omega) _⟩
  | true =>
    have hb : inB W H l.length bx by' = false := by rw [ha] at hI; simpa using hI
    have HR := Lib.hid hr0; clear hr0
    go_enter Try.func15, Try.ntmps15
    go_wp2
    go_step3
    go_wp2_with (first
      | ((with_reducible refine (in_any W H A l.length c ax ay _).mono ?_); rintro e w1 ⟨rfl, hB⟩; obtain ⟨hc1, hf1⟩ := bcell hB; have hz1 := five hB.size; obtain ⟨z0, z1, z2, z3, z4⟩ := hz1; have HB := Lib.hid hB; clear hB)
      | ((with_reducible refine (in_any W H A l.length c bx by' _).mono ?_); rintro e w2 ⟨rfl, hB2⟩; obtain ⟨hc2, hf2⟩ := bcell hB2; obtain ⟨y0, y1, y2, y3, y4⟩ := five' z4 hB2.size; have HB2 := Lib.hid hB2; clear hB2))
    rw [Exit.noGoto_ret]
    have hbr : BoxP w2 (w.heap.size + 1 + 1 + 1 + 1) 0 0 := (HB2.out.block _ (by have := HB.out.size; simp at this; omega)).trans ((HB.out.block _ (by simp)).trans HR.out)
    have hbx := hbr.put ax ay
    have q0 := hbx.cell0
    have q1 := hbx.cell1
    refine bodyPost_ret (v := pv ax ay) (by simp [results, Try.results15, go_sem, q0, q1]; try rfl) rfl ?_
    exact ⟨rfl, ((hb0.trans ((HB.out.mono (by simp; omega)).trans (HB2.out.mono (by have := HB.out.size; simp at this; omega)))).setCell (p := ⟨w.heap.size + 1 + 1 + 1 + 1, 0, none⟩) (by show w.heap.size ≤ w.heap.size + 1 + 1 + 1 + 1; omega) _).setCell (p := ⟨w.heap.size + 1 + 1 + 1 + 1, 1, none⟩) (by show w.heap.size ≤ w.heap.size + 1 + 1 + 1 + 1; omega) _⟩
end Go.Proofs.Ytccfoeokadggaaa.Con
