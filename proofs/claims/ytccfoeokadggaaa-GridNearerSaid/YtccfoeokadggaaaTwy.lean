/-
  The contract of Toward where both are tiles: the walk over the iterator.
-/
import Derived.Test.YtccfoeokadggaaaTwd
namespace Go.Proofs.Ytccfoeokadggaaa.Con
open Go.RowKit Go.Shelf Wlk
attribute [local go_sem] Oper.semAt_some

/-- The walls of a grid, told of tiles. -/
abbrev wlOf (W H : Int) (l : List Bool) : Int × Int → Bool := fun p => wallB W H l p.1 p.2

/-- What holds between two rounds: one stands on the last tile that came, none of them is a wall, and so many steps are left. -/
structure Mid (W H : Int) (A : Option Addr) (l : List Bool) (c : Nat) (a : Int × Int) (n : Int) (w : World) (P : Nat) (pre : List (Int × Int)) (V : World) : Prop where
  walls : ∀ q ∈ pre, wlOf W H l q = false
  few : pre.length ≤ n.toNat
  at' : BoxP V P (pre.getLastD a).1 (pre.getLastD a).2
  num : Boxed V (w.heap.size + 1 + 1 + 1) 3 (.int .i64 (n - pre.length))
  grid : V.heap[w.heap.size]? = some (.cells #[.int .i64 W, .int .i64 H, .slice A l.length c] 29 (0, 0))
  res : BoxP V (w.heap.size + 1 + 1 + 1 + 1) 0 0
  below : Below w.heap.size w V

theorem own_at {B k : Nat} {V V' : World} {row : Option Nat} {cs : Array Value} {t : TypeId} {fr : Nat × Nat} (h : V.heap[k]? = some (.cells cs t fr)) (hg : V.grownBy V' row) (hr : ∀ r, row = some r → B ≤ r ∧ ∃ o : Obj, V.heap[r]? = some o ∧ o.isCells = false) : V'.heap[k]? = some (.cells cs t fr) :=
  (hg.block k (Array.getElem?_eq_some_iff.1 h).1 (fun e => by obtain ⟨_, o, ho, hc⟩ := hr k e.symm; rw [h] at ho; cases ho; cases hc)).trans h

theorem mid_own {W H : Int} {A : Option Addr} {l : List Bool} {c : Nat} {a : Int × Int} {n : Int} {w : World} {P B : Nat} (hB : w.heap.size ≤ B) : OwnFrom B (Mid W H A l c a n w P) :=
  fun _ _ _ _ h hg hr => ⟨h.walls, h.few, own_at h.at' hg hr, own_at h.num hg hr, own_at h.grid hg hr, own_at h.res hg hr, h.below.grown hg h.below.size (fun k e => Nat.le_trans hB (hr k e).1)⟩
theorem Mid.of {W H : Int} {A : Option Addr} {l : List Bool} {c : Nat} {a : Int × Int} {n : Int} {w V V' : World} {P : Nat} {pre : List (Int × Int)} (h : Mid W H A l c a n w P pre V) (hb : Below V.heap.size V V') : Mid W H A l c a n w P pre V' :=
  ⟨h.walls, h.few, h.at'.kept (hb.block _ h.at'.lt), (hb.block _ h.num.lt).trans h.num, (hb.block _ (Array.getElem?_eq_some_iff.1 h.grid).1).trans h.grid, h.res.kept (hb.block _ h.res.lt), h.below.trans (hb.mono h.below.size)⟩

/-- How a round leaves early: the tile that came last was not entered. -/
def Out (W H : Int) (A : Option Addr) (l : List Bool) (c : Nat) (a : Int × Int) (n : Int) (w : World) (P : Nat) (cd : Code) (pre' : List (Int × Int)) (V : World) : Prop :=
  cd = .exit 0 ∧ ∃ pre x, pre' = pre ++ [x] ∧ Mid W H A l c a n w P pre V ∧ (n.toNat ≤ pre.length ∨ wlOf W H l x = true)
theorem out_own {W H : Int} {A : Option Addr} {l : List Bool} {c : Nat} {a : Int × Int} {n : Int} {w : World} {P B : Nat} (hB : w.heap.size ≤ B) (cd : Code) : OwnFrom B (Out W H A l c a n w P cd) :=
  fun _ _ _ _ ⟨h1, pre, x, h2, h3, h4⟩ hg hr => ⟨h1, pre, x, h2, mid_own hB _ _ _ _ h3 hg hr, h4⟩

theorem keeps_below {B : Nat} {V V' : World} (h : Below V.heap.size V V') : KeepsFrom B V V' := ⟨h.size, fun k _ _ hk _ => (h.block k (Array.getElem?_eq_some_iff.1 hk).1).trans hk⟩
theorem mid_step {W H : Int} {A : Option Addr} {l : List Bool} {c : Nat} {a : Int × Int} {n : Int} {w V : World} {P : Nat} {pre : List (Int × Int)} {x : Int × Int} (h : Mid W H A l c a n w P pre V) (hw : wlOf W H l x = false) (hm : 0 < n - (pre.length : Int)) (hP : w.heap.size + 1 + 1 + 1 + 1 < P) :
    Mid W H A l c a n w P (pre ++ [x]) ((put2 V P x.1 x.2).setCell ⟨w.heap.size + 1 + 1 + 1, 0, none⟩ (.int .i64 (n - (pre.length : Int) - 1))).drew := by
  have e : n - ((pre ++ [x]).length : Int) = n - (pre.length : Int) - 1 := by simp; omega
  refine ⟨fun q hq => ?_, by simp; omega, ?_, ?_, ?_, ?_, ?_⟩
  · rcases List.mem_append.1 hq with hq | hq
    · exact h.walls q hq
    · simp at hq; subst hq; exact hw
  · rw [List.getLastD_concat]
    exact (Below.heap_setCell _ ⟨w.heap.size + 1 + 1 + 1, 0, none⟩ _ P (by show P ≠ w.heap.size + 1 + 1 + 1; omega)).trans (h.at'.put _ _)
  · rw [e]
    exact Boxed.set _ (((Below.heap_setCell _ ⟨P, 1, none⟩ _ _ (by show w.heap.size + 1 + 1 + 1 ≠ P; omega)).trans (Below.heap_setCell _ ⟨P, 0, none⟩ _ _ (by show w.heap.size + 1 + 1 + 1 ≠ P; omega))).trans h.num)
  · exact (Below.heap_setCell _ ⟨w.heap.size + 1 + 1 + 1, 0, none⟩ _ _ (by show w.heap.size ≠ w.heap.size + 1 + 1 + 1; omega)).trans (((Below.heap_setCell _ ⟨P, 1, none⟩ _ _ (by show w.heap.size ≠ P; omega)).trans (Below.heap_setCell _ ⟨P, 0, none⟩ _ _ (by show w.heap.size ≠ P; omega))).trans h.grid)
  · exact (Below.heap_setCell _ ⟨w.heap.size + 1 + 1 + 1, 0, none⟩ _ _ (by show w.heap.size + 1 + 1 + 1 + 1 ≠ w.heap.size + 1 + 1 + 1; omega)).trans (h.res.put_other (by omega) _ _)
  · exact (((h.below.setCell (p := ⟨P, 0, none⟩) (by show w.heap.size ≤ P; omega) _).setCell (p := ⟨P, 1, none⟩) (by show w.heap.size ≤ P; omega) _).setCell (p := ⟨w.heap.size + 1 + 1 + 1, 0, none⟩) (by show w.heap.size ≤ w.heap.size + 1 + 1 + 1; omega) _).drew
theorem fin_stop {wl : Int × Int → Bool} {ax ay bx by' : Int} {m : Nat} {pre : List (Int × Int)} {x : Int × Int} (hp : pre ++ [x] <+: path ax ay bx by') (hw : ∀ q ∈ pre, wl q = false) (hf : pre.length ≤ m) (ho : m ≤ pre.length ∨ wl x = true) :
    pre.getLastD (ax, ay) = tw wl (bx, by') m (ax, ay) := by
  have hl := hp.length_le
  rw [path_len] at hl
  simp at hl
  have h1 := List.prefix_iff_eq_take.1 hp
  rw [List.length_append, List.length_singleton, path_take (by omega)] at h1
  obtain ⟨h2, h3⟩ := List.append_inj' h1 rfl
  injection h3 with h3
  have hk : ∀ i, i < pre.length → wl (pos ax ay bx by' (i + 1)) = false := fun i hi => hw _ (by rw [h2]; exact path_mem (by omega) hi)
  rw [tw_along (k := pre.length) (by omega) hf hk]
  have h4 : pre.getLastD (ax, ay) = pos ax ay bx by' pre.length := by
    have := path_last (ax := ax) (ay := ay) (bx := bx) (by' := by') (k := pre.length) (by omega)
    rwa [← h2] at this
  rw [h4]
  rcases ho with ho | ho
  · rw [show m - pre.length = 0 by omega]; rfl
  · rw [h3, pos_succ] at ho
    exact (tw_wall ho _).symm
theorem fin_done {wl : Int × Int → Bool} {ax ay bx by' : Int} {m : Nat} (hw : ∀ q ∈ path ax ay bx by', wl q = false) (hf : (path ax ay bx by').length ≤ m) :
    (path ax ay bx by').getLastD (ax, ay) = tw wl (bx, by') m (ax, ay) := by
  rw [path_len] at hf
  have ht : (path ax ay bx by').take (dist ax ay bx by') = path ax ay bx by' := by rw [← path_len, List.take_length]
  have hk : ∀ i, i < dist ax ay bx by' → wl (pos ax ay bx by' (i + 1)) = false := fun i hi => hw _ (by have := path_mem (ax := ax) (ay := ay) (bx := bx) (by' := by') (Nat.le_refl _) hi; rwa [ht] at this)
  rw [tw_along (k := dist ax ay bx by') (Nat.le_refl _) hf hk, pos_end (Nat.le_refl _), tw_goal]
  have := path_last (ax := ax) (ay := ay) (bx := bx) (by' := by') (Nat.le_refl _)
  rw [ht, pos_end (Nat.le_refl _)] at this
  exact this
theorem keeps_step {s P B : Nat} {V V5 : World} (h : Below V.heap.size V V5) (x y m : Int) : KeepsFrom B V ((put2 V5 P x y).setCell ⟨s + 1 + 1 + 1, 0, none⟩ (.int .i64 m)).drew :=
  (keeps_below h).trans (((((KeepsOthers.setCell _ _ _).trans (KeepsOthers.setCell _ _ _)).trans (KeepsOthers.setCell _ _ _)).trans (KeepsOthers.drew _)).from _)
theorem kc_step {s P : Nat} {V V5 : World} (hs : s ≤ V.heap.size) (hP : s ≤ P) (h : Below V.heap.size V V5) (x y m : Int) : KC [P, s + 1 + 1 + 1] s V ((put2 V5 P x y).setCell ⟨s + 1 + 1 + 1, 0, none⟩ (.int .i64 m)).drew := by
  have h1 := (((KC.of_below (K := [P, s + 1 + 1 + 1]) h hs).trans (KC.set V5 P 0 (.int .i64 x) (by simp) hP)).trans (KC.set _ P 1 (.int .i64 y) (by simp) hP)).trans (KC.set _ (s + 1 + 1 + 1) 0 (.int .i64 m) (by simp) (by omega))
  exact ⟨h1.1.drew, h1.2⟩
theorem num0 {V : World} {s : Nat} {n : Int} (h : Boxed V s 3 (.int .i64 n)) : Boxed V s 3 (.int .i64 (n - (([] : List (Int × Int)).length : Int))) := by
  have e : n - (([] : List (Int × Int)).length : Int) = n := by simp
  rw [e]; exact h

/-- The activation in a round. -/
abbrev actx (W H : Int) (A : Option Addr) (k c : Nat) (ax ay bx by' n : Int) (s P Bx : Nat) (x : Int × Int) : Act :=
  { tmps := #[gv W H A k c, pv ax ay, pv bx by', .int .i64 n,
          .pointer (some { block := s, off := 0 }),
          .pointer (some { block := s + 1, off := 0 }),
          .pointer (some { block := s + 1 + 1, off := 0 }),
          .pointer (some { block := s + 1 + 1 + 1, off := 0 }),
          .pointer (some { block := s + 1 + 1 + 1 + 1, off := 0 }),
          .pointer (some { block := P, off := 0 }), .pointer (some ⟨Bx, 0, none⟩),
          gv W H A k c, pv ax ay, .bool true, .bool false,
          .bool false, gv W H A k c, pv bx by', .bool true, .bool false,
          .bool false, undef, pv ax ay, pv ax ay, pv bx by',
          .func (.func 35) #[] #[.pointer (some { block := P + 1, off := 0 }), .pointer (some { block := P + 1 + 1, off := 0 })],
          pv x.1 x.2, undef, undef, undef, undef, undef, undef, undef, undef, undef, undef, undef], defers := [] }
def Ax (W H : Int) (A : Option Addr) (k c : Nat) (ax ay bx by' n : Int) (s P : Nat) (x : Int × Int) (a' : Act) (V : World) : Prop :=
  ∃ Bx, P < Bx ∧ BoxP V Bx x.1 x.2 ∧ a' = actx W H A k c ax ay bx by' n s P Bx x

theorem stops {ax ay bx by' : Int} (a1 : 0 ≤ ax ∧ ax ≤ 256) (a2 : 0 ≤ ay ∧ ay ≤ 256) (a3 : 0 ≤ bx ∧ bx ≤ 256) (a4 : 0 ≤ by' ∧ by' ≤ 256) {W0 : World} {Ba Bb n₀ : Nat} {K : List Nat} (hBa : BoxP W0 Ba ax ay) (hBb : BoxP W0 Bb bx by') (hK : ∀ k ∈ K, k < Bb) :
    SeqStopsK Fence.wide 2 Try.prog 35 #[.pointer (some ⟨Ba, 0, none⟩), .pointer (some ⟨Bb, 0, none⟩)] (fun x : Int × Int => #[pv x.1 x.2]) (KC K n₀) (fun ys => ys = path ax ay bx by') (fun pre => pre <+: path ax ay bx by') (path ax ay bx by').length W0 :=
  fun l J Jx W hW hJ _ hY h0 => steps1_in 2 (by omega) l Ba Bb n₀ K ax ay bx by' J Jx a1 a2 a3 a4 hK W (hBb.kept (hW.block _ hBb.lt)) (hBa.kept (hW.block _ hBa.lt)) (fun s W1 W2 h hg => hJ s W1 W2 _ h hg (fun r e => by cases e)) hY h0

set_option maxRecDepth 100000 in
set_option maxHeartbeats 4000000 in
theorem toward_yes (W H : Int) (A : Option Addr) (l : List Bool) (c : Nat) (ax ay bx by' n : Int) (w : World) (B : Nat) (hl : RB w B A l) (hB0 : B ≤ w.heap.size) (hn : Fits n)
    (ha : inB W H l.length ax ay = true) (hb : inB W H l.length bx by' = true) :
    Calls Try.prog 15 #[gv W H A l.length c, pv ax ay, pv bx by', .int .i64 n] w fun e w' =>
      e = .returned (pv (tw (fun p => wallB W H l p.1 p.2) (bx, by') n.toNat (ax, ay)).1 (tw (fun p => wallB W H l p.1 p.2) (bx, by') n.toNat (ax, ay)).2) ∧ Below w.heap.size w w' := by
  have hb0 := opened_below W H A l.length c ax ay bx by' n w
  have hr0 := opened_box W H A l.length c ax ay bx by' n w
  have HA := Lib.hid ha
  have HBb := Lib.hid hb
  have HR := Lib.hid hr0; clear hr0
  refine (callsIn_wide (n := 3)).1 ?_
  refine callsIn_of_wp_marks Try.func15 rfl trivial ?_ rfl
  simp only [Try.ntmps15, List.size_toArray, List.length_cons, List.length_nil, Nat.reduceAdd, Nat.reduceSub, Array.replicate_succ, Array.replicate_zero, List.push_toArray, List.append_toArray, List.nil_append, List.cons_append]
  refine wpIn_wide.2 ?_
  go_wp2
  go_step3
  go_wp2_with (first
    | ((with_reducible refine (in_any W H A l.length c ax ay _).mono ?_); rintro e w1 ⟨rfl, hB⟩; obtain ⟨hc1, hf1⟩ := bcell hB; have hz1 := five hB.size; obtain ⟨z0, z1, z2, z3, z4⟩ := hz1; have HB := Lib.hid hB; clear hB)
    | ((with_reducible refine (in_any W H A l.length c bx by' _).mono ?_); rintro e w2 ⟨rfl, hB2⟩; obtain ⟨hc2, hf2⟩ := bcell hB2; obtain ⟨y0, y1, y2, y3, y4⟩ := five' z4 hB2.size; have HB2 := Lib.hid hB2; clear hB2))
  go_step3
  go_wp2_with (first
    | ((with_reducible refine (seq_any ax ay bx by' _).mono ?_); rintro e w3 ⟨rfl, rfl⟩))
  have a1 := at_in ha
  have a2 := at_in hb
  have bP : BoxP (((w2.alloc (.cells #[.int .i64 ax, .int .i64 ay] 23)).alloc (.cells #[.int .i64 ax, .int .i64 ay] 23)).alloc (.cells #[.int .i64 bx, .int .i64 by'] 23)) w2.heap.size ax ay := old_at (old_at (new_at _ _ rfl))
  have bA : BoxP (((w2.alloc (.cells #[.int .i64 ax, .int .i64 ay] 23)).alloc (.cells #[.int .i64 ax, .int .i64 ay] 23)).alloc (.cells #[.int .i64 bx, .int .i64 by'] 23)) (w2.heap.size + 1) ax ay := old_at (new_at _ _ (by simp))
  have bB : BoxP (((w2.alloc (.cells #[.int .i64 ax, .int .i64 ay] 23)).alloc (.cells #[.int .i64 ax, .int .i64 ay] 23)).alloc (.cells #[.int .i64 bx, .int .i64 by'] 23)) (w2.heap.size + 1 + 1) bx by' := new_at _ _ (by simp)
  have hU : Below (opened W H A l.length c ax ay bx by' n w).heap.size (opened W H A l.length c ax ay bx by' n w) (((w2.alloc (.cells #[.int .i64 ax, .int .i64 ay] 23)).alloc (.cells #[.int .i64 ax, .int .i64 ay] 23)).alloc (.cells #[.int .i64 bx, .int .i64 by'] 23)) :=
    (((HB.out.trans (HB2.out.mono HB.out.size)).alloc (Nat.le_trans HB.out.size HB2.out.size) _).alloc (by simp; have := Nat.le_trans HB.out.size HB2.out.size; simp at this; omega) _).alloc (by simp; have := Nat.le_trans HB.out.size HB2.out.size; simp at this; omega) _
  have hM : Mid W H A l c (ax, ay) n w w2.heap.size [] (((w2.alloc (.cells #[.int .i64 ax, .int .i64 ay] 23)).alloc (.cells #[.int .i64 ax, .int .i64 ay] 23)).alloc (.cells #[.int .i64 bx, .int .i64 by'] 23)) :=
    ⟨by simp, by simp, bP, num0 ((hU.block _ (opened_n W H A l.length c ax ay bx by' n w).lt).trans (opened_n W H A l.length c ax ay bx by' n w)),
      (hU.block _ (by simp <;> omega)).trans (opened_g W H A l.length c ax ay bx by' n w), HR.out.kept (hU.block _ HR.out.lt), hb0.trans (hU.mono hb0.size)⟩
  have hsz : (((w2.alloc (.cells #[.int .i64 ax, .int .i64 ay] 23)).alloc (.cells #[.int .i64 ax, .int .i64 ay] 23)).alloc (.cells #[.int .i64 bx, .int .i64 by'] 23)).heap.size = w2.heap.size + 1 + 1 + 1 := by simp
  have HSZ := Lib.hid hsz; clear hsz
  have hP : w.heap.size + 1 + 1 + 1 + 1 < w2.heap.size := y4
  clear hU
  generalize (((w2.alloc (.cells #[.int .i64 ax, .int .i64 ay] 23)).alloc (.cells #[.int .i64 ax, .int .i64 ay] 23)).alloc (.cells #[.int .i64 bx, .int .i64 by'] 23)) = W0 at bP bA bB hM HSZ ⊢
  generalize w2.heap.size = P at bP bA bB hM HSZ hP ⊢
  clear hc1 hf1 hc2 hf2 z0 z1 z2 z3 z4 y0 y1 y2 y3 y4 HB HB2
  refine (wpIn_wide (n := 3)).1 ?_
  refine wpIn_rangeFunc_ownH rfl (by omega) (gf := 35) (lb := #[.pointer (some ⟨P + 1, 0, none⟩), .pointer (some ⟨P + 1 + 1, 0, none⟩)]) rfl trivial (enters_of Try.func35 (by kernel_rfl) rfl)
    (stops (n₀ := w.heap.size) (K := [P, w.heap.size + 1 + 1 + 1]) (by omega) (by omega) (by omega) (by omega) bA bB (by simp; omega))
    (fun h k => h.trans k) (fun V k o o' hk h hc _ => KC.putObj (m := W0.heap.size) (by have := HSZ.out; omega) V k o o' hk h hc) (Below.refl _ _) (fun _ => rfl)
    (Mid W H A l c (ax, ay) n w P) (Out W H A l c (ax, ay) n w P) (mid_own (by have := HSZ.out; omega)) (fun cd => out_own (by have := HSZ.out; omega) cd) hM
    (Ax W H A l.length c ax ay bx by' n w.heap.size P) (fun x a' _ X Y row hs hg hr => by obtain ⟨Bx, h1, h2, h3⟩ := hs; exact ⟨Bx, h1, own_at h2 hg hr, h3⟩) ?assign ?body ?done ?stop
  case assign =>
    rintro l' pre x V K hI hK
    gi_wp2
    exact hK _ _ ((KeepsOthers.alloc _ _).from _) (KC.of_below ((Below.refl _ V).alloc (Nat.le_refl _) _) hI.below.size) (hI.of ((Below.refl _ V).alloc (Nat.le_refl _) _)) ⟨V.heap.size, hI.at'.lt, BoxP.new V _ _, rfl⟩
  case body =>
    rintro l' pre x a' V hl' hr' hI ⟨Bx, hBx, bX, rfl⟩ hlt
    have e0 := hI.num.cell
    have hpl := hI.few
    have hI' := Lib.hid hI
    by_cases hm : n - (pre.length : Int) ≤ 0
    · have HM := Lib.hid hm
      have m1 : decide (n - (pre.length : Int) ≤ 0) = true := by simpa using hm
      have m2 : n ≤ (pre.length : Int) := by omega
      gi_wp2
      refine ⟨trivial, ?_⟩
      gi_wp2
      exact ⟨KeepsFrom.refl _ _, rfl, pre, x, rfl, hI'.out, .inl (by omega)⟩
    · have m1 : decide (n - (pre.length : Int) ≤ 0) = false := by simpa using hm
      have g0 : V.cell? ⟨w.heap.size, 0, none⟩ = some (.int .i64 W) := by simp [World.cell?, hI.grid]
      have g1 : V.cell? ⟨w.heap.size, 1, none⟩ = some (.int .i64 H) := by simp [World.cell?, hI.grid]
      have g2 : V.cell? ⟨w.heap.size, 2, none⟩ = some (.slice A l.length c) := by simp [World.cell?, hI.grid]
      have x0 := bX.cell0
      have x1 := bX.cell1
      have hRB := Lib.hid (hl.below hI.below hB0)
      have hBV := Nat.le_trans hB0 hI.below.size
      clear hI hl
      cases hw : wallB W H l x.1 x.2 with
      | true =>
        gi_wp2_with (first
          | (refine ⟨trivial, ?_⟩; gi_at_call 18; refine (CallsIn.inRound l' (callsIn_wide.2 (wall_any W H A l c x.1 x.2 _ B hRB.out hBV))).mono ?_; rintro e w5 ⟨rfl, hB5⟩))
        exact ⟨keeps_below hB5, rfl, pre, x, rfl, hI'.out.of hB5, .inr hw⟩
      | false =>
        gi_wp2_with (first
          | (refine ⟨trivial, ?_⟩; gi_at_call 18; refine (CallsIn.inRound l' (callsIn_wide.2 (wall_any W H A l c x.1 x.2 _ B hRB.out hBV))).mono ?_; rintro e w5 ⟨rfl, hB5⟩))
        have hI5 := hI'.out.of hB5
        have b5 := hI5.at'
        have n5 := hI5.num
        have bX5 := bX.kept (hB5.block _ bX.lt)
        have hI5' := Lib.hid hI5; clear hI5
        have q0 := bX5.cell0
        have q1 := bX5.cell1
        have q2 := b5.cell0
        have q3 := b5.cell1
        have q4 := n5.cell
        have q5 := b5.frozen 0
        have q6 := b5.frozen 1
        have q7 := n5.frozen
        have m3 : IntKind.i64.wrap (n - (pre.length : Int) - 1) = n - (pre.length : Int) - 1 := IntWalk.i64_in _ (by unfold Fits at hn; omega)
        have hmx : Try.prog.follows .mixedOrders = true := by kernel_rfl
        clear x0 x1 g0 g1 g2 e0
        gi_region_with_o (fail)
        all_goals gi_wp2
        all_goals exact ⟨keeps_step hB5 _ _ _, kc_step hI'.out.below.size (by omega) hB5 _ _ _, mid_step hI5'.out hw hm hP⟩
  case done =>
    rintro D ys V hD rfl hM1 hK
    have b5 := hM1.at'
    have q2 := b5.cell0
    have q3 := b5.cell1
    have q6 := hM1.res.frozen 0
    have q7 := hM1.res.frozen 1
    have q8 := hM1.res.cell0
    have q9 := hM1.res.cell1
    have fin := fin_done hM1.walls hM1.few
    generalize (path ax ay bx by').getLastD (ax, ay) = z at b5 q2 q3 fin
    have FIN := Lib.hid fin; clear fin
    gi_wp2
    go_wp2
    rw [Exit.noGoto_ret]
    have hK' := ((KeepsOthers.setCell V ⟨w.heap.size + 1 + 1 + 1 + 1, 0, none⟩ (.int .i64 z.1)).trans (KeepsOthers.setCell _ ⟨w.heap.size + 1 + 1 + 1 + 1, 1, none⟩ (.int .i64 z.2))).same D _ hK rfl
    have hbx := hM1.res.put z.1 z.2
    have hq := own_at (B := 0) hbx (grownBy_putObj' _ D (.deferred none)) (fun r e => by cases e; exact ⟨Nat.zero_le _, _, hK', rfl⟩)
    have q4 := BoxP.cell0 hq
    have q5 := BoxP.cell1 hq
    refine ⟨by simp, .inl ⟨_, _, rfl, run_takeDeferred hK', ?_⟩⟩
    refine ⟨pv z.1 z.2, by simp [results, Try.f15, go_sem, q4, q5], by rw [FIN.out], ?_⟩
    exact ((hM1.below.setCell (p := ⟨w.heap.size + 1 + 1 + 1 + 1, 0, none⟩) (by show w.heap.size ≤ w.heap.size + 1 + 1 + 1 + 1; omega) _).setCell (p := ⟨w.heap.size + 1 + 1 + 1 + 1, 1, none⟩) (by show w.heap.size ≤ w.heap.size + 1 + 1 + 1 + 1; omega) _).trans (belowK_b (w := w) (Nat.le_refl _) _ D _ _ (by have := HSZ.out; omega) hK' rfl rfl)
  case stop =>
    rintro D cd pre' V hD hpre ⟨rfl, pre, x, rfl, hM1, ho⟩ hK
    have b5 := hM1.at'
    have q2 := b5.cell0
    have q3 := b5.cell1
    have q6 := hM1.res.frozen 0
    have q7 := hM1.res.frozen 1
    have q8 := hM1.res.cell0
    have q9 := hM1.res.cell1
    have fin := fin_stop hpre hM1.walls hM1.few ho
    generalize pre.getLastD (ax, ay) = z at b5 q2 q3 fin
    have FIN := Lib.hid fin; clear fin
    gi_wp2
    go_wp2
    rw [Exit.noGoto_ret]
    have hK' := ((KeepsOthers.setCell V ⟨w.heap.size + 1 + 1 + 1 + 1, 0, none⟩ (.int .i64 z.1)).trans (KeepsOthers.setCell _ ⟨w.heap.size + 1 + 1 + 1 + 1, 1, none⟩ (.int .i64 z.2))).same D _ hK rfl
    have hbx := hM1.res.put z.1 z.2
    have hq := own_at (B := 0) hbx (grownBy_putObj' _ D (.deferred none)) (fun r e => by cases e; exact ⟨Nat.zero_le _, _, hK', rfl⟩)
    have q4 := BoxP.cell0 hq
    have q5 := BoxP.cell1 hq
    refine ⟨by simp, .inl ⟨_, _, rfl, run_takeDeferred hK', ?_⟩⟩
    refine ⟨pv z.1 z.2, by simp [results, Try.f15, go_sem, q4, q5], by rw [FIN.out], ?_⟩
    exact ((hM1.below.setCell (p := ⟨w.heap.size + 1 + 1 + 1 + 1, 0, none⟩) (by show w.heap.size ≤ w.heap.size + 1 + 1 + 1 + 1; omega) _).setCell (p := ⟨w.heap.size + 1 + 1 + 1 + 1, 1, none⟩) (by show w.heap.size ≤ w.heap.size + 1 + 1 + 1 + 1; omega) _).trans (belowK_b (w := w) (Nat.le_refl _) _ D _ _ (by have := HSZ.out; omega) hK' rfl rfl)

theorem toward_any (W H : Int) (A : Option Addr) (l : List Bool) (c : Nat) (ax ay bx by' n : Int) (w : World) (B : Nat) (hl : RB w B A l) (hB0 : B ≤ w.heap.size) (hn : Fits n) :
    Calls Try.prog 15 #[gv W H A l.length c, pv ax ay, pv bx by', .int .i64 n] w fun e w' =>
      e = .returned (pv (tow W H l ax ay bx by' n).1 (tow W H l ax ay bx by' n).2) ∧ Below w.heap.size w w' := by
  cases hI : inB W H l.length ax ay && inB W H l.length bx by' with
  | false =>
    refine (toward_no W H A l c ax ay bx by' n w hI).mono fun e w' h => ?_
    unfold tow
    rw [hI]
    exact h
  | true =>
    have h2 := hI
    rw [Bool.and_eq_true] at h2
    refine (toward_yes W H A l c ax ay bx by' n w B hl hB0 hn h2.1 h2.2).mono fun e w' h => ?_
    unfold tow
    rw [hI]
    exact h
end Go.Proofs.Ytccfoeokadggaaa.Con
