/-
  The contract of First: for every grid whose walls read as a list and every two tiles: the wall between them that is nearest to the first, of alike ones the first of the line; only new memory is made.
-/
import Derived.Test.YtiggpmennomplaaSee
import Derived.Test.YtiggpmennomplaaBrg
namespace Go.Proofs.Ytiggpmennomplaa.Con
open Go.RowKit Go.Shelf Lin Arn
attribute [local go_sem] Oper.semAt_some

/-- The nearest so far, and one more. -/
def stepB (ax ay : Int) (o : Option Tile) (q : Tile) : Option Tile :=
  match o with
  | none => some q
  | some p => if sqr ax ay q.1.1 q.1.2 < sqr ax ay p.1.1 p.1.2 then some q else some p
def bestB (ax ay : Int) (l : List Tile) : Option Tile := l.foldl (stepB ax ay) none
theorem best_snoc (ax ay : Int) (l : List Tile) (q : Tile) : bestB ax ay (l ++ [q]) = stepB ax ay (bestB ax ay l) q := by unfold bestB; rw [List.foldl_append]; rfl
/-- What First tells. -/
def firstB (W H : Int) (l : List Bool) (ax ay bx by' : Int) : Option Tile := if bothB W H l.length ax ay bx by' = true then bestB ax ay (wallsL W H l ax ay bx by') else none
def ox (o : Option Tile) : Int := match o with | none => 0 | some p => p.1.1
def oy (o : Option Tile) : Int := match o with | none => 0 | some p => p.1.2

/-- What holds between two rounds. -/
structure FMid (w : World) (ax ay : Int) (R F G : Nat) (pre : List Tile) (V : World) : Prop where
  now : ∃ o, Hid (bestB ax ay pre = o) ∧ BoxP V F (ox o) (oy o) ∧ Boxed V G 4 (.bool o.isSome)
  a : BoxP V (w.heap.size + 1) ax ay
  res : BoxP V R 0 0
  below : Below w.heap.size w V
  top : F + 5 ≤ V.heap.size
theorem fmid_own {w : World} {ax ay : Int} {R F G B : Nat} (hB : w.heap.size ≤ B) : OwnFrom B (FMid w ax ay R F G) :=
  fun _ _ _ _ h hg hr => ⟨by obtain ⟨o, h1, h2, h3⟩ := h.now; exact ⟨o, h1, own_at h2 hg hr, own_at h3 hg hr⟩, own_at h.a hg hr, own_at h.res hg hr, h.below.grown hg h.below.size (fun k e => Nat.le_trans hB (hr k e).1), Nat.le_trans h.top hg.size⟩
theorem FMid.of {w : World} {ax ay : Int} {R F G : Nat} {pre : List Tile} {V V' : World} (h : FMid w ax ay R F G pre V) (hb : Below V.heap.size V V') : FMid w ax ay R F G pre V' := by
  obtain ⟨o, h1, h2, h3⟩ := h.now
  exact ⟨⟨o, h1, h2.kept (hb.block _ h2.lt), (hb.block _ h3.lt).trans h3⟩, h.a.kept (hb.block _ h.a.lt), h.res.kept (hb.block _ h.res.lt), h.below.trans (hb.mono h.below.size), Nat.le_trans h.top hb.size⟩
theorem FMid.no {w : World} {ax ay : Int} {R F G : Nat} {pre : List Tile} {V : World} {q p : Tile} (h : FMid w ax ay R F G pre V) (hp : bestB ax ay pre = some p) (hq : ¬ sqr ax ay q.1.1 q.1.2 < sqr ax ay p.1.1 p.1.2) : FMid w ax ay R F G (pre ++ [q]) V := by
  obtain ⟨o, h1, h2, h3⟩ := h.now
  have e := h1.out
  rw [hp] at e
  subst e
  exact ⟨⟨some p, Lib.hid (by rw [best_snoc, hp]; exact if_neg hq), h2, h3⟩, h.a, h.res, h.below, h.top⟩
theorem FMid.yes {w : World} {ax ay : Int} {R F G : Nat} {pre : List Tile} {V : World} {q : Tile} (h : FMid w ax ay R F G pre V) (hq : bestB ax ay (pre ++ [q]) = some q) (hF : w.heap.size + 1 < F) (hG : w.heap.size + 1 < G) (hFG : F ≠ G) (hR : R ≠ F ∧ R ≠ G) :
    FMid w ax ay R F G (pre ++ [q]) ((put2 V F q.1.1 q.1.2).setCell ⟨G, 0, none⟩ (.bool true)) := by
  obtain ⟨o, h1, h2, h3⟩ := h.now
  have other : ∀ {B : Nat} {x y : Int}, BoxP V B x y → B ≠ F → B ≠ G → BoxP ((put2 V F q.1.1 q.1.2).setCell ⟨G, 0, none⟩ (.bool true)) B x y := fun hb n1 n2 => (hb.put_other n1 q.1.1 q.1.2).kept (Below.heap_setCell _ ⟨G, 0, none⟩ _ _ n2)
  refine ⟨⟨some q, Lib.hid hq, (h2.put q.1.1 q.1.2).kept (Below.heap_setCell _ ⟨G, 0, none⟩ _ _ hFG), ?_⟩, other h.a (by omega) (by omega), other h.res hR.1 hR.2,
    ((h.below.setCell (p := ⟨F, 0, none⟩) (by show w.heap.size ≤ F; omega) _).setCell (p := ⟨F, 1, none⟩) (by show w.heap.size ≤ F; omega) _).setCell (p := ⟨G, 0, none⟩) (by show w.heap.size ≤ G; omega) _, by simpa using h.top⟩
  have h4 : Boxed (put2 V F q.1.1 q.1.2) G 4 (.bool o.isSome) := ((Below.heap_setCell _ ⟨F, 1, none⟩ _ _ (Ne.symm hFG)).trans (Below.heap_setCell _ ⟨F, 0, none⟩ _ _ (Ne.symm hFG))).trans h3
  exact Boxed.set _ h4
theorem first_keeps {V : World} {F G B n₀ s0 s1 : Nat} (x y : Int) (v : Value) (h1 : n₀ ≤ F) (h2 : n₀ ≤ G) (hF : F < s0) (hG : G < s0) (hs : s0 ≤ B) :
    KeepsAt B V ((put2 V F x y).setCell ⟨G, 0, none⟩ v) ∧ KS n₀ s0 s1 V ((put2 V F x y).setCell ⟨G, 0, none⟩ v) := by
  have blk : ∀ k, k ≠ F → k ≠ G → ((put2 V F x y).setCell ⟨G, 0, none⟩ v).heap[k]? = V.heap[k]? := fun k n1 n2 => (Below.heap_setCell _ ⟨G, 0, none⟩ _ _ n2).trans ((Below.heap_setCell _ ⟨F, 1, none⟩ _ _ n1).trans (Below.heap_setCell _ ⟨F, 0, none⟩ _ _ n1))
  exact ⟨⟨by simp, fun k hk _ => blk k (by omega) (by omega)⟩, (((Below.refl n₀ V).setCell (p := ⟨F, 0, none⟩) h1 _).setCell (p := ⟨F, 1, none⟩) h1 _).setCell (p := ⟨G, 0, none⟩) h2 _, fun k h0 _ => blk k (by omega) (by omega)⟩

theorem FMid.fin {w : World} {ax ay : Int} {R F B : Nat} {pre : List Tile} {V V' : World} {q : Tile} (h : FMid w ax ay R F (F + 1) pre V) (hb : Below V.heap.size V V') (hq : bestB ax ay (pre ++ [q]) = some q) (hF : w.heap.size + 1 < F) (hR : R < F) (hB : B = F + 5) :
    KeepsAt B V ((put2 V' F q.1.1 q.1.2).setCell ⟨F + 1, 0, none⟩ (.bool true)) ∧ KS w.heap.size (F + 1 + 1) (F + 1 + 1 + 3) V ((put2 V' F q.1.1 q.1.2).setCell ⟨F + 1, 0, none⟩ (.bool true)) ∧ FMid w ax ay R F (F + 1) (pre ++ [q]) ((put2 V' F q.1.1 q.1.2).setCell ⟨F + 1, 0, none⟩ (.bool true)) := by
  have h1 := first_keeps (V := V') (F := F) (G := F + 1) (B := B) (n₀ := w.heap.size) (s0 := F + 1 + 1) (s1 := F + 1 + 1 + 3) q.1.1 q.1.2 (.bool true) (by omega) (by omega) (by omega) (by omega) (by omega)
  exact ⟨(KeepsAt.of_below hb).trans h1.1, (KS.of_below hb h.below.size (by have := h.top; omega)).trans h1.2, (h.of hb).yes hq hF (by omega) (by omega) ⟨by omega, by omega⟩⟩
theorem FMid.fin2 {w : World} {ax ay : Int} {R F B : Nat} {pre : List Tile} {V V' : World} {q p : Tile} (h : FMid w ax ay R F (F + 1) pre V) (hb : Below V.heap.size V V') (hp : bestB ax ay pre = some p) (hq : ¬ sqr ax ay q.1.1 q.1.2 < sqr ax ay p.1.1 p.1.2) :
    KeepsAt B V V' ∧ KS w.heap.size (F + 1 + 1) (F + 1 + 1 + 3) V V' ∧ FMid w ax ay R F (F + 1) (pre ++ [q]) V' :=
  ⟨KeepsAt.of_below hb, KS.of_below hb h.below.size (by have := h.top; omega), (h.of hb).no hp hq⟩
abbrev act9 (W H : Int) (A : Option Addr) (n c : Nat) (ax ay bx by' : Int) (s R F G P Bx : Nat) (x : Tile) : Act :=
  { tmps := #[gv W H A n c, pv ax ay, pv bx by', pt s, pt (s + 1), pt (s + 1 + 1), pt R, .bool false, pt F, pt G, pt Bx, gv W H A n c, pv ax ay, pv bx by', .bool true, .bool false, undef, gv W H A n c, pv ax ay, pv bx by', .func (.func 38) #[] #[pt (P + 1), pt (P + 1 + 1), pt P], pv x.1.1 x.1.2,
      undef, undef, undef, undef, undef, undef, undef, undef, undef, undef, undef, undef, undef, undef], defers := [] }
def Ax9 (W H : Int) (A : Option Addr) (n c : Nat) (ax ay bx by' : Int) (s R F G P : Nat) (x : Tile) (a' : Act) (V : World) : Prop := ∃ Bx, BoxP V Bx x.1.1 x.1.2 ∧ a' = act9 W H A n c ax ay bx by' s R F G P Bx x

abbrev gabF (W H : Int) (A : Option Addr) (n c : Nat) (ax ay bx by' : Int) (w : World) : World := (gab W H A n c ax ay bx by' w).alloc (.cells #[.int .i64 0, .int .i64 0] 26)
theorem gabF_below (W H : Int) (A : Option Addr) (n c : Nat) (ax ay bx by' : Int) (w : World) : Below w.heap.size w (gabF W H A n c ax ay bx by' w) := (gab_below W H A n c ax ay bx by' w).alloc (by simp; omega) _
theorem gabF_g3 (W H : Int) (A : Option Addr) (n c : Nat) (ax ay bx by' : Int) (w : World) : G3 W H A n c ax ay bx by' w.heap.size (gabF W H A n c ax ay bx by' w) := (gab_g3 W H A n c ax ay bx by' w).of ((Below.refl _ _).alloc (Nat.le_refl _) _)
theorem gabF_r (W H : Int) (A : Option Addr) (n c : Nat) (ax ay bx by' : Int) (w : World) : BoxP (gabF W H A n c ax ay bx by' w) (w.heap.size + 1 + 1 + 1) 0 0 := new_at _ _ (by simp)
theorem three3 {m k : Nat} (h : m + 1 + 1 + 1 < k) : m < k ∧ m + 1 < k ∧ m + 1 + 1 < k := by omega
theorem fcells {V V' : World} {F G a Bx : Nat} {fx fy ax ay x y : Int} {v : Value} (hF : BoxP V F fx fy) (hG : Boxed V G 4 v) (ha : BoxP V a ax ay) (hX : BoxP V Bx x y) (hb : Below V.heap.size V V') :
    V'.cell? ⟨F, 0, none⟩ = some (.int .i64 fx) ∧ V'.cell? ⟨F, 1, none⟩ = some (.int .i64 fy) ∧ V'.cell? ⟨G, 0, none⟩ = some v ∧ V'.cell? ⟨a, 0, none⟩ = some (.int .i64 ax) ∧ V'.cell? ⟨a, 1, none⟩ = some (.int .i64 ay) ∧ V'.cell? ⟨Bx, 0, none⟩ = some (.int .i64 x) ∧ V'.cell? ⟨Bx, 1, none⟩ = some (.int .i64 y) ∧ V'.frozen? ⟨F, 0, none⟩ = false ∧ V'.frozen? ⟨F, 1, none⟩ = false ∧ V'.frozen? ⟨G, 0, none⟩ = false :=
  ⟨(hF.kept (hb.block _ hF.lt)).cell0, (hF.kept (hb.block _ hF.lt)).cell1, Boxed.cell ((hb.block _ hG.lt).trans hG), (ha.kept (hb.block _ ha.lt)).cell0, (ha.kept (hb.block _ ha.lt)).cell1, (hX.kept (hb.block _ hX.lt)).cell0, (hX.kept (hb.block _ hX.lt)).cell1, (hF.kept (hb.block _ hF.lt)).frozen 0, (hF.kept (hb.block _ hF.lt)).frozen 1, Boxed.frozen ((hb.block _ hG.lt).trans hG)⟩

abbrev UU (w1 : World) : World := (w1.alloc (.cells #[.int .i64 0, .int .i64 0] 26)).alloc (.cells #[.bool false] 4)
/-- What First hands back. -/
def firstV (o : Option Tile) : Value := .tuple #[pv (ox o) (oy o), .bool o.isSome]

set_option maxRecDepth 100000 in
set_option maxHeartbeats 4000000 in
theorem First_any (W H : Int) (A : Option Addr) (l : List Bool) (c : Nat) (ax ay bx by' : Int) (w : World) (hrb : RB w w.heap.size A l) :
    Calls Try.prog 9 #[gv W H A l.length c, pv ax ay, pv bx by'] w fun e w' => e = .returned (firstV (firstB W H l ax ay bx by')) ∧ Below w.heap.size w w' := by
  have hb := gabF_below W H A l.length c ax ay bx by' w
  have hg := gabF_g3 W H A l.length c ax ay bx by' w
  have hr := gabF_r W H A l.length c ax ay bx by' w
  have HG := Lib.hid hg; clear hg
  have HR := Lib.hid hr; clear hr
  have hbo : ∀ w : World, Calls Try.prog 23 #[gv W H A l.length c, pv ax ay, pv bx by'] w fun e w' => e = .returned (.bool (bothB W H l.length ax ay bx by')) ∧ Below w.heap.size w w' := fun w => bothIn_any W H A l.length c ax ay bx by' w
  unfold firstB
  cases ht : bothB W H l.length ax ay bx by' with
  | false =>
    rw [ht] at hbo
    have HB := Lib.hid hbo; clear hbo ht
    go_enter Try.func9, Try.ntmps9
    go_wp2_with (first | ((with_reducible refine (HB.out _).mono ?_); rintro e w1 ⟨rfl, hB⟩; have hR1 := HR.out.kept (hB.block _ HR.out.lt); have hc0 := hR1.cell0; have hc1 := hR1.cell1; have hf0 := hR1.frozen 0; have hf1 := hR1.frozen 1))
    have hR2 := hR1.put 0 0
    have q0 := hR2.cell0
    have q1 := hR2.cell1
    refine bodyPost_ret (v := firstV none) (by simp [results, Try.results9, go_sem, q0, q1]; try rfl) rfl ?_
    exact ⟨by simp, ((hb.trans (hB.mono hb.size)).setCell (p := ⟨w.heap.size + 1 + 1 + 1, 0, none⟩) (by show w.heap.size ≤ w.heap.size + 1 + 1 + 1; omega) _).setCell (p := ⟨w.heap.size + 1 + 1 + 1, 1, none⟩) (by show w.heap.size ≤ w.heap.size + 1 + 1 + 1; omega) _⟩
  | true =>
    rw [ht] at hbo
    have HB := Lib.hid hbo; clear hbo
    rw [if_pos rfl]
    refine (callsIn_wide (n := 5)).1 ?_
    refine callsIn_of_wp_marks Try.func9 rfl trivial ?_ rfl
    simp only [Try.ntmps9, List.size_toArray, List.length_cons, List.length_nil, Nat.reduceAdd, Nat.reduceSub, Array.replicate_succ, Array.replicate_zero, List.push_toArray, List.append_toArray, List.nil_append, List.cons_append]
    refine wpIn_wide.2 ?_
    go_wp2_with (first
      | ((with_reducible refine (HB.out _).mono ?_); rintro e w1 ⟨rfl, hB⟩; obtain ⟨c0, c1, c2, c3, c4, c5, c6⟩ := (HG.out.of hB).cells; have z3 : w.heap.size + 1 + 1 + 1 < w1.heap.size := (HR.out.kept (hB.block _ HR.out.lt)).lt; obtain ⟨z0, z1, z2⟩ := three3 z3; have HB1 := Lib.hid hB; clear hB)
      | ((with_reducible refine (walls_any W H A l.length c ax ay bx by' _).mono ?_); rintro e w2 ⟨rfl, hw2⟩))
    have hU : Below w1.heap.size w1 (UU w1) := ((Below.refl _ w1).alloc (Nat.le_refl _) _).alloc (by simp) _
    have hUs : (UU w1).heap.size = w1.heap.size + 1 + 1 := by simp
    have hg2 := gab_g3 W H A l.length c ax ay bx by' (UU w1)
    have hw3 := gab_below W H A l.length c ax ay bx by' (UU w1)
    rw [hUs] at hg2 hw3
    have hb2 : Below w1.heap.size w1 (gab W H A l.length c ax ay bx by' (UU w1)) := hU.trans (hw3.mono (by omega))
    have hbw : Below w.heap.size w w1 := hb.trans (HB1.out.mono hb.size)
    have hbw2 := hbw.trans (hb2.mono hbw.size)
    have hrb2 : RB (gab W H A l.length c ax ay bx by' (UU w1)) w.heap.size A l := hrb.kept hbw2
    have hM0 : FMid w ax ay (w.heap.size + 1 + 1 + 1) w1.heap.size (w1.heap.size + 1) [] (gab W H A l.length c ax ay bx by' (UU w1)) :=
      ⟨⟨none, Lib.hid rfl, old_at (old_at (old_at (old_at (new_at _ _ rfl)))), old_at (old_at (old_at (new_at _ _ (by simp))))⟩,
        (HG.out.of HB1.out).a.kept (hb2.block _ (HG.out.of HB1.out).a.lt), (HR.out.kept (HB1.out.block _ HR.out.lt)).kept (hb2.block _ (HR.out.kept (HB1.out.block _ HR.out.lt)).lt), hbw2, by simp⟩
    have hsz : (gab W H A l.length c ax ay bx by' (UU w1)).heap.size = w1.heap.size + 5 := by simp
    have HSZ := Lib.hid hsz
    have hin := both_in ht
    have fa1 : Fits ax := by unfold Fits; omega
    have fa2 : Fits ay := by unfold Fits; omega
    clear hw3 hU hUs hb2 hbw hbw2 hsz hin
    subst hw2
    generalize hw2 : gab W H A l.length c ax ay bx by' (UU w1) = w2 at hg2 hrb2 hM0 HSZ ⊢
    clear hw2 c0 c1 c2 c3 c4 c5 c6
    generalize w1.heap.size = F at hg2 hM0 HSZ z0 z1 z2 z3 ⊢
    refine (wpIn_wide (n := 5)).1 ?_
    refine rangeX (by omega) (gf := 38) (lb := #[pt (F + 1 + 1 + 1), pt (F + 1 + 1 + 1 + 1), pt (F + 1 + 1)]) rfl (enters_of Try.func38 (by kernel_rfl) rfl)
      (walls_stops ht (n₀ := w.heap.size) (s := F + 1 + 1) (by omega) hg2 hrb2) (fun h k => h.trans k)
      (fun V l o' hk => KS.putObj (m := w2.heap.size) (by have := HSZ.out; omega) (by have := HSZ.out; omega) V l o' hk) (fun _ => rfl)
      (FMid w ax ay (w.heap.size + 1 + 1 + 1) F (F + 1)) (fun _ _ _ => False) (fmid_own (by have := HSZ.out; omega)) (fun _ _ _ _ _ h _ _ => h.elim) hM0
      (Ax9 W H A l.length c ax ay bx by' w.heap.size (w.heap.size + 1 + 1 + 1) F (F + 1) (F + 1 + 1)) (fun x a' _ X Y row hs hg hr => by obtain ⟨Bx, h2, h3⟩ := hs; exact ⟨Bx, own_at h2 hg hr, h3⟩) ?assign ?body ?done ?stop
    case assign =>
      rintro l' pre x V K hI hK
      gi_wp2
      exact hK _ _ (KeepsAt.of_below ((Below.refl _ V).alloc (Nat.le_refl _) _)) (KS.of_below ((Below.refl _ V).alloc (Nat.le_refl _) _) hI.below.size (by have := hI.top; omega)) (hI.of ((Below.refl _ V).alloc (Nat.le_refl _) _)) ⟨V.heap.size, BoxP.new V _ _, rfl⟩
    case body =>
      rintro l' pre x a' V hI ⟨Bx, bX, rfl⟩
      have fx1 : Fits x.1.1 := by have := x.2.1; unfold Fits; omega
      have fx2 : Fits x.1.2 := by have := x.2.2; unfold Fits; omega
      obtain ⟨o, HO, hF, hGx⟩ := hI.now
      cases o with
      | none =>
        have HC : Hid (∀ V' : World, Below V.heap.size V V' → _) := Lib.hid (fun V' h => fcells (fx := 0) (fy := 0) (v := .bool false) hF hGx hI.a bX h)
        have HI := Lib.hid hI
        clear hI bX hF hGx
        gi_wp2
        dsimp only [act9]
        have hS0 : Below V.heap.size V V.drew := (Below.refl _ _).drew
        refine region_round (S := fun w' => Below V.heap.size V w') (by kernel_rfl) (by simp) (fun ⟨_, _, h⟩ => h) hS0 (fun _ => ?_)
        refine wpAnyH_take (i := 0) (oi := ⟨some 22, Op.load 4 (Operand.tmp 9), 4, _, _, none⟩) (v := ?vn0) rfl (by kernel_rfl) (by kernel_rfl) (by kernel_rfl) (fun _ _ _ h => h) (Or.inl ⟨by rfl, ?hn0⟩) hS0 ?rn0
        case hn0 => (intro wz hSw; obtain ⟨k0, k1, k2, k3, k4, k5, k6, k7, k8, k9⟩ := HC.out wz hSw; go_simp <;> with_reducible rfl)
        (try simp only [Act.put, List.setIfInBounds_toArray, List.set_cons_zero, List.set_cons_succ])
        refine wpAnyH_take (i := 1) (oi := ⟨some 23, Op.unOp UnOp.not 4 (Operand.tmp 22), 4, _, _, none⟩) (v := ?vn1) rfl (by kernel_rfl) (by kernel_rfl) (by kernel_rfl) (fun _ _ _ h => h) (Or.inl ⟨by rfl, ?hn1⟩) hS0 ?rn1
        case hn1 => (intro wz hSw; go_simp <;> with_reducible rfl)
        (try simp only [Act.put, List.setIfInBounds_toArray, List.set_cons_zero, List.set_cons_succ])
        refine wpAnyH_take (i := 2) (oi := ⟨some 24, Op.move (Operand.tmp 23), 4, _, _, none⟩) (v := ?vn2) rfl (by kernel_rfl) (by kernel_rfl) (by kernel_rfl) (fun _ _ _ h => h) (Or.inl ⟨by rfl, ?hn2⟩) hS0 ?rn2
        case hn2 => (intro wz hSw; go_simp <;> with_reducible rfl)
        (try simp only [Act.put, List.setIfInBounds_toArray, List.set_cons_zero, List.set_cons_succ])
        refine wpAnyH_take (i := 3) (oi := ⟨some 25, Op.load 26 (Operand.tmp 4), 26, _, _, some (2, false)⟩) (v := undef) rfl (by kernel_rfl) (by kernel_rfl) (by kernel_rfl) (fun _ _ _ h => h) (Or.inr ⟨by rfl, rfl⟩) hS0 ?rn3
        (try simp only [Act.put, List.setIfInBounds_toArray, List.set_cons_zero, List.set_cons_succ])
        refine wpAnyH_take (i := 4) (oi := ⟨some 26, Op.load 26 (Operand.tmp 10), 26, _, _, some (2, false)⟩) (v := undef) rfl (by kernel_rfl) (by kernel_rfl) (by kernel_rfl) (fun _ _ _ h => h) (Or.inr ⟨by rfl, rfl⟩) hS0 ?rn4
        (try simp only [Act.put, List.setIfInBounds_toArray, List.set_cons_zero, List.set_cons_succ])
        refine wpAnyH_take (i := 5) (oi := ⟨some 27, Op.call { callee := Callee.value (Operand.func 25), args := #[Operand.tmp 25, Operand.tmp 26], argTypes := #[26, 26] }, 3, _, _, some (2, false)⟩) (v := undef) rfl (by kernel_rfl) (by kernel_rfl) (by kernel_rfl) (fun _ _ _ h => h) (Or.inr ⟨by rfl, rfl⟩) hS0 ?rn5
        (try simp only [Act.put, List.setIfInBounds_toArray, List.set_cons_zero, List.set_cons_succ])
        refine wpAnyH_take (i := 6) (oi := ⟨some 28, Op.load 26 (Operand.tmp 4), 26, _, _, some (2, false)⟩) (v := undef) rfl (by kernel_rfl) (by kernel_rfl) (by kernel_rfl) (fun _ _ _ h => h) (Or.inr ⟨by rfl, rfl⟩) hS0 ?rn6
        (try simp only [Act.put, List.setIfInBounds_toArray, List.set_cons_zero, List.set_cons_succ])
        refine wpAnyH_take (i := 7) (oi := ⟨some 29, Op.load 26 (Operand.tmp 8), 26, _, _, some (2, false)⟩) (v := undef) rfl (by kernel_rfl) (by kernel_rfl) (by kernel_rfl) (fun _ _ _ h => h) (Or.inr ⟨by rfl, rfl⟩) hS0 ?rn7
        (try simp only [Act.put, List.setIfInBounds_toArray, List.set_cons_zero, List.set_cons_succ])
        refine wpAnyH_take (i := 8) (oi := ⟨some 30, Op.call { callee := Callee.value (Operand.func 25), args := #[Operand.tmp 28, Operand.tmp 29], argTypes := #[26, 26] }, 3, _, _, some (2, false)⟩) (v := undef) rfl (by kernel_rfl) (by kernel_rfl) (by kernel_rfl) (fun _ _ _ h => h) (Or.inr ⟨by rfl, rfl⟩) hS0 ?rn8
        (try simp only [Act.put, List.setIfInBounds_toArray, List.set_cons_zero, List.set_cons_succ])
        refine wpAnyH_take (i := 9) (oi := ⟨some 31, Op.binOp BinOp.lss 3 (Operand.tmp 27) (Operand.tmp 30) 3, 4, _, _, some (2, false)⟩) (v := undef) rfl (by kernel_rfl) (by kernel_rfl) (by kernel_rfl) (fun _ _ _ h => h) (Or.inr ⟨by rfl, rfl⟩) hS0 ?rn9
        (try simp only [Act.put, List.setIfInBounds_toArray, List.set_cons_zero, List.set_cons_succ])
        refine wpAnyH_take (i := 10) (oi := ⟨some 32, Op.pick (Operand.tmp 24) (Operand.const (Value.bool true)) (Operand.tmp 31), 4, _, _, none⟩) (v := ?vn10) rfl (by kernel_rfl) (by kernel_rfl) (by kernel_rfl) (fun _ _ _ h => h) (Or.inl ⟨by rfl, ?hn10⟩) hS0 ?rn10
        case hn10 => (intro wz hSw; go_simp <;> with_reducible rfl)
        (try simp only [Act.put, List.setIfInBounds_toArray, List.set_cons_zero, List.set_cons_succ])
        refine wpAnyH_done (by kernel_rfl) ?_ _
        refine NoPanic.normal ?_
        obtain ⟨k0, k1, k2, k3, k4, k5, k6, k7, k8, k9⟩ := HC.out V (Below.refl _ _)
        gi_wp2
        exact HI.out.fin (q := x) hS0 (by rw [best_snoc, HO.out]; rfl) z1 z3 HSZ.out
      | some p =>
        have fp1 : Fits p.1.1 := by have := p.2.1; unfold Fits; omega
        have fp2 : Fits p.1.2 := by have := p.2.2; unfold Fits; omega
        have HC : Hid (∀ V' : World, Below V.heap.size V V' → _) := Lib.hid (fun V' h => fcells (fx := p.1.1) (fy := p.1.2) (v := .bool true) hF hGx hI.a bX h)
        have HI := Lib.hid hI
        clear hI bX hF hGx
        by_cases hlt : sqr ax ay x.1.1 x.1.2 < sqr ax ay p.1.1 p.1.2
        · gi_wp2
          dsimp only [act9]
          have hS0 : Below V.heap.size V V.drew := (Below.refl _ _).drew
          refine region_round (S := fun w' => Below V.heap.size V w') (by kernel_rfl) (by simp) (fun ⟨_, _, h⟩ => h) hS0 (fun _ => ?_)
          refine wpAnyH_take (i := 0) (oi := ⟨some 22, Op.load 4 (Operand.tmp 9), 4, _, _, none⟩) (v := ?vy0) rfl (by kernel_rfl) (by kernel_rfl) (by kernel_rfl) (fun _ _ _ h => h) (Or.inl ⟨by rfl, ?hy0⟩) hS0 ?ry0
          case hy0 => (intro wz hSw; obtain ⟨k0, k1, k2, k3, k4, k5, k6, k7, k8, k9⟩ := HC.out wz hSw; go_simp <;> with_reducible rfl)
          (try simp only [Act.put, List.setIfInBounds_toArray, List.set_cons_zero, List.set_cons_succ])
          refine wpAnyH_take (i := 1) (oi := ⟨some 23, Op.unOp UnOp.not 4 (Operand.tmp 22), 4, _, _, none⟩) (v := ?vy1) rfl (by kernel_rfl) (by kernel_rfl) (by kernel_rfl) (fun _ _ _ h => h) (Or.inl ⟨by rfl, ?hy1⟩) hS0 ?ry1
          case hy1 => (intro wz hSw; go_simp <;> with_reducible rfl)
          (try simp only [Act.put, List.setIfInBounds_toArray, List.set_cons_zero, List.set_cons_succ])
          refine wpAnyH_take (i := 2) (oi := ⟨some 24, Op.move (Operand.tmp 23), 4, _, _, none⟩) (v := ?vy2) rfl (by kernel_rfl) (by kernel_rfl) (by kernel_rfl) (fun _ _ _ h => h) (Or.inl ⟨by rfl, ?hy2⟩) hS0 ?ry2
          case hy2 => (intro wz hSw; go_simp <;> with_reducible rfl)
          (try simp only [Act.put, List.setIfInBounds_toArray, List.set_cons_zero, List.set_cons_succ])
          refine wpAnyH_take (i := 3) (oi := ⟨some 25, Op.load 26 (Operand.tmp 4), 26, _, _, some (2, false)⟩) (v := ?vy3) rfl (by kernel_rfl) (by kernel_rfl) (by kernel_rfl) (fun _ _ _ h => h) (Or.inl ⟨by rfl, ?hy3⟩) hS0 ?ry3
          case hy3 => (intro wz hSw; obtain ⟨k0, k1, k2, k3, k4, k5, k6, k7, k8, k9⟩ := HC.out wz hSw; go_simp <;> with_reducible rfl)
          (try simp only [Act.put, List.setIfInBounds_toArray, List.set_cons_zero, List.set_cons_succ])
          refine wpAnyH_take (i := 4) (oi := ⟨some 26, Op.load 26 (Operand.tmp 10), 26, _, _, some (2, false)⟩) (v := ?vy4) rfl (by kernel_rfl) (by kernel_rfl) (by kernel_rfl) (fun _ _ _ h => h) (Or.inl ⟨by rfl, ?hy4⟩) hS0 ?ry4
          case hy4 => (intro wz hSw; obtain ⟨k0, k1, k2, k3, k4, k5, k6, k7, k8, k9⟩ := HC.out wz hSw; go_simp <;> with_reducible rfl)
          (try simp only [Act.put, List.setIfInBounds_toArray, List.set_cons_zero, List.set_cons_succ])
          refine wpAnyH_take (i := 6) (oi := ⟨some 28, Op.load 26 (Operand.tmp 4), 26, _, _, some (2, false)⟩) (v := ?vy6) rfl (by kernel_rfl) (by kernel_rfl) (by kernel_rfl) (fun _ _ _ h => h) (Or.inl ⟨by rfl, ?hy6⟩) hS0 ?ry6
          case hy6 => (intro wz hSw; obtain ⟨k0, k1, k2, k3, k4, k5, k6, k7, k8, k9⟩ := HC.out wz hSw; go_simp <;> with_reducible rfl)
          (try simp only [Act.put, List.setIfInBounds_toArray, List.set_cons_zero, List.set_cons_succ])
          refine wpAnyH_take (i := 7) (oi := ⟨some 29, Op.load 26 (Operand.tmp 8), 26, _, _, some (2, false)⟩) (v := ?vy7) rfl (by kernel_rfl) (by kernel_rfl) (by kernel_rfl) (fun _ _ _ h => h) (Or.inl ⟨by rfl, ?hy7⟩) hS0 ?ry7
          case hy7 => (intro wz hSw; obtain ⟨k0, k1, k2, k3, k4, k5, k6, k7, k8, k9⟩ := HC.out wz hSw; go_simp <;> with_reducible rfl)
          (try simp only [Act.put, List.setIfInBounds_toArray, List.set_cons_zero, List.set_cons_succ])
          refine wpAnyH_ready (rs := [5]) (by kernel_rfl) (by simp) ?_
          refine AllReadyH.cons (o := ⟨some 27, Op.call { callee := Callee.value (Operand.func 25), args := #[Operand.tmp 25, Operand.tmp 26], argTypes := #[26, 26] }, 3, _, _, some (2, false)⟩) rfl (fun K hK => ?_) AllReadyH.nil
          go_simp
          (with_reducible refine (square_any ax ay x.1.1 x.1.2 _ fa1 fa2 fx1 fx2).mono ?_); rintro e v1 ⟨rfl, hB1⟩; have hS1 := hS0.trans hB1
          refine hK.out _ _ hS1 (fun _ => ?_)
          clear hK K
          (try simp only [Act.put, List.setIfInBounds_toArray, List.set_cons_zero, List.set_cons_succ])
          refine wpAnyH_ready (rs := [8]) (by kernel_rfl) (by simp) ?_
          refine AllReadyH.cons (o := ⟨some 30, Op.call { callee := Callee.value (Operand.func 25), args := #[Operand.tmp 28, Operand.tmp 29], argTypes := #[26, 26] }, 3, _, _, some (2, false)⟩) rfl (fun K hK => ?_) AllReadyH.nil
          go_simp
          (with_reducible refine (square_any ax ay p.1.1 p.1.2 _ fa1 fa2 fp1 fp2).mono ?_); rintro e v2 ⟨rfl, hB2⟩; have hS2 := hS1.trans (hB2.mono hS1.size)
          refine hK.out _ _ hS2 (fun _ => ?_)
          clear hK K
          (try simp only [Act.put, List.setIfInBounds_toArray, List.set_cons_zero, List.set_cons_succ])
          refine wpAnyH_take (i := 9) (oi := ⟨some 31, Op.binOp BinOp.lss 3 (Operand.tmp 27) (Operand.tmp 30) 3, 4, _, _, some (2, false)⟩) (v := ?vy9) rfl (by kernel_rfl) (by kernel_rfl) (by kernel_rfl) (fun _ _ _ h => h) (Or.inl ⟨by rfl, ?hy9⟩) hS2 ?ry9
          case hy9 => (intro wz hSw; go_simp <;> with_reducible rfl)
          (try simp only [Act.put, List.setIfInBounds_toArray, List.set_cons_zero, List.set_cons_succ])
          refine wpAnyH_take (i := 10) (oi := ⟨some 32, Op.pick (Operand.tmp 24) (Operand.const (Value.bool true)) (Operand.tmp 31), 4, _, _, none⟩) (v := ?vy10) rfl (by kernel_rfl) (by kernel_rfl) (by kernel_rfl) (fun _ _ _ h => h) (Or.inl ⟨by rfl, ?hy10⟩) hS2 ?ry10
          case hy10 => (intro wz hSw; go_simp <;> with_reducible rfl)
          (try simp only [Act.put, List.setIfInBounds_toArray, List.set_cons_zero, List.set_cons_succ])
          refine wpAnyH_done (by kernel_rfl) ?_ _
          refine NoPanic.normal ?_
          obtain ⟨k0, k1, k2, k3, k4, k5, k6, k7, k8, k9⟩ := HC.out _ hS2
          gi_wp2
          exact HI.out.fin (q := x) hS2 (by rw [best_snoc, HO.out]; exact if_pos hlt) z1 z3 HSZ.out
        · have hlt' : decide (sqr ax ay x.1.1 x.1.2 < sqr ax ay p.1.1 p.1.2) = false := by simpa using hlt
          gi_wp2
          dsimp only [act9]
          have hS0 : Below V.heap.size V V.drew := (Below.refl _ _).drew
          refine region_round (S := fun w' => Below V.heap.size V w') (by kernel_rfl) (by simp) (fun ⟨_, _, h⟩ => h) hS0 (fun _ => ?_)
          refine wpAnyH_take (i := 0) (oi := ⟨some 22, Op.load 4 (Operand.tmp 9), 4, _, _, none⟩) (v := ?vz0) rfl (by kernel_rfl) (by kernel_rfl) (by kernel_rfl) (fun _ _ _ h => h) (Or.inl ⟨by rfl, ?hz0⟩) hS0 ?rz0
          case hz0 => (intro wz hSw; obtain ⟨k0, k1, k2, k3, k4, k5, k6, k7, k8, k9⟩ := HC.out wz hSw; go_simp <;> with_reducible rfl)
          (try simp only [Act.put, List.setIfInBounds_toArray, List.set_cons_zero, List.set_cons_succ])
          refine wpAnyH_take (i := 1) (oi := ⟨some 23, Op.unOp UnOp.not 4 (Operand.tmp 22), 4, _, _, none⟩) (v := ?vz1) rfl (by kernel_rfl) (by kernel_rfl) (by kernel_rfl) (fun _ _ _ h => h) (Or.inl ⟨by rfl, ?hz1⟩) hS0 ?rz1
          case hz1 => (intro wz hSw; go_simp <;> with_reducible rfl)
          (try simp only [Act.put, List.setIfInBounds_toArray, List.set_cons_zero, List.set_cons_succ])
          refine wpAnyH_take (i := 2) (oi := ⟨some 24, Op.move (Operand.tmp 23), 4, _, _, none⟩) (v := ?vz2) rfl (by kernel_rfl) (by kernel_rfl) (by kernel_rfl) (fun _ _ _ h => h) (Or.inl ⟨by rfl, ?hz2⟩) hS0 ?rz2
          case hz2 => (intro wz hSw; go_simp <;> with_reducible rfl)
          (try simp only [Act.put, List.setIfInBounds_toArray, List.set_cons_zero, List.set_cons_succ])
          refine wpAnyH_take (i := 3) (oi := ⟨some 25, Op.load 26 (Operand.tmp 4), 26, _, _, some (2, false)⟩) (v := ?vz3) rfl (by kernel_rfl) (by kernel_rfl) (by kernel_rfl) (fun _ _ _ h => h) (Or.inl ⟨by rfl, ?hz3⟩) hS0 ?rz3
          case hz3 => (intro wz hSw; obtain ⟨k0, k1, k2, k3, k4, k5, k6, k7, k8, k9⟩ := HC.out wz hSw; go_simp <;> with_reducible rfl)
          (try simp only [Act.put, List.setIfInBounds_toArray, List.set_cons_zero, List.set_cons_succ])
          refine wpAnyH_take (i := 4) (oi := ⟨some 26, Op.load 26 (Operand.tmp 10), 26, _, _, some (2, false)⟩) (v := ?vz4) rfl (by kernel_rfl) (by kernel_rfl) (by kernel_rfl) (fun _ _ _ h => h) (Or.inl ⟨by rfl, ?hz4⟩) hS0 ?rz4
          case hz4 => (intro wz hSw; obtain ⟨k0, k1, k2, k3, k4, k5, k6, k7, k8, k9⟩ := HC.out wz hSw; go_simp <;> with_reducible rfl)
          (try simp only [Act.put, List.setIfInBounds_toArray, List.set_cons_zero, List.set_cons_succ])
          refine wpAnyH_take (i := 6) (oi := ⟨some 28, Op.load 26 (Operand.tmp 4), 26, _, _, some (2, false)⟩) (v := ?vz6) rfl (by kernel_rfl) (by kernel_rfl) (by kernel_rfl) (fun _ _ _ h => h) (Or.inl ⟨by rfl, ?hz6⟩) hS0 ?rz6
          case hz6 => (intro wz hSw; obtain ⟨k0, k1, k2, k3, k4, k5, k6, k7, k8, k9⟩ := HC.out wz hSw; go_simp <;> with_reducible rfl)
          (try simp only [Act.put, List.setIfInBounds_toArray, List.set_cons_zero, List.set_cons_succ])
          refine wpAnyH_take (i := 7) (oi := ⟨some 29, Op.load 26 (Operand.tmp 8), 26, _, _, some (2, false)⟩) (v := ?vz7) rfl (by kernel_rfl) (by kernel_rfl) (by kernel_rfl) (fun _ _ _ h => h) (Or.inl ⟨by rfl, ?hz7⟩) hS0 ?rz7
          case hz7 => (intro wz hSw; obtain ⟨k0, k1, k2, k3, k4, k5, k6, k7, k8, k9⟩ := HC.out wz hSw; go_simp <;> with_reducible rfl)
          (try simp only [Act.put, List.setIfInBounds_toArray, List.set_cons_zero, List.set_cons_succ])
          refine wpAnyH_ready (rs := [5]) (by kernel_rfl) (by simp) ?_
          refine AllReadyH.cons (o := ⟨some 27, Op.call { callee := Callee.value (Operand.func 25), args := #[Operand.tmp 25, Operand.tmp 26], argTypes := #[26, 26] }, 3, _, _, some (2, false)⟩) rfl (fun K hK => ?_) AllReadyH.nil
          go_simp
          (with_reducible refine (square_any ax ay x.1.1 x.1.2 _ fa1 fa2 fx1 fx2).mono ?_); rintro e v1 ⟨rfl, hB1⟩; have hS1 := hS0.trans hB1
          refine hK.out _ _ hS1 (fun _ => ?_)
          clear hK K
          (try simp only [Act.put, List.setIfInBounds_toArray, List.set_cons_zero, List.set_cons_succ])
          refine wpAnyH_ready (rs := [8]) (by kernel_rfl) (by simp) ?_
          refine AllReadyH.cons (o := ⟨some 30, Op.call { callee := Callee.value (Operand.func 25), args := #[Operand.tmp 28, Operand.tmp 29], argTypes := #[26, 26] }, 3, _, _, some (2, false)⟩) rfl (fun K hK => ?_) AllReadyH.nil
          go_simp
          (with_reducible refine (square_any ax ay p.1.1 p.1.2 _ fa1 fa2 fp1 fp2).mono ?_); rintro e v2 ⟨rfl, hB2⟩; have hS2 := hS1.trans (hB2.mono hS1.size)
          refine hK.out _ _ hS2 (fun _ => ?_)
          clear hK K
          (try simp only [Act.put, List.setIfInBounds_toArray, List.set_cons_zero, List.set_cons_succ])
          refine wpAnyH_take (i := 9) (oi := ⟨some 31, Op.binOp BinOp.lss 3 (Operand.tmp 27) (Operand.tmp 30) 3, 4, _, _, some (2, false)⟩) (v := ?vz9) rfl (by kernel_rfl) (by kernel_rfl) (by kernel_rfl) (fun _ _ _ h => h) (Or.inl ⟨by rfl, ?hz9⟩) hS2 ?rz9
          case hz9 => (intro wz hSw; go_simp <;> with_reducible rfl)
          (try simp only [Act.put, List.setIfInBounds_toArray, List.set_cons_zero, List.set_cons_succ])
          refine wpAnyH_take (i := 10) (oi := ⟨some 32, Op.pick (Operand.tmp 24) (Operand.const (Value.bool true)) (Operand.tmp 31), 4, _, _, none⟩) (v := ?vz10) rfl (by kernel_rfl) (by kernel_rfl) (by kernel_rfl) (fun _ _ _ h => h) (Or.inl ⟨by rfl, ?hz10⟩) hS2 ?rz10
          case hz10 => (intro wz hSw; go_simp <;> with_reducible rfl)
          (try simp only [Act.put, List.setIfInBounds_toArray, List.set_cons_zero, List.set_cons_succ])
          refine wpAnyH_done (by kernel_rfl) ?_ _
          refine NoPanic.normal ?_
          gi_wp2
          exact HI.out.fin2 (q := x) hS2 HO.out (by omega)
    case done =>
      rintro D xs V hD rfl hI hK
      obtain ⟨o, HO, hF, hGx⟩ := hI.now
      have F0 := hF.cell0
      have F1 := hF.cell1
      have G0 := hGx.cell
      have r0 := hI.res.cell0
      have r1 := hI.res.cell1
      have rf0 := hI.res.frozen 0
      have rf1 := hI.res.frozen 1
      have HI := Lib.hid hI; clear hI
      gi_wp2
      go_wp2
      go_region
      go_wp2
      have hK' : (put2 V (w.heap.size + 1 + 1 + 1) (ox o) (oy o)).drew.heap[D]? = some (.deferred (some [])) := by
        have n1 : D ≠ w.heap.size + 1 + 1 + 1 := by have := HSZ.out; omega
        exact (Below.heap_setCell _ ⟨w.heap.size + 1 + 1 + 1, 1, none⟩ _ _ n1).trans ((Below.heap_setCell _ ⟨w.heap.size + 1 + 1 + 1, 0, none⟩ _ _ n1).trans hK)
      have hbx : BoxP (put2 V (w.heap.size + 1 + 1 + 1) (ox o) (oy o)).drew (w.heap.size + 1 + 1 + 1) (ox o) (oy o) := BoxP.put (W := V) HI.out.res _ _
      have hq : BoxP _ _ _ _ := own_at (B := 0) hbx (grownBy_putObj' _ D (.deferred none)) (fun r e => by cases e; exact ⟨Nat.zero_le _, _, hK', rfl⟩)
      have q4 := hq.cell0
      have q5 := hq.cell1
      refine ⟨by simp, .inl ⟨_, _, rfl, run_takeDeferred hK', ?_⟩⟩
      refine ⟨firstV (bestB ax ay (wallsL W H l ax ay bx by')), by rw [HO.out]; simp [results, Try.f9, go_sem, q4, q5]; rfl, rfl, ?_⟩
      exact (((HI.out.below.setCell (p := ⟨w.heap.size + 1 + 1 + 1, 0, none⟩) (by show w.heap.size ≤ w.heap.size + 1 + 1 + 1; omega) _).setCell (p := ⟨w.heap.size + 1 + 1 + 1, 1, none⟩) (by show w.heap.size ≤ w.heap.size + 1 + 1 + 1; omega) _).drew).trans (belowK_b (w := w) (Nat.le_refl _) _ D _ _ (by have := HSZ.out; omega) hK' rfl rfl)
    case stop =>
      rintro D cd pre V _ _ h _
      exact h.elim

end Go.Proofs.Ytiggpmennomplaa.Con
