/-
  The contract of the iterator over the walls between two tiles: it tells each wall of the line but its ends, in order, and stops where a round says so.
-/
import Derived.Test.YtiggpmennomplaaGab
import Derived.Test.YtiggpmennomplaaCol
namespace Go.Proofs.Ytiggpmennomplaa.Con
open Go.RowKit Go.Shelf Lin Arn
attribute [local go_sem] Oper.semAt_some

/-- Is a tile a wall, and neither of the two? -/
def wcond (W H : Int) (l : List Bool) (ax ay bx by' : Int) (q : Tile) : Bool := !(decide (q.1.1 = ax) && decide (q.1.2 = ay)) && !(decide (q.1.1 = bx) && decide (q.1.2 = by')) && wallB W H l q.1.1 q.1.2
/-- The walls between two tiles. -/
def wallsL (W H : Int) (l : List Bool) (ax ay bx by' : Int) : List Tile := (lineL ax ay bx by').filter (wcond W H l ax ay bx by')

theorem below_grown {V V' : World} (h : Below V.heap.size V V') : V.grownBy V' none := ⟨h.os, h.tape, h.output, h.size, fun k hk _ => h.block k hk⟩
theorem own_below {β : Type} {B : Nat} {I : β → World → Prop} (h : OwnFrom B I) {s : β} {V V' : World} (hs : I s V) (hb : Below V.heap.size V V') : I s V' := h s V V' none hs (below_grown hb) (fun r e => by cases e)

/-- What holds between two rounds over the line. -/
structure WMid (W H : Int) (A : Option Addr) (l : List Bool) (c : Nat) (ax ay bx by' : Int) (n₀ s Y lp M : Nat) (J : List Tile → World → Prop) (pre : List Tile) (V : World) : Prop where
  j : J (pre.filter (wcond W H l ax ay bx by')) V
  g : G3 W H A l.length c ax ay bx by' s V
  y : Boxed V Y 49 (.func (.yield lp) #[] #[])
  rb : RB V n₀ A l
  n : n₀ ≤ V.heap.size
  top : M ≤ V.heap.size
theorem RB.own {V V' : World} {n₀ B : Nat} {A : Option Addr} {l : List Bool} {row : Option Nat} (h : RB V n₀ A l) (hn : n₀ ≤ B) (hv : n₀ ≤ V.heap.size) (hg : V.grownBy V' row) (hr : ∀ r, row = some r → B ≤ r ∧ ∃ o : Obj, V.heap[r]? = some o ∧ o.isCells = false) : RB V' n₀ A l := by
  rcases h with rfl | ⟨b, off, hA, hlt, hc⟩
  · exact .inl rfl
  · exact .inr ⟨b, off, hA, hlt, fun k x hx => (World.cell?_of_block (w := V) (hg.block b (by omega) (fun e => by have := (hr b e.symm).1; omega))).trans (hc k x hx)⟩
theorem RB.kept {V V' : World} {n₀ : Nat} {A : Option Addr} {l : List Bool} (h : RB V n₀ A l) (hb : Below n₀ V V') : RB V' n₀ A l := h.below hb (Nat.le_refl _)

theorem wmid_own {W H : Int} {A : Option Addr} {l : List Bool} {c : Nat} {ax ay bx by' : Int} {n₀ s Y lp M B B' : Nat} {J : List Tile → World → Prop} (hJ : OwnFrom B J) (hB : B ≤ B') (hn : n₀ ≤ B') : OwnFrom B' (WMid W H A l c ax ay bx by' n₀ s Y lp M J) :=
  fun _ _ _ _ h hg hr => ⟨OwnFrom.later hJ hB _ _ _ _ h.j hg hr, g3_own h.g hg hr, own_at h.y hg hr, h.rb.own hn h.n hg hr, Nat.le_trans h.n hg.size, Nat.le_trans h.top hg.size⟩
theorem WMid.of {W H : Int} {A : Option Addr} {l : List Bool} {c : Nat} {ax ay bx by' : Int} {n₀ s Y lp M B : Nat} {J : List Tile → World → Prop} (hJ : OwnFrom B J) {pre : List Tile} {V V' : World} (h : WMid W H A l c ax ay bx by' n₀ s Y lp M J pre V) (hb : Below V.heap.size V V') : WMid W H A l c ax ay bx by' n₀ s Y lp M J pre V' :=
  ⟨own_below hJ h.j hb, h.g.of hb, (hb.block _ h.y.lt).trans h.y, h.rb.kept (hb.mono h.n), Nat.le_trans h.n hb.size, Nat.le_trans h.top hb.size⟩
theorem WMid.no {W H : Int} {A : Option Addr} {l : List Bool} {c : Nat} {ax ay bx by' : Int} {n₀ s Y lp M : Nat} {J : List Tile → World → Prop} {pre : List Tile} {V : World} {x : Tile} (h : WMid W H A l c ax ay bx by' n₀ s Y lp M J pre V) (hx : wcond W H l ax ay bx by' x = false) : WMid W H A l c ax ay bx by' n₀ s Y lp M J (pre ++ [x]) V :=
  ⟨by rw [List.filter_append]; simpa [hx] using h.j, h.g, h.y, h.rb, h.n, h.top⟩
theorem WMid.step {W H : Int} {A : Option Addr} {l : List Bool} {c : Nat} {ax ay bx by' : Int} {n₀ s Y lp M B : Nat} {J : List Tile → World → Prop} {pre : List Tile} {V V' : World} {x : Tile} (h : WMid W H A l c ax ay bx by' n₀ s Y lp M J pre V) (hx : wcond W H l ax ay bx by' x = true)
    (hj : J (pre.filter (wcond W H l ax ay bx by') ++ [x]) V') (hk : KS n₀ s (s + 3) V V') (ha : KeepsAt B V V') (hY : B ≤ Y) : WMid W H A l c ax ay bx by' n₀ s Y lp M J (pre ++ [x]) V' :=
  ⟨by rw [List.filter_append]; simpa [hx] using hj, h.g.kept hk.2, (ha.2 _ hY h.y.lt).trans h.y, h.rb.kept hk.1, Nat.le_trans h.n hk.1.size, Nat.le_trans h.top hk.1.size⟩
theorem ks_at {n₀ s0 s1 B : Nat} {V V' : World} (hb : Below n₀ V V') (ha : KeepsAt B V V') (hB : B ≤ s0) (hs : s1 ≤ V.heap.size) : KS n₀ s0 s1 V V' := ⟨hb, fun k h0 h1 => ha.2 k (Nat.le_trans hB h0) (Nat.lt_of_lt_of_le h1 hs)⟩
theorem filter_snoc {W H : Int} {l : List Bool} {ax ay bx by' : Int} (pre : List Tile) {x : Tile} (hx : wcond W H l ax ay bx by' x = true) : (pre ++ [x]).filter (wcond W H l ax ay bx by') = pre.filter (wcond W H l ax ay bx by') ++ [x] := by rw [List.filter_append]; simp [hx]
/-- How a round leaves early. -/
def WOut (W H : Int) (l : List Bool) (ax ay bx by' : Int) (Jx : List Tile → World → Prop) (cd : Code) (pre : List Tile) (V : World) : Prop := cd = .ret ∧ Jx (pre.filter (wcond W H l ax ay bx by')) V
theorem wout_own {W H : Int} {l : List Bool} {ax ay bx by' : Int} {B B' : Nat} {Jx : List Tile → World → Prop} (hJ : OwnFrom B Jx) (hB : B ≤ B') (cd : Code) : OwnFrom B' (WOut W H l ax ay bx by' Jx cd) :=
  fun _ _ _ _ h hg hr => ⟨h.1, OwnFrom.later hJ hB _ _ _ _ h.2 hg hr⟩

abbrev actW (sq y : Value) (ax ay bx by' : Int) (s Y Bx : Nat) (x : Tile) : Act :=
  { tmps := #[y, pt (s + 1), pt (s + 1 + 1), pt s, pt Y, pt Bx, pv ax ay, pv bx by', sq, pv x.1.1 x.1.2, undef, undef, undef, undef, undef, undef, undef, undef, undef, undef, undef, undef, undef, undef, undef, undef, undef, undef, undef], defers := [] }
def AxW (sq y : Value) (ax ay bx by' : Int) (s Y : Nat) (x : Tile) (a' : Act) (V : World) : Prop := ∃ Bx, BoxP V Bx x.1.1 x.1.2 ∧ a' = actW sq y ax ay bx by' s Y Bx x

theorem yield_wide {m : Nat} (m' l' : Nat) {l : Nat} {args : Array Value} {W : World} {R : Ending → World → Prop} (h : YieldAt Fence.wide m Try.prog l args W R) : YieldAt (Fence.wide.inRound l') m' Try.prog l args W R := by
  obtain ⟨fn, tmps, assign, body, hy, hR⟩ := h
  exact ⟨fn, tmps, assign, body, hy, hR.1, fun c cs _ => hR.2 c cs (fun _ hd => by cases hd)⟩

set_option maxRecDepth 100000 in
set_option maxHeartbeats 4000000 in
theorem walls_stops {W H : Int} {A : Option Addr} {l : List Bool} {c : Nat} {ax ay bx by' : Int} (hin : bothB W H l.length ax ay bx by' = true) {n₀ s : Nat} {w0 : World} (hn : n₀ ≤ s) (hg : G3 W H A l.length c ax ay bx by' s w0) (hrb : RB w0 n₀ A l) :
    SeqX 4 Try.prog 38 #[pt (s + 1), pt (s + 1 + 1), pt s] (fun x : Tile => #[pv x.1.1 x.1.2]) (KS n₀ s (s + 3)) (fun ys => ys = wallsL W H l ax ay bx by') (fun pre => pre <+: wallsL W H l ax ay bx by') w0 := by
  intro lp J Jx V hV hlp hJ hJx hY h0
  have hgV := hg.of hV
  have hrV : RB V n₀ A l := hrb.kept (hV.mono (by have := hg.lt; omega))
  have hb := both_in hin
  obtain ⟨px, py, qx, qy, g, hl, hline⟩ := line_any hb.1.1 hb.1.2 hb.2.1 hb.2.2
  have HL := Lib.hid hline; clear hline
  have HLL := Lib.hid hl; clear hl
  obtain ⟨c0, c1, c2, c3, c4, c5, c6⟩ := hgV.cells
  have HGV := Lib.hid hgV
  have hls := hgV.lt
  have z0 : s < V.heap.size := by omega
  have z1 : s + 1 < V.heap.size := by omega
  have z2 : s + 1 + 1 < V.heap.size := by omega
  clear hgV
  refine callsIn_of_wp_marks Try.func38 rfl trivial ?_ rfl
  simp only [Try.ntmps38, List.size_toArray, List.length_cons, List.length_nil, Nat.reduceAdd, Nat.reduceSub, Array.replicate_succ, Array.replicate_zero, List.push_toArray, List.append_toArray, List.nil_append, List.cons_append]
  refine wpIn_wide.2 ?_
  go_wp2_with (first
    | ((with_reducible refine (HL.out _).mono ?_); rintro e w2 ⟨q, rfl, hq, hM, hB2⟩))
  have hU : Below V.heap.size V w2 := ((Below.refl _ V).alloc (Nat.le_refl _) _).trans (hB2.mono (by simp))
  have hY2 : Boxed w2 V.heap.size 49 (.func (.yield lp) #[] #[]) := (hB2.block _ (by simp)).trans (new_at _ _ rfl)
  have hsz : V.heap.size < w2.heap.size := hY2.lt
  have hM0 : WMid W H A l c ax ay bx by' n₀ s V.heap.size lp w2.heap.size J [] w2 := ⟨by simpa using own_below hJ h0 hU, HGV.out.of hU, hY2, hrV.kept (hU.mono (by omega)), by omega, Nat.le_refl _⟩
  have HSZ := Lib.hid hsz
  clear hY2 hB2
  refine (wpIn_wide (n := 4)).1 ?_
  refine wpIn_rangeFunc_ownH rfl (by omega) (gf := 46) (lb := #[pt q.a, pt q.b, pt q.l, pt q.s, pt q.r]) rfl trivial (enters_of Try.func46 (by kernel_rfl) rfl)
    (lstops 3 (by omega) g (n₀ := n₀) hq hM (Nat.le_refl _)) (fun h k => h.trans k)
    (fun V' k o o' hk h _ _ => KS.putObj (m := w2.heap.size) (by omega) (Nat.le_refl _) V' k o' hk)
    (Below.refl _ _) (fun _ => rfl)
    (WMid W H A l c ax ay bx by' n₀ s V.heap.size lp w2.heap.size J) (WOut W H l ax ay bx by' Jx) (wmid_own hJ (by omega) (by omega)) (fun cd => wout_own hJx (by omega) cd) hM0
    (AxW (.func (.func 46) #[] #[pt q.a, pt q.b, pt q.l, pt q.s, pt q.r]) (.func (.yield lp) #[] #[]) ax ay bx by' s V.heap.size) (fun x a' _ X Y row hs hg hr => by obtain ⟨Bx, h2, h3⟩ := hs; exact ⟨Bx, own_at h2 hg hr, h3⟩) ?assign ?body ?done ?stop
  case assign =>
    rintro l' pre x V' K hI hK
    gi_wp2
    exact hK _ _ ((KeepsOthers.alloc _ _).from _) (KS.of_below ((Below.refl _ V').alloc (Nat.le_refl _) _) hI.n hI.top) (hI.of hJ ((Below.refl _ V').alloc (Nat.le_refl _) _)) ⟨V'.heap.size, BoxP.new V' _ _, rfl⟩
  case body =>
    rintro l' pre x a' V1 hl' hr' hI ⟨Bx, bX, rfl⟩ hlt
    have hcx := hI.g.cells
    obtain ⟨c0, c1, c2, c3, c4, c5, c6⟩ := hcx
    have x0 := bX.cell0
    have x1 := bX.cell1
    have y0 := hI.y.cell
    obtain ⟨⟨tx, ty⟩, ht⟩ := x
    dsimp only at x0 x1 bX
    have hI' := Lib.hid hI
    have bX' := Lib.hid bX
    clear hI bX
    have hwl : ∀ V' : World, RB V' n₀ A l → n₀ ≤ V'.heap.size → Calls Try.prog 21 #[gv W H A l.length c, pv tx ty] V' fun e w' => e = .returned (.bool (wallB W H l tx ty)) ∧ Below V'.heap.size V' w' := fun V' h1 h2 => wall_any W H A l c tx ty V' n₀ h1 h2
    by_cases e1 : tx = ax
    · have e1s := e1.symm; subst e1s
      by_cases e2 : ty = ay
      · have e2s := e2.symm; subst e2s
        have HWC : Hid (wcond W H l ax ay bx by' ⟨(ax, ay), ht⟩ = false) := Lib.hid (by simp [wcond])
        clear hwl
        gi_wp2
        refine ⟨trivial, ?_⟩
        gi_wp2
        refine ⟨fun _ h => (by cases h), ?_⟩
        gi_wp2
        exact ⟨KeepsFrom.refl _ _, KS.of_below (Below.refl _ _) hI'.out.n hI'.out.top, hI'.out.no HWC.out⟩
      · have e2' : (ty == ay) = false := by simpa using e2
        by_cases e3 : ax = bx
        · subst e3
          by_cases e4 : ty = by'
          · have e4s := e4.symm; subst e4s
            have HWC : Hid (wcond W H l ax ay ax by' ⟨(ax, by'), ht⟩ = false) := Lib.hid (by simp [wcond])
            clear hwl
            gi_wp2
            refine ⟨trivial, ?_⟩
            gi_wp2
            refine ⟨fun _ h => (by cases h), ?_⟩
            gi_wp2
            exact ⟨KeepsFrom.refl _ _, KS.of_below (Below.refl _ _) hI'.out.n hI'.out.top, hI'.out.no HWC.out⟩
          · have e4' : (ty == by') = false := by simpa using e4
            cases hw : wallB W H l ax ty with
            | false =>
              have HWC : Hid (wcond W H l ax ay ax by' ⟨(ax, ty), ht⟩ = false) := Lib.hid (by simp [wcond, hw])
              rw [hw] at hwl
              have HWL := Lib.hid hwl; clear hwl hw
              gi_wp2_with (first
                | (refine ⟨trivial, ?_⟩; gi_at_call 21; refine (CallsIn.inRound l' (callsIn_wide.2 (HWL.out _ hI'.out.rb hI'.out.n))).mono ?_; rintro e w5 ⟨rfl, hB5⟩))
              refine ⟨fun _ h => (by cases h), ?_⟩
              gi_wp2
              exact ⟨keeps_below hB5, KS.of_below hB5 hI'.out.n hI'.out.top, (hI'.out.of hJ hB5).no HWC.out⟩
            | true =>
              have HWC : Hid (wcond W H l ax ay ax by' ⟨(ax, ty), ht⟩ = true) := Lib.hid (by simp [wcond, hw, e2, e4])
              rw [hw] at hwl
              have HWL := Lib.hid hwl; clear hwl hw
              gi_wp2_with (first
                | (refine ⟨trivial, ?_⟩; gi_at_call 21; refine (CallsIn.inRound l' (callsIn_wide.2 (HWL.out _ hI'.out.rb hI'.out.n))).mono ?_; rintro e w5 ⟨rfl, hB5⟩; have hI5 := hI'.out.of hJ hB5; have y5 := hI5.y.cell; have bX5 := bX'.out.kept (hB5.block _ bX'.out.lt); have u0 := bX5.cell0; have u1 := bX5.cell1; obtain ⟨fn, tmps, assign, body, hyy, hR⟩ := yield_wide (4 - 1 - 1 - 1) l' (hY _ ⟨(ax, ty), ht⟩ w5 hI5.j); dsimp only at hyy; have HI5 := Lib.hid hI5; clear hI5 bX5 x0 x1 y0 c0 c1 c2 c3 c4 c5 c6))
              refine hR.mono ?_
              rintro e W3 (⟨rfl, hJ3, hk3, ha3⟩ | ⟨rfl, hx3, ha3⟩)
              · gi_wp2
                exact ⟨(keeps_below hB5).trans (ha3.later (by omega)).from, (KS.of_below hB5 hI'.out.n hI'.out.top).trans (ks_at hk3.1 ha3 (by simp) HI5.out.top), HI5.out.step HWC.out hJ3 hk3 ha3 (Nat.le_refl _)⟩
              · gi_wp2
                exact ⟨(keeps_below hB5).trans (ha3.later (by omega)).from, rfl, by rw [filter_snoc pre HWC.out]; exact hx3⟩
        · have e3' : (ax == bx) = false := by simpa using e3
          cases hw : wallB W H l ax ty with
          | false =>
            have HWC : Hid (wcond W H l ax ay bx by' ⟨(ax, ty), ht⟩ = false) := Lib.hid (by simp [wcond, hw])
            rw [hw] at hwl
            have HWL := Lib.hid hwl; clear hwl hw
            gi_wp2_with (first
              | (refine ⟨trivial, ?_⟩; gi_at_call 21; refine (CallsIn.inRound l' (callsIn_wide.2 (HWL.out _ hI'.out.rb hI'.out.n))).mono ?_; rintro e w5 ⟨rfl, hB5⟩))
            refine ⟨fun _ h => (by cases h), ?_⟩
            gi_wp2
            exact ⟨keeps_below hB5, KS.of_below hB5 hI'.out.n hI'.out.top, (hI'.out.of hJ hB5).no HWC.out⟩
          | true =>
            have HWC : Hid (wcond W H l ax ay bx by' ⟨(ax, ty), ht⟩ = true) := Lib.hid (by simp [wcond, hw, e2, e3])
            rw [hw] at hwl
            have HWL := Lib.hid hwl; clear hwl hw
            gi_wp2_with (first
              | (refine ⟨trivial, ?_⟩; gi_at_call 21; refine (CallsIn.inRound l' (callsIn_wide.2 (HWL.out _ hI'.out.rb hI'.out.n))).mono ?_; rintro e w5 ⟨rfl, hB5⟩; have hI5 := hI'.out.of hJ hB5; have y5 := hI5.y.cell; have bX5 := bX'.out.kept (hB5.block _ bX'.out.lt); have u0 := bX5.cell0; have u1 := bX5.cell1; obtain ⟨fn, tmps, assign, body, hyy, hR⟩ := yield_wide (4 - 1 - 1 - 1) l' (hY _ ⟨(ax, ty), ht⟩ w5 hI5.j); dsimp only at hyy; have HI5 := Lib.hid hI5; clear hI5 bX5 x0 x1 y0 c0 c1 c2 c3 c4 c5 c6))
            refine hR.mono ?_
            rintro e W3 (⟨rfl, hJ3, hk3, ha3⟩ | ⟨rfl, hx3, ha3⟩)
            · gi_wp2
              exact ⟨(keeps_below hB5).trans (ha3.later (by omega)).from, (KS.of_below hB5 hI'.out.n hI'.out.top).trans (ks_at hk3.1 ha3 (by simp) HI5.out.top), HI5.out.step HWC.out hJ3 hk3 ha3 (Nat.le_refl _)⟩
            · gi_wp2
              exact ⟨(keeps_below hB5).trans (ha3.later (by omega)).from, rfl, by rw [filter_snoc pre HWC.out]; exact hx3⟩
    · have e1' : (tx == ax) = false := by simpa using e1
      by_cases e3 : tx = bx
      · have e3s := e3.symm; subst e3s
        by_cases e4 : ty = by'
        · have e4s := e4.symm; subst e4s
          have HWC : Hid (wcond W H l ax ay bx by' ⟨(bx, by'), ht⟩ = false) := Lib.hid (by simp [wcond])
          clear hwl
          gi_wp2
          refine ⟨trivial, ?_⟩
          gi_wp2
          refine ⟨fun _ h => (by cases h), ?_⟩
          gi_wp2
          exact ⟨KeepsFrom.refl _ _, KS.of_below (Below.refl _ _) hI'.out.n hI'.out.top, hI'.out.no HWC.out⟩
        · have e4' : (ty == by') = false := by simpa using e4
          cases hw : wallB W H l bx ty with
          | false =>
            have HWC : Hid (wcond W H l ax ay bx by' ⟨(bx, ty), ht⟩ = false) := Lib.hid (by simp [wcond, hw])
            rw [hw] at hwl
            have HWL := Lib.hid hwl; clear hwl hw
            gi_wp2_with (first
              | (refine ⟨trivial, ?_⟩; gi_at_call 21; refine (CallsIn.inRound l' (callsIn_wide.2 (HWL.out _ hI'.out.rb hI'.out.n))).mono ?_; rintro e w5 ⟨rfl, hB5⟩))
            refine ⟨fun _ h => (by cases h), ?_⟩
            gi_wp2
            exact ⟨keeps_below hB5, KS.of_below hB5 hI'.out.n hI'.out.top, (hI'.out.of hJ hB5).no HWC.out⟩
          | true =>
            have HWC : Hid (wcond W H l ax ay bx by' ⟨(bx, ty), ht⟩ = true) := Lib.hid (by simp [wcond, hw, e1, e4])
            rw [hw] at hwl
            have HWL := Lib.hid hwl; clear hwl hw
            gi_wp2_with (first
              | (refine ⟨trivial, ?_⟩; gi_at_call 21; refine (CallsIn.inRound l' (callsIn_wide.2 (HWL.out _ hI'.out.rb hI'.out.n))).mono ?_; rintro e w5 ⟨rfl, hB5⟩; have hI5 := hI'.out.of hJ hB5; have y5 := hI5.y.cell; have bX5 := bX'.out.kept (hB5.block _ bX'.out.lt); have u0 := bX5.cell0; have u1 := bX5.cell1; obtain ⟨fn, tmps, assign, body, hyy, hR⟩ := yield_wide (4 - 1 - 1 - 1) l' (hY _ ⟨(bx, ty), ht⟩ w5 hI5.j); dsimp only at hyy; have HI5 := Lib.hid hI5; clear hI5 bX5 x0 x1 y0 c0 c1 c2 c3 c4 c5 c6))
            refine hR.mono ?_
            rintro e W3 (⟨rfl, hJ3, hk3, ha3⟩ | ⟨rfl, hx3, ha3⟩)
            · gi_wp2
              exact ⟨(keeps_below hB5).trans (ha3.later (by omega)).from, (KS.of_below hB5 hI'.out.n hI'.out.top).trans (ks_at hk3.1 ha3 (by simp) HI5.out.top), HI5.out.step HWC.out hJ3 hk3 ha3 (Nat.le_refl _)⟩
            · gi_wp2
              exact ⟨(keeps_below hB5).trans (ha3.later (by omega)).from, rfl, by rw [filter_snoc pre HWC.out]; exact hx3⟩
      · have e3' : (tx == bx) = false := by simpa using e3
        cases hw : wallB W H l tx ty with
        | false =>
          have HWC : Hid (wcond W H l ax ay bx by' ⟨(tx, ty), ht⟩ = false) := Lib.hid (by simp [wcond, hw])
          rw [hw] at hwl
          have HWL := Lib.hid hwl; clear hwl hw
          gi_wp2_with (first
            | (refine ⟨trivial, ?_⟩; gi_at_call 21; refine (CallsIn.inRound l' (callsIn_wide.2 (HWL.out _ hI'.out.rb hI'.out.n))).mono ?_; rintro e w5 ⟨rfl, hB5⟩))
          refine ⟨fun _ h => (by cases h), ?_⟩
          gi_wp2
          exact ⟨keeps_below hB5, KS.of_below hB5 hI'.out.n hI'.out.top, (hI'.out.of hJ hB5).no HWC.out⟩
        | true =>
          have HWC : Hid (wcond W H l ax ay bx by' ⟨(tx, ty), ht⟩ = true) := Lib.hid (by simp [wcond, hw, e1, e3])
          rw [hw] at hwl
          have HWL := Lib.hid hwl; clear hwl hw
          gi_wp2_with (first
            | (refine ⟨trivial, ?_⟩; gi_at_call 21; refine (CallsIn.inRound l' (callsIn_wide.2 (HWL.out _ hI'.out.rb hI'.out.n))).mono ?_; rintro e w5 ⟨rfl, hB5⟩; have hI5 := hI'.out.of hJ hB5; have y5 := hI5.y.cell; have bX5 := bX'.out.kept (hB5.block _ bX'.out.lt); have u0 := bX5.cell0; have u1 := bX5.cell1; obtain ⟨fn, tmps, assign, body, hyy, hR⟩ := yield_wide (4 - 1 - 1 - 1) l' (hY _ ⟨(tx, ty), ht⟩ w5 hI5.j); dsimp only at hyy; have HI5 := Lib.hid hI5; clear hI5 bX5 x0 x1 y0 c0 c1 c2 c3 c4 c5 c6))
          refine hR.mono ?_
          rintro e W3 (⟨rfl, hJ3, hk3, ha3⟩ | ⟨rfl, hx3, ha3⟩)
          · gi_wp2
            exact ⟨(keeps_below hB5).trans (ha3.later (by omega)).from, (KS.of_below hB5 hI'.out.n hI'.out.top).trans (ks_at hk3.1 ha3 (by simp) HI5.out.top), HI5.out.step HWC.out hJ3 hk3 ha3 (Nat.le_refl _)⟩
          · gi_wp2
            exact ⟨(keeps_below hB5).trans (ha3.later (by omega)).from, rfl, by rw [filter_snoc pre HWC.out]; exact hx3⟩
  case done =>
    rintro D ys V1 hD rfl hM1 hK
    have hj := hM1.j
    rw [HLL.out] at hj
    have hj2 := hJ.putObj (.deferred none) hj (by omega) hK rfl
    gi_wp2
    go_wp2
    refine ⟨by simp, .inl ⟨_, _, rfl, run_takeDeferred hK, ?_⟩⟩
    exact ⟨_, results_none rfl _ _ _, ⟨_, rfl⟩, .inl ⟨_, rfl, hj2⟩⟩
  case stop =>
    rintro D cd pre V1 hD hpre ⟨rfl, hx⟩ hK
    have hp := hpre.filter (wcond W H l ax ay bx by')
    rw [HLL.out] at hp
    have hx2 := hJx.putObj (.deferred none) hx (by omega) hK rfl
    gi_wp2
    go_wp2
    refine ⟨by simp, .inl ⟨_, _, rfl, run_takeDeferred hK, ?_⟩⟩
    exact ⟨_, results_none rfl _ _ _, ⟨_, rfl⟩, .inr ⟨_, hp, hx2⟩⟩
end Go.Proofs.Ytiggpmennomplaa.Con
