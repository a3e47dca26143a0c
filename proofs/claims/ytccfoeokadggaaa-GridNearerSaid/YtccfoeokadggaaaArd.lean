/-
  The contract of Around at the law's own small case: three tiles.
-/
import Derived.Test.YtccfoeokadggaaaBox
import Derived.Test.YtccfoeokadggaaaBit
import Derived.RangeFuncBox
import Derived.Maps.AppendAt
import Derived.Deep.AppendLies
namespace Go.Proofs.Ytccfoeokadggaaa.Con
open Go.RowKit Go.Shelf Wlk
attribute [local go_sem] Oper.semAt_some

theorem info23 : (Try.prog.info? 23).map (fun i => (i.zero, i.size, i.bytes)) = some (some (.agg #[.int .i64 0, .int .i64 0]), 2, 16) := by kernel_rfl

/-- The small grid's walls: none. -/
def open12 : List Bool := List.replicate 12 false
/-- Which tiles are kept. -/
def kept (q : Tile) : Bool := !wallB 6 2 open12 q.1.1 q.1.2 && nearB 0 0 q.1.1 q.1.2 1
def flat (qs : List Tile) : List Value := qs.flatMap fun q => [.int .i64 q.1.1, .int .i64 q.1.2]
theorem flat_snoc (qs : List Tile) (q : Tile) : flat (qs ++ [q]) = flat qs ++ [.int .i64 q.1.1, .int .i64 q.1.2] := by simp [flat]
theorem kept_yes (pre : List Tile) {q : Tile} (h : kept q = true) : (pre ++ [q]).filter kept = pre.filter kept ++ [q] := by simp [h]
theorem kept_no (pre : List Tile) {q : Tile} (h : kept q = false) : (pre ++ [q]).filter kept = pre.filter kept := by simp [h]
theorem kept_tiles : (tiles.filter kept).length = 3 := by decide

/-- What holds between two rounds. -/
structure AMid (A : Option Addr) (w : World) (P b1 b2 b3 b4 : Nat) (pre : List Tile) (V : World) : Prop where
  row : ∃ v, Boxed V P 35 v ∧ V.ownsRow P 23 2 v (pre.filter kept).length (flat (pre.filter kept)) ∧ True
  grid : V.heap[w.heap.size]? = some (.cells #[.int .i64 6, .int .i64 2, .slice A 12 12] 29 (0, 0))
  tile : BoxP V (w.heap.size + 1) 0 0
  num : Boxed V (w.heap.size + 1 + 1) 3 (.int .i64 1)
  below : Below w.heap.size w V
  four : Four b1 b2 b3 b4 V

theorem amid_own {A : Option Addr} {w : World} {P B b1 b2 b3 b4 : Nat} (hB : w.heap.size ≤ B) : OwnFrom B (AMid A w P b1 b2 b3 b4) :=
  fun s V V' row h hg hr => ⟨Own.from (holdsRow_own P P 35 23 2 (fun (pre : List Tile) => (pre.filter kept).length) (fun pre => flat (pre.filter kept)) (fun _ _ => True)) B s V V' row h.row hg hr,
    own_at h.grid hg hr, own_at h.tile hg hr, own_at h.num hg hr, h.below.grown hg h.below.size (fun k e => Nat.le_trans hB (hr k e).1),
    own_at h.four.1 hg hr, own_at h.four.2.1 hg hr, own_at h.four.2.2.1 hg hr, own_at h.four.2.2.2 hg hr⟩
theorem ownsRow_below {V V' : World} {P e size k : Nat} {v : Value} {xs : List Value} (h : V.ownsRow P e size v k xs) (hb : Below V.heap.size V V') : V'.ownsRow P e size v k xs := by
  refine ⟨h.1, ?_⟩
  rcases h.2 with h2 | ⟨g, cap, cur, h1, h2, h3, h4⟩
  · exact .inl h2
  · exact .inr ⟨g, cap, cur, h1, h2, (hb.block _ (Array.getElem?_eq_some_iff.1 h3).1).trans h3, h4⟩
theorem AMid.of {A : Option Addr} {w : World} {P b1 b2 b3 b4 : Nat} {pre : List Tile} {V V' : World} (h : AMid A w P b1 b2 b3 b4 pre V) (hb : Below V.heap.size V V') : AMid A w P b1 b2 b3 b4 pre V' := by
  obtain ⟨v, h1, h2, h3⟩ := h.row
  exact ⟨⟨v, (hb.block _ h1.lt).trans h1, ownsRow_below h2 hb, h3⟩, (hb.block _ (Array.getElem?_eq_some_iff.1 h.grid).1).trans h.grid, h.tile.kept (hb.block _ h.tile.lt), (hb.block _ h.num.lt).trans h.num, h.below.trans (hb.mono h.below.size),
    (hb.block _ h.four.1.lt).trans h.four.1, (hb.block _ h.four.2.1.lt).trans h.four.2.1, (hb.block _ h.four.2.2.1.lt).trans h.four.2.2.1, (hb.block _ h.four.2.2.2.lt).trans h.four.2.2.2⟩
theorem AMid.no {A : Option Addr} {w : World} {P b1 b2 b3 b4 : Nat} {pre : List Tile} {V : World} {q : Tile} (h : AMid A w P b1 b2 b3 b4 pre V) (hq : kept q = false) : AMid A w P b1 b2 b3 b4 (pre ++ [q]) V :=
  ⟨by rw [kept_no pre hq]; exact h.row, h.grid, h.tile, h.num, h.below, h.four⟩
theorem k4_of {n₀ b1 b2 b3 b4 : Nat} {V V' : World} (hF : Four b1 b2 b3 b4 V) (hb : Below V.heap.size V V') (hn : n₀ ≤ V.heap.size) : K4 n₀ b1 b2 b3 b4 V V' :=
  ⟨hb.mono hn, hb.block _ hF.1.lt, hb.block _ hF.2.1.lt, hb.block _ hF.2.2.1.lt, hb.block _ hF.2.2.2.lt⟩

/-- A tile is appended: what the round leaves. -/
theorem AMid.yes {A : Option Addr} {w : World} {P b1 b2 b3 b4 : Nat} {pre : List Tile} {V w1 : World} {q : Tile} {v v' : Value} {tmp : Obj} (h : AMid A w P b1 b2 b3 b4 pre V) (hq : kept q = true) (hP : w.heap.size + 1 + 1 < P)
    (hv : Boxed V P 35 v) (hrow : V.ownsRow P 23 2 v (pre.filter kept).length (flat (pre.filter kept))) (hb : b1 ≠ P ∧ b2 ≠ P ∧ b3 ≠ P ∧ b4 ≠ P)
    (hown' : w1.ownsRow P 23 2 v' ((pre.filter kept).length + 1) (flat (pre.filter kept) ++ [.int .i64 q.1.1, .int .i64 q.1.2])) (hgrow : (V.alloc tmp).grownBy w1 v.ownBlock) :
    AMid A w P b1 b2 b3 b4 (pre ++ [q]) (w1.setCell ⟨P, 0, none⟩ v') ∧ KeepsOthers V (w1.setCell ⟨P, 0, none⟩ v') ∧ K4 w.heap.size b1 b2 b3 b4 V (w1.setCell ⟨P, 0, none⟩ v') := by
  obtain ⟨hv1, hv2, hr2, hk2, hb2⟩ := hv.appended (by decide) hrow (Nat.le_of_lt hv.lt) (Nat.le_refl _) hown' hgrow
  have old : ∀ {b : Nat} {u : Value}, Boxed V b 3 u → b ≠ P → Boxed (w1.setCell ⟨P, 0, none⟩ v') b 3 u := fun hbx hne => (((hbx.alloc tmp).kept hgrow (hbx.not_row (by decide) hrow))).other hne v'
  have hn : 0 < 1 := by decide
  obtain ⟨f1, f2, f3, f4⟩ := h.four
  obtain ⟨n1, n2, n3, n4⟩ := hb
  have g1 := old f1 n1
  have g2 := old f2 n2
  have g3 := old f3 n3
  have g4 := old f4 n4
  refine ⟨⟨⟨v', hv2, by rw [kept_yes pre hq, flat_snoc, List.length_append]; exact hr2, trivial⟩, (hb2.block _ (by omega)).trans h.grid, h.tile.kept (hb2.block _ (by omega)), (hb2.block _ (by omega)).trans h.num, h.below.trans (hb2.mono (by omega)), g1, g2, g3, g4⟩,
    hk2, hb2.mono (by omega), g1.trans f1.symm, g2.trans f2.symm, g3.trans f3.symm, g4.trans f4.symm⟩

/-- The activation in a round. -/
abbrev act19 (A : Option Addr) (s P b1 b2 b3 b4 Bx : Nat) (x : Tile) : Act :=
  { tmps := #[gv 6 2 A 12 12, pv 0 0, .int .i64 1, .pointer (some ⟨s, 0, none⟩), .pointer (some ⟨s + 1, 0, none⟩), .pointer (some ⟨s + 1 + 1, 0, none⟩), .slice none 0 0, .pointer (some ⟨P, 0, none⟩), .pointer (some ⟨Bx, 0, none⟩),
      gv 6 2 A 12 12, .bool true, .bool false, .bool false, .int .i64 1, .bool false, .bool false, gv 6 2 A 12 12, pv 0 0, .int .i64 1,
      .func (.func 39) #[] #[.pointer (some ⟨b3, 0, none⟩), .pointer (some ⟨b4, 0, none⟩), .pointer (some ⟨b1, 0, none⟩), .pointer (some ⟨b2, 0, none⟩)],
      pv x.1.1 x.1.2, undef, undef, undef, undef, undef, undef, undef, undef, undef, undef, undef, undef, undef, undef, undef], defers := [] }
def Ax19 (A : Option Addr) (s P b1 b2 b3 b4 : Nat) (x : Tile) (a' : Act) (V : World) : Prop := ∃ Bx, BoxP V Bx x.1.1 x.1.2 ∧ a' = act19 A s P b1 b2 b3 b4 Bx x

abbrev aopen (A : Option Addr) (w : World) : World := ((w.alloc (.cells #[.int .i64 6, .int .i64 2, .slice A 12 12] 29)).alloc (.cells #[.int .i64 0, .int .i64 0] 23)).alloc (.cells #[.int .i64 1] 3)
theorem three' {A : Option Addr} {w : World} {m : Nat} (h : (aopen A w).heap.size ≤ m) : w.heap.size < m ∧ w.heap.size + 1 < m ∧ w.heap.size + 1 + 1 < m := by simp at h; omega

set_option maxRecDepth 100000 in
set_option maxHeartbeats 4000000 in
theorem around_small (A : Option Addr) (w : World) (hl : RB w w.heap.size A open12) :
    Calls Try.prog 19 #[gv 6 2 A 12 12, pv 0 0, .int .i64 1] w fun e w' => (∃ A' c', e = .returned (.slice A' 3 c')) ∧ Below w.heap.size w w' := by
  have hb0 : Below w.heap.size w (aopen A w) := (((Below.refl _ w).alloc (Nat.le_refl _) _).alloc (by simp) _).alloc (by simp; omega) _
  have hg0 : (aopen A w).heap[w.heap.size]? = some (.cells #[.int .i64 6, .int .i64 2, .slice A 12 12] 29 (0, 0)) := old_at (old_at (new_at _ _ rfl))
  have hp0 : BoxP (aopen A w) (w.heap.size + 1) 0 0 := old_at (new_at _ _ (by simp))
  have hn0 : Boxed (aopen A w) (w.heap.size + 1 + 1) 3 (.int .i64 1) := new_at _ _ (by simp)
  have HG := Lib.hid hg0; have HP := Lib.hid hp0; have HN := Lib.hid hn0
  clear hg0 hp0 hn0
  have hright : ∀ w : World, Calls Try.prog 30 #[gv 6 2 A 12 12] w fun e w' => e = .returned (.bool true) ∧ Below w.heap.size w w' := fun w => right_any 6 2 A 12 12 w
  have HRt := Lib.hid hright; clear hright
  obtain ⟨i0, hi, hz0, hz1, hz2⟩ := info_parts info23
  refine (callsIn_wide (n := 3)).1 ?_
  refine callsIn_of_wp_marks Try.func19 rfl trivial ?_ rfl
  simp only [Try.ntmps19, List.size_toArray, List.length_cons, List.length_nil, Nat.reduceAdd, Nat.reduceSub, Array.replicate_succ, Array.replicate_zero, List.push_toArray, List.append_toArray, List.nil_append, List.cons_append]
  refine wpIn_wide.2 ?_
  go_wp2_with (first
    | ((with_reducible refine (HRt.out _).mono ?_); rintro e w1 ⟨rfl, hB⟩; obtain ⟨hc1, hf1⟩ := bcell hB; obtain ⟨z0, z1, z2⟩ := three' hB.size; have HB := Lib.hid hB; clear hB)
    | ((with_reducible refine (box_small A _).mono ?_); rintro e w2 ⟨b1, b2, b3, b4, rfl, hbs, hfour, hB2⟩))
  have hW2 : Below (w1.alloc (.cells #[.slice none 0 0] 35)).heap.size (w1.alloc (.cells #[.slice none 0 0] 35)) w2 := hB2
  have hU : Below (aopen A w).heap.size (aopen A w) w2 := (HB.out.alloc HB.out.size _).trans (hW2.mono (by have := HB.out.size; simp at this ⊢; omega))
  have hsz : w1.heap.size + 1 ≤ w2.heap.size := by have := hW2.size; simp at this; exact this
  have hP : w.heap.size + 1 + 1 < w1.heap.size := z2
  have hM : AMid A w w1.heap.size b1 b2 b3 b4 [] w2 :=
    ⟨⟨.slice none 0 0, (hW2.block _ (by simp)).trans (new_at _ _ rfl), World.ownsRow_nil _ _ _ _, trivial⟩, (hU.block _ (by simp <;> omega)).trans HG.out, HP.out.kept (hU.block _ (by simp)), (hU.block _ (by simp)).trans HN.out, hb0.trans (hU.mono hb0.size), hfour⟩
  have hbn : b1 ≠ w1.heap.size ∧ b2 ≠ w1.heap.size ∧ b3 ≠ w1.heap.size ∧ b4 ≠ w1.heap.size := by simp at hbs; omega
  have HSZ := Lib.hid hsz
  clear hU hW2 hB2 hbs hsz hc1 hf1 z0 z1 z2
  generalize w1.heap.size = P at hM hP hbn HSZ ⊢
  refine (wpIn_wide (n := 3)).1 ?_
  refine wpIn_rangeFunc_ownH rfl (by omega) (gf := 39) (lb := #[.pointer (some ⟨b3, 0, none⟩), .pointer (some ⟨b4, 0, none⟩), .pointer (some ⟨b1, 0, none⟩), .pointer (some ⟨b2, 0, none⟩)]) rfl trivial (enters_of Try.func39 (by kernel_rfl) rfl)
    (bstops (n₀ := w.heap.size) hfour) (fun h k => h.trans k)
    (fun V k o o' hk h _ _ => ⟨⟨rfl, rfl, rfl, by simp, fun j hj => World.putObj_heap_other (by have := HSZ.out; omega)⟩, World.putObj_heap_other (by have := hfour.1.lt; omega), World.putObj_heap_other (by have := hfour.2.1.lt; omega), World.putObj_heap_other (by have := hfour.2.2.1.lt; omega), World.putObj_heap_other (by have := hfour.2.2.2.lt; omega)⟩)
    (Below.refl _ _) (fun _ => rfl)
    (AMid A w P b1 b2 b3 b4) (fun _ _ _ => False) (amid_own (by have := HSZ.out; omega)) (fun _ _ _ _ _ hs _ _ => hs) hM
    (Ax19 A w.heap.size P b1 b2 b3 b4) (fun x a' _ X Y row hs hg hr => by obtain ⟨Bx, h2, h3⟩ := hs; exact ⟨Bx, own_at h2 hg hr, h3⟩) ?assign ?body ?done ?stop
  case assign =>
    rintro l' pre x V K hI hK
    gi_wp2
    exact hK _ _ ((KeepsOthers.alloc _ _).from _) (k4_of hI.four ((Below.refl _ V).alloc (Nat.le_refl _) _) hI.below.size) (hI.of ((Below.refl _ V).alloc (Nat.le_refl _) _)) ⟨V.heap.size, BoxP.new V _ _, rfl⟩
  case body =>
    rintro l' pre x a' V hl' hr' hI ⟨Bx, bX, rfl⟩ hlt
    have g0 : V.cell? ⟨w.heap.size, 0, none⟩ = some (.int .i64 6) := by simp [World.cell?, hI.grid]
    have g1 : V.cell? ⟨w.heap.size, 1, none⟩ = some (.int .i64 2) := by simp [World.cell?, hI.grid]
    have g2 : V.cell? ⟨w.heap.size, 2, none⟩ = some (.slice A 12 12) := by simp [World.cell?, hI.grid]
    have x0 := bX.cell0
    have x1 := bX.cell1
    have hRB := Lib.hid (hl.below hI.below (Nat.le_refl _))
    have hBV := hI.below.size
    have hI' := Lib.hid hI
    have bX' := Lib.hid bX
    clear hI bX
    have fx1 : Fits x.1.1 := by have := x.2.1; unfold Fits; omega
    have fx2 : Fits x.1.2 := by have := x.2.2; unfold Fits; omega
    cases hw : wallB 6 2 open12 x.1.1 x.1.2 with
    | true =>
      gi_wp2_with (first
        | (refine ⟨trivial, ?_⟩; gi_at_call 18; refine (CallsIn.inRound l' (callsIn_wide.2 (wall_any 6 2 A open12 12 x.1.1 x.1.2 _ w.heap.size hRB.out hBV))).mono ?_; rintro e w5 ⟨rfl, hB5⟩))
      refine ⟨trivial, ?_⟩
      gi_wp2
      exact ⟨keeps_below hB5, k4_of hI'.out.four hB5 hI'.out.below.size, (hI'.out.of hB5).no (by unfold kept; rw [hw]; rfl)⟩
    | false =>
      cases hnr : nearB 0 0 x.1.1 x.1.2 1 with
      | false =>
        gi_wp2_with (first
          | (refine ⟨trivial, ?_⟩; gi_at_call 18; refine (CallsIn.inRound l' (callsIn_wide.2 (wall_any 6 2 A open12 12 x.1.1 x.1.2 _ w.heap.size hRB.out hBV))).mono ?_; rintro e w5 ⟨rfl, hB5⟩; have hI5 := Lib.hid (hI'.out.of hB5); have bX5 := Lib.hid (bX'.out.kept (hB5.block _ bX'.out.lt)); have y0 := bX5.out.cell0; have y1 := bX5.out.cell1; have p0 := hI5.out.tile.cell0; have p1 := hI5.out.tile.cell1; have r0 := hI5.out.num.cell; have HB5 := Lib.hid hB5; clear hB5 g0 g1 g2 x0 x1)
          | (refine ⟨trivial, ?_⟩; gi_at_call 12; refine (CallsIn.inRound l' (callsIn_wide.2 (near_any 0 0 x.1.1 x.1.2 1 _ (by unfold Fits; omega) (by unfold Fits; omega) fx1 fx2 (by unfold Fits; omega)))).mono ?_; rintro e w6 ⟨rfl, hB6⟩))
        exact ⟨keeps_below (HB5.out.trans (hB6.mono HB5.out.size)), k4_of hI'.out.four (HB5.out.trans (hB6.mono HB5.out.size)) hI'.out.below.size, (hI5.out.of hB6).no (by unfold kept; rw [hw, hnr]; rfl)⟩
      | true =>
        have hkx : kept x = true := by unfold kept; rw [hw, hnr]; rfl
        have hpl : (pre.filter kept).length ≤ 3 := by have h1 := List.length_filter_le kept pre; have h2 : pre.length < 4 := hlt; omega
        gi_wp2_with (first
          | (refine ⟨trivial, ?_⟩; gi_at_call 18; refine (CallsIn.inRound l' (callsIn_wide.2 (wall_any 6 2 A open12 12 x.1.1 x.1.2 _ w.heap.size hRB.out hBV))).mono ?_; rintro e w5 ⟨rfl, hB5⟩; have hI5 := Lib.hid (hI'.out.of hB5); have bX5 := Lib.hid (bX'.out.kept (hB5.block _ bX'.out.lt)); have y0 := bX5.out.cell0; have y1 := bX5.out.cell1; have p0 := hI5.out.tile.cell0; have p1 := hI5.out.tile.cell1; have r0 := hI5.out.num.cell; have HB5 := Lib.hid hB5; clear hB5 g0 g1 g2 x0 x1)
          | (refine ⟨trivial, ?_⟩; gi_at_call 12; refine (CallsIn.inRound l' (callsIn_wide.2 (near_any 0 0 x.1.1 x.1.2 1 _ (by unfold Fits; omega) (by unfold Fits; omega) fx1 fx2 (by unfold Fits; omega)))).mono ?_; rintro e w6 ⟨rfl, hB6⟩; obtain ⟨v, hv, hrow, _⟩ := (hI5.out.of hB6).row; have hc := hv.cell; have q0 := (bX5.out.kept (hB6.block _ bX5.out.lt)).cell0; have q1 := (bX5.out.kept (hB6.block _ bX5.out.lt)).cell1; have hI6 := Lib.hid (hI5.out.of hB6); have HB6 := Lib.hid hB6; have hPl := hv.lt; have hROW := Lib.hid hrow; have hVB := Lib.hid hv; clear hB6 hrow hv y0 y1 p0 p1 r0)
          | (gi_at_builtin; refine wpListIn_append_own _ rfl _ _ 35 rfl P 23 i0 (.agg #[.int .i64 0, .int .i64 0]) 2 16 Try.underlying35 hi hz0 hz1 hz2 rfl (by decide) _ _ _ rfl (hROW.out.alloc _) ⟨w6.heap.size, 0, none⟩ 1 1 [.int .i64 x.1.1, .int .i64 x.1.2] rfl rfl (World.news_of_block (cs := #[.int .i64 x.1.1, .int .i64 x.1.2]) (t := 23) (fr := (0, 0)) (World.alloc_heap_new _ _)) (by simp [Value.oneCell']) (by unfold maxLen; omega) (by omega) (by simp; omega) ?_; intro v' wz hown' hgrow _; obtain ⟨g', cap', rfl⟩ := ownsRow_succ hown'; have hv1 := (hVB.out.alloc _).kept hgrow (hVB.out.not_row (by decide) hROW.out); have hc1 := hv1.cell; have hf1 := hv1.frozen; have hY := Lib.hid (hI6.out.yes hkx hP hVB.out hROW.out hbn hown' hgrow); clear hv1 hown' hgrow))
        exact ⟨(keeps_below (HB5.out.trans (HB6.out.mono HB5.out.size))).trans (hY.out.2.1.from _), (k4_of hI'.out.four (HB5.out.trans (HB6.out.mono HB5.out.size)) hI'.out.below.size).trans hY.out.2.2, hY.out.1⟩
  case done =>
    rintro D ys V hD rfl hM1 hK
    obtain ⟨v, hv, hrow, _⟩ := hM1.row
    rw [kept_tiles] at hrow
    have hc := hv.cell
    obtain ⟨g, cap, cur, rfl, _⟩ : ∃ g cap cur, v = .slice (some ⟨g, 0, none⟩) 3 cap ∧ (cur : Nat) = 0 := by
      rcases hrow.2 with ⟨_, h⟩ | ⟨g, cap, cur, h, _⟩
      · cases h
      · exact ⟨g, cap, 0, h, rfl⟩
    gi_wp2
    go_wp2
    refine ⟨by simp, .inl ⟨_, _, rfl, run_takeDeferred hK, ?_⟩⟩
    exact ⟨_, results_tmp rfl _ _ _, ⟨_, _, rfl⟩, hM1.below.trans (belowK_b (w := w) (Nat.le_refl _) V D _ _ (by have := HSZ.out; omega) hK rfl rfl)⟩
  case stop =>
    rintro D cd pre V _ _ h _
    exact h.elim
end Go.Proofs.Ytccfoeokadggaaa.Con
