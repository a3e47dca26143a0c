/-
  The contracts of slices.AppendSeq and slices.Collect at a line's iterator: the row of its tiles, in new memory.
-/
import Derived.Test.YtiggpmennomplaaLni
import Derived.Test.YtiggpmennomplaaArn
namespace Go.Proofs.Ytiggpmennomplaa.Con
open Go.RowKit Go.Shelf Lin Arn
attribute [local go_sem] Oper.semAt_some

theorem lstops (n : Nat) (hn : 1 ≤ n) {ax ay bx by' : Int} (g : Geo ax ay bx by') {q : LB} {s0 s1 n₀ : Nat} (hq : q.within s0 s1) {W0 : World} (hM : LineM W0 q ax ay bx by') (hs : s1 ≤ W0.heap.size) :
    SeqStopsK Fence.wide n Try.prog 46 #[pt q.a, pt q.b, pt q.l, pt q.s, pt q.r] (fun x : Tile => #[pv x.1.1 x.1.2]) (KS n₀ s0 s1) (fun ys => ys = lineL ax ay bx by') (fun pre => pre <+: lineL ax ay bx by') (lineL ax ay bx by').length W0 :=
  fun l J Jx W hW _ _ hY h0 => linei_in n hn l n₀ s0 s1 q g hq J Jx W (hM.kept hq (fun k _ h1 => hW.block k (by omega))) hY h0

theorem line_few {ax ay bx by' : Int} (g : Geo ax ay bx by') : (lineL ax ay bx by').length ≤ 66049 := by
  have h1 := List.length_filter_le (touch ax ay bx by') (rowsAt (lo ax bx) (lo ay by') (span ax bx) (span ay by'))
  rw [rowsAt_len] at h1
  have i1 := lo_in g.a1 g.b1
  have i2 := lo_in g.a2 g.b2
  have := Nat.mul_le_mul (show span ay by' ≤ 257 by unfold span; omega) (show span ax bx ≤ 257 by unfold span; omega)
  unfold lineL
  omega

/-- What holds between two rounds. -/
structure CMid (w : World) (q : LB) (ax ay bx by' : Int) (pre : List Tile) (V : World) : Prop where
  row : ∃ v, Boxed V w.heap.size 32 v ∧ V.ownsRow w.heap.size 26 2 v pre.length (flat pre) ∧ (v = .slice none 0 0 ↔ pre = [])
  below : Below w.heap.size w V

theorem cmid_own {w : World} {q : LB} {ax ay bx by' : Int} {B : Nat} (hB : w.heap.size ≤ B) : OwnFrom B (CMid w q ax ay bx by') :=
  fun s V V' row h hg hr => ⟨Own.from (holdsRow_own w.heap.size w.heap.size 32 26 2 (fun (pre : List Tile) => pre.length) (fun pre => flat pre) (fun pre v => v = .slice none 0 0 ↔ pre = [])) B s V V' row h.row hg hr,
    h.below.grown hg h.below.size (fun k e => Nat.le_trans hB (hr k e).1)⟩
theorem CMid.of {w : World} {q : LB} {ax ay bx by' : Int} {pre : List Tile} {V V' : World} (h : CMid w q ax ay bx by' pre V) (hb : Below V.heap.size V V') : CMid w q ax ay bx by' pre V' := by
  obtain ⟨v, h1, h2, h3⟩ := h.row
  exact ⟨⟨v, (hb.block _ h1.lt).trans h1, ownsRow_below h2 hb, h3⟩, h.below.trans (hb.mono h.below.size)⟩

/-- A tile is appended: what the round leaves. -/
theorem CMid.yes {w : World} {q : LB} {ax ay bx by' : Int} {pre : List Tile} {V w1 : World} {x : Tile} {v v' : Value} {tmp : Obj} {s0 s1 : Nat} (h : CMid w q ax ay bx by' pre V) (hs : s1 ≤ w.heap.size)
    (hv : Boxed V w.heap.size 32 v) (hrow : V.ownsRow w.heap.size 26 2 v pre.length (flat pre))
    (hown' : w1.ownsRow w.heap.size 26 2 v' (pre.length + 1) (flat pre ++ [.int .i64 x.1.1, .int .i64 x.1.2])) (hgrow : (V.alloc tmp).grownBy w1 v.ownBlock) :
    CMid w q ax ay bx by' (pre ++ [x]) (w1.setCell ⟨w.heap.size, 0, none⟩ v') ∧ KeepsOthers V (w1.setCell ⟨w.heap.size, 0, none⟩ v') ∧ KS w.heap.size s0 s1 V (w1.setCell ⟨w.heap.size, 0, none⟩ v') := by
  obtain ⟨hv1, hv2, hr2, hk2, hb2⟩ := hv.appended (by decide) hrow h.below.size (Nat.le_refl _) hown' hgrow
  refine ⟨⟨⟨v', hv2, by rw [flat_snoc, List.length_append]; exact hr2, by
      constructor
      · intro e
        rcases hown'.2 with ⟨_, h0⟩ | ⟨g, cap, cur, h0, _⟩
        · omega
        · rw [h0] at e; cases e
      · intro e; simp at e⟩, h.below.trans hb2⟩, hk2, hb2, fun k _ h1 => hb2.block k (by omega)⟩

abbrev actC (w : World) (sq : Value) (Bx : Nat) (x : Tile) : Act :=
  { tmps := #[.slice none 0 0, sq, pt w.heap.size, undef, .slice none 0 0, pt Bx, sq, pv x.1.1 x.1.2, undef, undef, undef, undef, undef], defers := [] }
def AxC (w : World) (sq : Value) (x : Tile) (a' : Act) (V : World) : Prop := ∃ Bx, BoxP V Bx x.1.1 x.1.2 ∧ a' = actC w sq Bx x

set_option maxRecDepth 100000 in
set_option maxHeartbeats 4000000 in
theorem append_line {ax ay bx by' : Int} (g : Geo ax ay bx by') (q : LB) (s0 s1 : Nat) (hq : q.within s0 s1) (w : World) (hs : s1 ≤ w.heap.size) (hM : LineM w q ax ay bx by') :
    Calls Try.prog 44 #[.slice none 0 0, .func (.func 46) #[] #[pt q.a, pt q.b, pt q.l, pt q.s, pt q.r]] w fun e w' =>
      (∃ v, e = .returned v ∧ w'.ownsRow w.heap.size 26 2 v (lineL ax ay bx by').length (flat (lineL ax ay bx by')) ∧ (v = .slice none 0 0 ↔ lineL ax ay bx by' = [])) ∧ Below w.heap.size w w' := by
  obtain ⟨i0, hi, hz0, hz1, hz2⟩ := info_parts infoPos
  have hfew := line_few g
  have HF := Lib.hid hfew; clear hfew
  refine (callsIn_wide (n := 3)).1 ?_
  refine callsIn_of_wp_marks Try.func44 rfl trivial ?_ rfl
  simp only [Try.ntmps44, List.size_toArray, List.length_cons, List.length_nil, Nat.reduceAdd, Nat.reduceSub, Array.replicate_succ, Array.replicate_zero, List.push_toArray, List.append_toArray, List.nil_append, List.cons_append]
  refine wpIn_wide.2 ?_
  go_wp2
  have hM0 : CMid w q ax ay bx by' [] (w.alloc (.cells #[.slice none 0 0] 32)) :=
    ⟨⟨.slice none 0 0, new_at _ _ rfl, World.ownsRow_nil _ _ _ _, by simp⟩, (Below.refl _ w).alloc (Nat.le_refl _) _⟩
  refine (wpIn_wide (n := 3)).1 ?_
  refine wpIn_rangeFunc_ownH rfl (by omega) (gf := 46) (lb := #[pt q.a, pt q.b, pt q.l, pt q.s, pt q.r]) rfl trivial (enters_of Try.func46 (by kernel_rfl) rfl)
    (lstops 2 (by omega) g (n₀ := w.heap.size) hq (hM.kept (V' := w.alloc (.cells #[.slice none 0 0] 32)) hq (fun k _ h1 => Below.heap_alloc _ _ _ (by omega))) (by simp; omega)) (fun h k => h.trans k)
    (fun V k o o' hk h _ _ => KS.putObj (m := w.heap.size + 1) (by omega) (by omega) V k o' (by simpa using hk))
    (Below.refl _ _) (fun _ => rfl)
    (CMid w q ax ay bx by') (fun _ _ _ => False) (cmid_own (by simp)) (fun _ _ _ _ _ hs _ _ => hs) hM0
    (AxC w (.func (.func 46) #[] #[pt q.a, pt q.b, pt q.l, pt q.s, pt q.r])) (fun x a' _ X Y row hs hg hr => by obtain ⟨Bx, h2, h3⟩ := hs; exact ⟨Bx, own_at h2 hg hr, h3⟩) ?assign ?body ?done ?stop
  case assign =>
    rintro l' pre x V K hI hK
    gi_wp2
    exact hK _ _ ((KeepsOthers.alloc _ _).from _) (KS.of_below ((Below.refl _ V).alloc (Nat.le_refl _) _) hI.below.size (Nat.le_trans hs hI.below.size)) (hI.of ((Below.refl _ V).alloc (Nat.le_refl _) _)) ⟨V.heap.size, BoxP.new V _ _, rfl⟩
  case body =>
    rintro l' pre x a' V hl' hr' hI ⟨Bx, bX, rfl⟩ hlt
    have hpl : pre.length ≤ 66049 := by have := HF.out; omega
    obtain ⟨v, hv, hrow, _⟩ := hI.row
    have hc := hv.cell
    have q0 := bX.cell0
    have q1 := bX.cell1
    have hPl := hI.below.size
    have hROW := Lib.hid hrow
    have hVB := Lib.hid hv
    have hI' := Lib.hid hI
    clear hI hrow hv
    gi_wp2_with (first
      | (gi_at_builtin; refine wpListIn_append_own _ rfl _ _ 32 rfl w.heap.size 26 i0 (.agg #[.int .i64 0, .int .i64 0]) 2 16 Try.underlying32 hi hz0 hz1 hz2 rfl (by decide) _ _ _ rfl (hROW.out.alloc _) ⟨V.heap.size, 0, none⟩ 1 1 [.int .i64 x.1.1, .int .i64 x.1.2] rfl rfl (World.news_of_block (cs := #[.int .i64 x.1.1, .int .i64 x.1.2]) (t := 26) (fr := (0, 0)) (World.alloc_heap_new _ _)) (by simp [Value.oneCell']) (by unfold maxLen; omega) (by omega) (by simp; omega) ?_; intro v' wz hown' hgrow _; obtain ⟨g', cap', rfl⟩ := ownsRow_succ hown'; have hv1 := (hVB.out.alloc _).kept hgrow (hVB.out.not_row (by decide) hROW.out); have hc1 := hv1.cell; have hf1 := hv1.frozen; have hY := Lib.hid (hI'.out.yes (s0 := s0) hs hVB.out hROW.out hown' hgrow); clear hv1 hown' hgrow))
    exact ⟨hY.out.2.1.from _, hY.out.2.2, hY.out.1⟩
  case done =>
    rintro D ys V hD rfl hM1 hK
    obtain ⟨v, hv, hrow, hnil⟩ := hM1.row
    have hc := hv.cell
    gi_wp2
    go_wp2
    refine ⟨by simp, .inl ⟨_, _, rfl, run_takeDeferred hK, ?_⟩⟩
    exact ⟨_, results_tmp rfl _ _ _, ⟨v, rfl, ownsRow_putObj hrow _ hK rfl, hnil⟩, hM1.below.trans (belowK_b (w := w) (Nat.le_refl _) V D _ _ (by simp at hD; omega) hK rfl rfl)⟩
  case stop =>
    rintro D cd pre V _ _ h _
    exact h.elim

theorem collect_line {ax ay bx by' : Int} (g : Geo ax ay bx by') (q : LB) (s0 s1 : Nat) (hq : q.within s0 s1) (w : World) (hs : s1 ≤ w.heap.size) (hM : LineM w q ax ay bx by') :
    Calls Try.prog 28 #[.func (.func 46) #[] #[pt q.a, pt q.b, pt q.l, pt q.s, pt q.r]] w fun e w' =>
      (∃ v, e = .returned v ∧ w'.ownsRow w.heap.size 26 2 v (lineL ax ay bx by').length (flat (lineL ax ay bx by')) ∧ (v = .slice none 0 0 ↔ lineL ax ay bx by' = [])) ∧ Below w.heap.size w w' := by
  have hap := append_line g q s0 s1 hq w hs hM
  have HA := Lib.hid hap; clear hap
  go_enter Try.func28, Try.ntmps28
  go_wp2_with (first | ((with_reducible refine HA.out.mono ?_); rintro e w1 ⟨⟨v, rfl, hr, hn⟩, hB⟩))
  go_ret
  exact ⟨⟨v, rfl, hr, hn⟩, hB⟩
end Go.Proofs.Ytiggpmennomplaa.Con
