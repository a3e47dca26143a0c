/-
  The contract of Around: for every grid whose walls read as a list, every tile and every number: the tiles of the box that are no walls and near, row by row; only new memory is made.
-/
import Derived.Test.YtiggpmennomplaaBxg
import Derived.Test.YtiggpmennomplaaBxi
import Derived.RangeFuncBox
import Derived.Maps.AppendAt
import Derived.Deep.AppendLies
namespace Go.Proofs.Ytiggpmennomplaa.Arn
open Go.RowKit Go.Shelf Wlk Con
attribute [local go_sem] Oper.semAt_some

theorem infoPos : (Try.prog.info? 26).map (fun i => (i.zero, i.size, i.bytes)) = some (some (.agg #[.int .i64 0, .int .i64 0]), 2, 16) := by kernel_rfl

/-- A grid, a tile and a number, as Around is asked. -/
structure Ask where
  W : Int
  H : Int
  A : Option Addr
  l : List Bool
  c : Nat
  px : Int
  py : Int
  r : Int
/-- Which tiles are kept. -/
def kept (a : Ask) (q : Tile) : Bool := !wallB a.W a.H a.l q.1.1 q.1.2 && nearB a.px a.py q.1.1 q.1.2 a.r
def flat (qs : List Tile) : List Value := qs.flatMap fun q => [.int .i64 q.1.1, .int .i64 q.1.2]
theorem flat_snoc (qs : List Tile) (q : Tile) : flat (qs ++ [q]) = flat qs ++ [.int .i64 q.1.1, .int .i64 q.1.2] := by simp [flat]
theorem kept_yes (a : Ask) (pre : List Tile) {q : Tile} (h : kept a q = true) : (pre ++ [q]).filter (kept a) = pre.filter (kept a) ++ [q] := by simp [h]
theorem kept_no (a : Ask) (pre : List Tile) {q : Tile} (h : kept a q = false) : (pre ++ [q]).filter (kept a) = pre.filter (kept a) := by simp [h]

/-- What holds between two rounds. -/
structure AMid (a : Ask) (L R T B : Int) (w : World) (P b1 b2 b3 b4 : Nat) (pre : List Tile) (V : World) : Prop where
  row : ∃ v, Boxed V P 32 v ∧ V.ownsRow P 26 2 v (pre.filter (kept a)).length (flat (pre.filter (kept a))) ∧ (v = .slice none 0 0 ↔ pre.filter (kept a) = [])
  grid : V.heap[w.heap.size]? = some (.cells #[.int .i64 a.W, .int .i64 a.H, .slice a.A a.l.length a.c] 24 (0, 0))
  tile : BoxP V (w.heap.size + 1) a.px a.py
  num : Boxed V (w.heap.size + 1 + 1) 3 (.int .i64 a.r)
  below : Below w.heap.size w V
  four : FourI b1 b2 b3 b4 L R T B V

theorem amid_own {a : Ask} {L R T Bt : Int} {w : World} {P B b1 b2 b3 b4 : Nat} (hB : w.heap.size ≤ B) : OwnFrom B (AMid a L R T Bt w P b1 b2 b3 b4) :=
  fun s V V' row h hg hr => ⟨Own.from (holdsRow_own P P 32 26 2 (fun (pre : List Tile) => (pre.filter (kept a)).length) (fun pre => flat (pre.filter (kept a))) (fun pre v => v = .slice none 0 0 ↔ pre.filter (kept a) = [])) B s V V' row h.row hg hr,
    own_at h.grid hg hr, own_at h.tile hg hr, own_at h.num hg hr, h.below.grown hg h.below.size (fun k e => Nat.le_trans hB (hr k e).1),
    own_at h.four.1 hg hr, own_at h.four.2.1 hg hr, own_at h.four.2.2.1 hg hr, own_at h.four.2.2.2 hg hr⟩
theorem ownsRow_below {V V' : World} {P e size k : Nat} {v : Value} {xs : List Value} (h : V.ownsRow P e size v k xs) (hb : Below V.heap.size V V') : V'.ownsRow P e size v k xs := by
  refine ⟨h.1, ?_⟩
  rcases h.2 with h2 | ⟨g, cap, cur, h1, h2, h3, h4⟩
  · exact .inl h2
  · exact .inr ⟨g, cap, cur, h1, h2, (hb.block _ (Array.getElem?_eq_some_iff.1 h3).1).trans h3, h4⟩
theorem AMid.of {a : Ask} {L R T B : Int} {w : World} {P b1 b2 b3 b4 : Nat} {pre : List Tile} {V V' : World} (h : AMid a L R T B w P b1 b2 b3 b4 pre V) (hb : Below V.heap.size V V') : AMid a L R T B w P b1 b2 b3 b4 pre V' := by
  obtain ⟨v, h1, h2, h3⟩ := h.row
  exact ⟨⟨v, (hb.block _ h1.lt).trans h1, ownsRow_below h2 hb, h3⟩, (hb.block _ (Array.getElem?_eq_some_iff.1 h.grid).1).trans h.grid, h.tile.kept (hb.block _ h.tile.lt), (hb.block _ h.num.lt).trans h.num, h.below.trans (hb.mono h.below.size),
    (hb.block _ h.four.1.lt).trans h.four.1, (hb.block _ h.four.2.1.lt).trans h.four.2.1, (hb.block _ h.four.2.2.1.lt).trans h.four.2.2.1, (hb.block _ h.four.2.2.2.lt).trans h.four.2.2.2⟩
theorem AMid.no {a : Ask} {L R T B : Int} {w : World} {P b1 b2 b3 b4 : Nat} {pre : List Tile} {V : World} {q : Tile} (h : AMid a L R T B w P b1 b2 b3 b4 pre V) (hq : kept a q = false) : AMid a L R T B w P b1 b2 b3 b4 (pre ++ [q]) V :=
  ⟨by rw [kept_no a pre hq]; exact h.row, h.grid, h.tile, h.num, h.below, h.four⟩
theorem k4_of {n₀ b1 b2 b3 b4 : Nat} {L R T B : Int} {V V' : World} (hF : FourI b1 b2 b3 b4 L R T B V) (hb : Below V.heap.size V V') (hn : n₀ ≤ V.heap.size) : K4 n₀ b1 b2 b3 b4 V V' :=
  ⟨hb.mono hn, hb.block _ hF.1.lt, hb.block _ hF.2.1.lt, hb.block _ hF.2.2.1.lt, hb.block _ hF.2.2.2.lt⟩

/-- A tile is appended: what the round leaves. -/
theorem AMid.yes {a : Ask} {L R T B : Int} {w : World} {P b1 b2 b3 b4 : Nat} {pre : List Tile} {V w1 : World} {q : Tile} {v v' : Value} {tmp : Obj} (h : AMid a L R T B w P b1 b2 b3 b4 pre V) (hq : kept a q = true) (hP : w.heap.size + 1 + 1 < P)
    (hv : Boxed V P 32 v) (hrow : V.ownsRow P 26 2 v (pre.filter (kept a)).length (flat (pre.filter (kept a)))) (hb : b1 ≠ P ∧ b2 ≠ P ∧ b3 ≠ P ∧ b4 ≠ P)
    (hown' : w1.ownsRow P 26 2 v' ((pre.filter (kept a)).length + 1) (flat (pre.filter (kept a)) ++ [.int .i64 q.1.1, .int .i64 q.1.2])) (hgrow : (V.alloc tmp).grownBy w1 v.ownBlock) :
    AMid a L R T B w P b1 b2 b3 b4 (pre ++ [q]) (w1.setCell ⟨P, 0, none⟩ v') ∧ KeepsOthers V (w1.setCell ⟨P, 0, none⟩ v') ∧ K4 w.heap.size b1 b2 b3 b4 V (w1.setCell ⟨P, 0, none⟩ v') := by
  obtain ⟨hv1, hv2, hr2, hk2, hb2⟩ := hv.appended (by decide) hrow (Nat.le_of_lt hv.lt) (Nat.le_refl _) hown' hgrow
  have old : ∀ {b : Nat} {u : Value}, Boxed V b 3 u → b ≠ P → Boxed (w1.setCell ⟨P, 0, none⟩ v') b 3 u := fun hbx hne => (((hbx.alloc tmp).kept hgrow (hbx.not_row (by decide) hrow))).other hne v'
  have hn : 0 < 1 := by decide
  obtain ⟨f1, f2, f3, f4⟩ := h.four
  obtain ⟨n1, n2, n3, n4⟩ := hb
  have g1 := old f1 n1
  have g2 := old f2 n2
  have g3 := old f3 n3
  have g4 := old f4 n4
  refine ⟨⟨⟨v', hv2, by rw [kept_yes a pre hq, flat_snoc, List.length_append]; exact hr2, by
      constructor
      · intro e
        rcases hown'.2 with ⟨_, h0⟩ | ⟨g, cap, cur, h0, _⟩
        · omega
        · rw [h0] at e; cases e
      · intro e; rw [kept_yes a pre hq] at e; simp at e⟩, (hb2.block _ (by omega)).trans h.grid, h.tile.kept (hb2.block _ (by omega)), (hb2.block _ (by omega)).trans h.num, h.below.trans (hb2.mono (by omega)), g1, g2, g3, g4⟩,
    hk2, hb2.mono (by omega), g1.trans f1.symm, g2.trans f2.symm, g3.trans f3.symm, g4.trans f4.symm⟩

/-- The activation in a round. -/
abbrev act19 (a : Ask) (s P b1 b2 b3 b4 Bx : Nat) (x : Tile) : Act :=
  { tmps := #[gv a.W a.H a.A a.l.length a.c, pv a.px a.py, .int .i64 a.r, .pointer (some ⟨s, 0, none⟩), .pointer (some ⟨s + 1, 0, none⟩), .pointer (some ⟨s + 1 + 1, 0, none⟩), .slice none 0 0, .pointer (some ⟨P, 0, none⟩), .pointer (some ⟨Bx, 0, none⟩),
      gv a.W a.H a.A a.l.length a.c, .bool true, .bool false, .bool false, .int .i64 a.r, .bool false, .bool false, gv a.W a.H a.A a.l.length a.c, pv a.px a.py, .int .i64 a.r,
      .func (.func 58) #[] #[.pointer (some ⟨b3, 0, none⟩), .pointer (some ⟨b4, 0, none⟩), .pointer (some ⟨b1, 0, none⟩), .pointer (some ⟨b2, 0, none⟩)],
      pv x.1.1 x.1.2, undef, undef, undef, undef, undef, undef, undef, undef, undef, undef, undef, undef, undef, undef, undef], defers := [] }
def Ax19 (a : Ask) (s P b1 b2 b3 b4 : Nat) (x : Tile) (a' : Act) (V : World) : Prop := ∃ Bx, BoxP V Bx x.1.1 x.1.2 ∧ a' = act19 a s P b1 b2 b3 b4 Bx x

/-- The four ends of the box. -/
def bL (a : Ask) : Int := if 0 < held (a.px - a.r) then held (a.px - a.r) else 0
def bR (a : Ask) : Int := if held (a.px + a.r) < a.W - 1 then held (a.px + a.r) else a.W - 1
def bT (a : Ask) : Int := if 0 < held (a.py - a.r) then held (a.py - a.r) else 0
def bB (a : Ask) : Int := if held (a.py + a.r) < a.H - 1 then held (a.py + a.r) else a.H - 1
/-- The tiles of the box, and those that are kept. -/
def boxed (a : Ask) : List Tile := rowsAt (bL a) (bT a) (bR a + 1 - bL a).toNat (bB a + 1 - bT a).toNat
def around (a : Ask) : List Tile := (boxed a).filter (kept a)

theorem box_any (a : Ask) (w : World) (h1 : Fits a.px) (h2 : Fits a.py) (h3 : Fits a.r) (hW : 1 ≤ a.W ∧ a.W ≤ 256) (hH : 1 ≤ a.H ∧ a.H ≤ 256) :
    Calls Try.prog 50 #[gv a.W a.H a.A a.l.length a.c, pv a.px a.py, .int .i64 a.r] w (BoxAns (bL a) (bR a) (bT a) (bB a) w) :=
  box_gen a.W a.H a.A a.l.length a.c a.px a.py a.r _ _ _ _ _ _ _ _ w (Lib.hid rfl) (Lib.hid rfl) (Lib.hid rfl) (Lib.hid rfl) hW hH (Lib.hid fun w => sub_any _ _ w h1 h3) (Lib.hid fun w => add_any _ _ w h1 h3) (Lib.hid fun w => sub_any _ _ w h2 h3) (Lib.hid fun w => add_any _ _ w h2 h3)

theorem ends (a : Ask) (hW : 1 ≤ a.W ∧ a.W ≤ 256) (hH : 1 ≤ a.H ∧ a.H ≤ 256) :
    (0 ≤ bL a ∧ bL a ≤ 9223372036854775807 ∧ -9223372036854775808 ≤ bR a ∧ bR a ≤ 255) ∧ (0 ≤ bT a ∧ bT a ≤ 9223372036854775807 ∧ -9223372036854775808 ≤ bB a ∧ bB a ≤ 255) := by
  have f1 := held_fits (a.px - a.r)
  have f2 := held_fits (a.px + a.r)
  have f3 := held_fits (a.py - a.r)
  have f4 := held_fits (a.py + a.r)
  unfold Fits at f1 f2 f3 f4
  unfold bL bR bT bB
  refine ⟨⟨?_, ?_, ?_, ?_⟩, ?_, ?_, ?_, ?_⟩ <;> split <;> omega
theorem boxed_len (a : Ask) (hW : 1 ≤ a.W ∧ a.W ≤ 256) (hH : 1 ≤ a.H ∧ a.H ≤ 256) : (boxed a).length ≤ 65536 := by
  obtain ⟨e1, e2⟩ := ends a hW hH
  unfold boxed
  rw [rowsAt_len]
  have := Nat.mul_le_mul (show (bB a + 1 - bT a).toNat ≤ 256 by omega) (show (bR a + 1 - bL a).toNat ≤ 256 by omega)
  omega
theorem astops (a : Ask) (hW : 1 ≤ a.W ∧ a.W ≤ 256) (hH : 1 ≤ a.H ∧ a.H ≤ 256) {W0 : World} {b1 b2 b3 b4 n₀ : Nat} (hF : FourI b1 b2 b3 b4 (bL a) (bR a) (bT a) (bB a) W0) :
    SeqStopsK Fence.wide 2 Try.prog 58 #[.pointer (some ⟨b3, 0, none⟩), .pointer (some ⟨b4, 0, none⟩), .pointer (some ⟨b1, 0, none⟩), .pointer (some ⟨b2, 0, none⟩)] (fun x : Tile => #[pv x.1.1 x.1.2]) (K4 n₀ b1 b2 b3 b4) (fun ys => ys = boxed a) (fun pre => pre <+: boxed a) (boxed a).length W0 :=
  fun l J Jx W hW' _ _ hY h0 => boxi_in 2 (by omega) l b1 b2 b3 b4 n₀ _ _ _ _ _ _ (ends a hW hH).1 (ends a hW hH).2 rfl rfl J Jx W ⟨(hW'.block _ hF.1.lt).trans hF.1, (hW'.block _ hF.2.1.lt).trans hF.2.1, (hW'.block _ hF.2.2.1.lt).trans hF.2.2.1, (hW'.block _ hF.2.2.2.lt).trans hF.2.2.2⟩ hY h0

abbrev aopen (a : Ask) (w : World) : World := ((w.alloc (.cells #[.int .i64 a.W, .int .i64 a.H, .slice a.A a.l.length a.c] 24)).alloc (.cells #[.int .i64 a.px, .int .i64 a.py] 26)).alloc (.cells #[.int .i64 a.r] 3)
theorem three' {a : Ask} {w : World} {m : Nat} (h : (aopen a w).heap.size ≤ m) : w.heap.size < m ∧ w.heap.size + 1 < m ∧ w.heap.size + 1 + 1 < m := by simp at h; omega

theorem row_base {V : World} {P s e size k : Nat} {v : Value} {xs : List Value} (h : V.ownsRow P e size v k xs) (hs : s ≤ P) : V.ownsRow s e size v k xs := by
  refine ⟨h.1, ?_⟩
  rcases h.2 with h2 | ⟨g, cap, cur, h1, h2, h3, h4⟩
  · exact .inl h2
  · exact .inr ⟨g, cap, cur, h1, Nat.le_trans hs h2, h3, h4⟩
set_option maxRecDepth 100000 in
set_option maxHeartbeats 4000000 in
theorem around_in (a : Ask) (w : World) (h1 : Fits a.px) (h2 : Fits a.py) (h3 : Fits a.r) (hright0 : rightB a.W a.H a.l.length = true) (hr256 : a.r ≤ 256) (hl : RB w w.heap.size a.A a.l) :
    Calls Try.prog 33 #[gv a.W a.H a.A a.l.length a.c, pv a.px a.py, .int .i64 a.r] w fun e w' => (∃ v, e = .returned v ∧ w'.ownsRow w.heap.size 26 2 v (around a).length (flat (around a)) ∧ (v = .slice none 0 0 ↔ around a = [])) ∧ Below w.heap.size w w' := by
  have hWH : (1 ≤ a.W ∧ a.W ≤ 256) ∧ 1 ≤ a.H ∧ a.H ≤ 256 := by
    unfold rightB at hright0
    simp only [Bool.and_eq_true] at hright0
    exact ⟨side_in hright0.1.1, side_in hright0.1.2⟩
  have hr2 : decide (256 < a.r) = false := by simp; omega
  have hbox : ∀ w : World, Calls Try.prog 50 #[gv a.W a.H a.A a.l.length a.c, pv a.px a.py, .int .i64 a.r] w (BoxAns (bL a) (bR a) (bT a) (bB a) w) := fun w => box_any a w h1 h2 h3 hWH.1 hWH.2
  have HBX := Lib.hid hbox; clear hbox
  have hb0 : Below w.heap.size w (aopen a w) := (((Below.refl _ w).alloc (Nat.le_refl _) _).alloc (by simp) _).alloc (by simp; omega) _
  have hg0 : (aopen a w).heap[w.heap.size]? = some (.cells #[.int .i64 a.W, .int .i64 a.H, .slice a.A a.l.length a.c] 24 (0, 0)) := old_at (old_at (new_at _ _ rfl))
  have hp0 : BoxP (aopen a w) (w.heap.size + 1) a.px a.py := old_at (new_at _ _ (by simp))
  have hn0 : Boxed (aopen a w) (w.heap.size + 1 + 1) 3 (.int .i64 a.r) := new_at _ _ (by simp)
  have HG := Lib.hid hg0; have HP := Lib.hid hp0; have HN := Lib.hid hn0
  clear hg0 hp0 hn0
  have hright : ∀ w : World, Calls Try.prog 36 #[gv a.W a.H a.A a.l.length a.c] w fun e w' => e = .returned (.bool true) ∧ Below w.heap.size w w' := fun w => by have := right_any a.W a.H a.A a.l.length a.c w; rwa [hright0] at this
  have HRt := Lib.hid hright; clear hright
  obtain ⟨i0, hi, hz0, hz1, hz2⟩ := info_parts infoPos
  refine (callsIn_wide (n := 3)).1 ?_
  refine callsIn_of_wp_marks Try.func33 rfl trivial ?_ rfl
  simp only [Try.ntmps33, List.size_toArray, List.length_cons, List.length_nil, Nat.reduceAdd, Nat.reduceSub, Array.replicate_succ, Array.replicate_zero, List.push_toArray, List.append_toArray, List.nil_append, List.cons_append]
  refine wpIn_wide.2 ?_
  go_wp2_with (first
    | ((with_reducible refine (HRt.out _).mono ?_); rintro e w1 ⟨rfl, hB⟩; obtain ⟨hc1, hf1⟩ := bcell hB; obtain ⟨z0, z1, z2⟩ := three' hB.size; have HB := Lib.hid hB; clear hB)
    | ((with_reducible refine (HBX.out _).mono ?_); rintro e w2 ⟨b1, b2, b3, b4, rfl, hbs, hfour, hB2⟩))
  have hW2 : Below (w1.alloc (.cells #[.slice none 0 0] 32)).heap.size (w1.alloc (.cells #[.slice none 0 0] 32)) w2 := hB2
  have hU : Below (aopen a w).heap.size (aopen a w) w2 := (HB.out.alloc HB.out.size _).trans (hW2.mono (by have := HB.out.size; simp at this ⊢; omega))
  have hsz : w1.heap.size + 1 ≤ w2.heap.size := by have := hW2.size; simp at this; exact this
  have hP : w.heap.size + 1 + 1 < w1.heap.size := z2
  have hM : AMid a (bL a) (bR a) (bT a) (bB a) w w1.heap.size b1 b2 b3 b4 [] w2 :=
    ⟨⟨.slice none 0 0, (hW2.block _ (by simp)).trans (new_at _ _ rfl), World.ownsRow_nil _ _ _ _, by simp⟩, (hU.block _ (by simp <;> omega)).trans HG.out, HP.out.kept (hU.block _ (by simp)), (hU.block _ (by simp)).trans HN.out, hb0.trans (hU.mono hb0.size), hfour⟩
  have hbn : b1 ≠ w1.heap.size ∧ b2 ≠ w1.heap.size ∧ b3 ≠ w1.heap.size ∧ b4 ≠ w1.heap.size := by simp at hbs; omega
  have HSZ := Lib.hid hsz
  clear hU hW2 hB2 hbs hsz hc1 hf1 z0 z1 z2
  generalize w1.heap.size = P at hM hP hbn HSZ ⊢
  refine (wpIn_wide (n := 3)).1 ?_
  refine wpIn_rangeFunc_ownH rfl (by omega) (gf := 58) (lb := #[.pointer (some ⟨b3, 0, none⟩), .pointer (some ⟨b4, 0, none⟩), .pointer (some ⟨b1, 0, none⟩), .pointer (some ⟨b2, 0, none⟩)]) rfl trivial (enters_of Try.func58 (by kernel_rfl) rfl)
    (astops a hWH.1 hWH.2 (n₀ := w.heap.size) hfour) (fun h k => h.trans k)
    (fun V k o o' hk h _ _ => ⟨⟨rfl, rfl, rfl, by simp, fun j hj => World.putObj_heap_other (by have := HSZ.out; omega)⟩, World.putObj_heap_other (by have := hfour.1.lt; omega), World.putObj_heap_other (by have := hfour.2.1.lt; omega), World.putObj_heap_other (by have := hfour.2.2.1.lt; omega), World.putObj_heap_other (by have := hfour.2.2.2.lt; omega)⟩)
    (Below.refl _ _) (fun _ => rfl)
    (AMid a (bL a) (bR a) (bT a) (bB a) w P b1 b2 b3 b4) (fun _ _ _ => False) (amid_own (by have := HSZ.out; omega)) (fun _ _ _ _ _ hs _ _ => hs) hM
    (Ax19 a w.heap.size P b1 b2 b3 b4) (fun x a' _ X Y row hs hg hr => by obtain ⟨Bx, h2, h3⟩ := hs; exact ⟨Bx, own_at h2 hg hr, h3⟩) ?assign ?body ?done ?stop
  case assign =>
    rintro l' pre x V K hI hK
    gi_wp2
    exact hK _ _ ((KeepsOthers.alloc _ _).from _) (k4_of hI.four ((Below.refl _ V).alloc (Nat.le_refl _) _) hI.below.size) (hI.of ((Below.refl _ V).alloc (Nat.le_refl _) _)) ⟨V.heap.size, BoxP.new V _ _, rfl⟩
  case body =>
    rintro l' pre x a' V hl' hr' hI ⟨Bx, bX, rfl⟩ hlt
    have g0 : V.cell? ⟨w.heap.size, 0, none⟩ = some (.int .i64 a.W) := by simp [World.cell?, hI.grid]
    have g1 : V.cell? ⟨w.heap.size, 1, none⟩ = some (.int .i64 a.H) := by simp [World.cell?, hI.grid]
    have g2 : V.cell? ⟨w.heap.size, 2, none⟩ = some (.slice a.A a.l.length a.c) := by simp [World.cell?, hI.grid]
    have x0 := bX.cell0
    have x1 := bX.cell1
    have hRB := Lib.hid (hl.below hI.below (Nat.le_refl _))
    have hBV := hI.below.size
    have hI' := Lib.hid hI
    have bX' := Lib.hid bX
    clear hI bX
    have fx1 : Fits x.1.1 := by have := x.2.1; unfold Fits; omega
    have fx2 : Fits x.1.2 := by have := x.2.2; unfold Fits; omega
    cases hw : wallB a.W a.H a.l x.1.1 x.1.2 with
    | true =>
      gi_wp2_with (first
        | (refine ⟨trivial, ?_⟩; gi_at_call 21; refine (CallsIn.inRound l' (callsIn_wide.2 (wall_any a.W a.H a.A a.l a.c x.1.1 x.1.2 _ w.heap.size hRB.out hBV))).mono ?_; rintro e w5 ⟨rfl, hB5⟩))
      refine ⟨trivial, ?_⟩
      gi_wp2
      exact ⟨keeps_below hB5, k4_of hI'.out.four hB5 hI'.out.below.size, (hI'.out.of hB5).no (by unfold kept; rw [hw]; rfl)⟩
    | false =>
      cases hnr : nearB a.px a.py x.1.1 x.1.2 a.r with
      | false =>
        gi_wp2_with (first
          | (refine ⟨trivial, ?_⟩; gi_at_call 21; refine (CallsIn.inRound l' (callsIn_wide.2 (wall_any a.W a.H a.A a.l a.c x.1.1 x.1.2 _ w.heap.size hRB.out hBV))).mono ?_; rintro e w5 ⟨rfl, hB5⟩; have hI5 := Lib.hid (hI'.out.of hB5); have bX5 := Lib.hid (bX'.out.kept (hB5.block _ bX'.out.lt)); have y0 := bX5.out.cell0; have y1 := bX5.out.cell1; have p0 := hI5.out.tile.cell0; have p1 := hI5.out.tile.cell1; have r0 := hI5.out.num.cell; have HB5 := Lib.hid hB5; clear hB5 g0 g1 g2 x0 x1)
          | (refine ⟨trivial, ?_⟩; gi_at_call 51; refine (CallsIn.inRound l' (callsIn_wide.2 (near_any a.px a.py x.1.1 x.1.2 a.r _ h1 h2 fx1 fx2 h3))).mono ?_; rintro e w6 ⟨rfl, hB6⟩))
        exact ⟨keeps_below (HB5.out.trans (hB6.mono HB5.out.size)), k4_of hI'.out.four (HB5.out.trans (hB6.mono HB5.out.size)) hI'.out.below.size, (hI5.out.of hB6).no (by unfold kept; rw [hw, hnr]; rfl)⟩
      | true =>
        have hkx : kept a x = true := by unfold kept; rw [hw, hnr]; rfl
        have hpl : (pre.filter (kept a)).length ≤ 65536 := by have h1 := List.length_filter_le (kept a) pre; have h2 := boxed_len a hWH.1 hWH.2; omega
        gi_wp2_with (first
          | (refine ⟨trivial, ?_⟩; gi_at_call 21; refine (CallsIn.inRound l' (callsIn_wide.2 (wall_any a.W a.H a.A a.l a.c x.1.1 x.1.2 _ w.heap.size hRB.out hBV))).mono ?_; rintro e w5 ⟨rfl, hB5⟩; have hI5 := Lib.hid (hI'.out.of hB5); have bX5 := Lib.hid (bX'.out.kept (hB5.block _ bX'.out.lt)); have y0 := bX5.out.cell0; have y1 := bX5.out.cell1; have p0 := hI5.out.tile.cell0; have p1 := hI5.out.tile.cell1; have r0 := hI5.out.num.cell; have HB5 := Lib.hid hB5; clear hB5 g0 g1 g2 x0 x1)
          | (refine ⟨trivial, ?_⟩; gi_at_call 51; refine (CallsIn.inRound l' (callsIn_wide.2 (near_any a.px a.py x.1.1 x.1.2 a.r _ h1 h2 fx1 fx2 h3))).mono ?_; rintro e w6 ⟨rfl, hB6⟩; obtain ⟨v, hv, hrow, _⟩ := (hI5.out.of hB6).row; have hc := hv.cell; have q0 := (bX5.out.kept (hB6.block _ bX5.out.lt)).cell0; have q1 := (bX5.out.kept (hB6.block _ bX5.out.lt)).cell1; have hI6 := Lib.hid (hI5.out.of hB6); have HB6 := Lib.hid hB6; have hPl := hv.lt; have hROW := Lib.hid hrow; have hVB := Lib.hid hv; clear hB6 hrow hv y0 y1 p0 p1 r0)
          | (gi_at_builtin; refine wpListIn_append_own _ rfl _ _ 32 rfl P 26 i0 (.agg #[.int .i64 0, .int .i64 0]) 2 16 Try.underlying32 hi hz0 hz1 hz2 rfl (by decide) _ _ _ rfl (hROW.out.alloc _) ⟨w6.heap.size, 0, none⟩ 1 1 [.int .i64 x.1.1, .int .i64 x.1.2] rfl rfl (World.news_of_block (cs := #[.int .i64 x.1.1, .int .i64 x.1.2]) (t := 26) (fr := (0, 0)) (World.alloc_heap_new _ _)) (by simp [Value.oneCell']) (by unfold maxLen; omega) (by omega) (by simp; omega) ?_; intro v' wz hown' hgrow _; obtain ⟨g', cap', rfl⟩ := ownsRow_succ hown'; have hv1 := (hVB.out.alloc _).kept hgrow (hVB.out.not_row (by decide) hROW.out); have hc1 := hv1.cell; have hf1 := hv1.frozen; have hY := Lib.hid (hI6.out.yes hkx hP hVB.out hROW.out hbn hown' hgrow); clear hv1 hown' hgrow))
        exact ⟨(keeps_below (HB5.out.trans (HB6.out.mono HB5.out.size))).trans (hY.out.2.1.from _), (k4_of hI'.out.four (HB5.out.trans (HB6.out.mono HB5.out.size)) hI'.out.below.size).trans hY.out.2.2, hY.out.1⟩
  case done =>
    rintro D ys V hD rfl hM1 hK
    obtain ⟨v, hv, hrow, hnil⟩ := hM1.row
    have hc := hv.cell
    have hsP : w.heap.size ≤ P := by omega
    gi_wp2
    go_wp2
    refine ⟨by simp, .inl ⟨_, _, rfl, run_takeDeferred hK, ?_⟩⟩
    exact ⟨_, results_tmp rfl _ _ _, ⟨v, rfl, row_base (ownsRow_putObj hrow _ hK rfl) hsP, hnil⟩, hM1.below.trans (belowK_b (w := w) (Nat.le_refl _) V D _ _ (by have := HSZ.out; omega) hK rfl rfl)⟩
  case stop =>
    rintro D cd pre V _ _ h _
    exact h.elim

set_option maxRecDepth 100000 in
set_option maxHeartbeats 2000000 in
theorem around_none (a : Ask) (w : World) (h : rightB a.W a.H a.l.length = false ∨ 256 < a.r) :
    Calls Try.prog 33 #[gv a.W a.H a.A a.l.length a.c, pv a.px a.py, .int .i64 a.r] w fun e w' => e = .returned (.slice none 0 0) ∧ Below w.heap.size w w' := by
  have hb0 : Below w.heap.size w (aopen a w) := (((Below.refl _ w).alloc (Nat.le_refl _) _).alloc (by simp) _).alloc (by simp; omega) _
  cases hR : rightB a.W a.H a.l.length with
  | false =>
    have hright : ∀ w : World, Calls Try.prog 36 #[gv a.W a.H a.A a.l.length a.c] w fun e w' => e = .returned (.bool false) ∧ Below w.heap.size w w' := fun w => by have := right_any a.W a.H a.A a.l.length a.c w; rwa [hR] at this
    have HRt := Lib.hid hright; clear hright
    go_enter Try.func33, Try.ntmps33
    go_wp2_with (first
      | ((with_reducible refine (HRt.out _).mono ?_); rintro e w1 ⟨rfl, hB⟩; obtain ⟨hc1, hf1⟩ := bcell hB; obtain ⟨z0, z1, z2⟩ := three' hB.size; have HB := Lib.hid hB; clear hB))
    go_ret
    exact ⟨rfl, hb0.trans (HB.out.mono hb0.size)⟩
  | true =>
    have hr : 256 < a.r := by rcases h with h | h; · rw [hR] at h; cases h
                              · exact h
    have hright : ∀ w : World, Calls Try.prog 36 #[gv a.W a.H a.A a.l.length a.c] w fun e w' => e = .returned (.bool true) ∧ Below w.heap.size w w' := fun w => by have := right_any a.W a.H a.A a.l.length a.c w; rwa [hR] at this
    have HRt := Lib.hid hright; clear hright
    go_enter Try.func33, Try.ntmps33
    go_wp2_with (first
      | ((with_reducible refine (HRt.out _).mono ?_); rintro e w1 ⟨rfl, hB⟩; obtain ⟨hc1, hf1⟩ := bcell hB; obtain ⟨z0, z1, z2⟩ := three' hB.size; have HB := Lib.hid hB; clear hB))
    go_ret
    exact ⟨rfl, hb0.trans (HB.out.mono hb0.size)⟩

/-- What Around tells. -/
def aroundOf (a : Ask) : List Tile := if rightB a.W a.H a.l.length = true ∧ a.r ≤ 256 then around a else []
theorem around_any (a : Ask) (w : World) (h1 : Fits a.px) (h2 : Fits a.py) (h3 : Fits a.r) (hl : RB w w.heap.size a.A a.l) :
    Calls Try.prog 33 #[gv a.W a.H a.A a.l.length a.c, pv a.px a.py, .int .i64 a.r] w fun e w' => (∃ v, e = .returned v ∧ w'.ownsRow w.heap.size 26 2 v (aroundOf a).length (flat (aroundOf a)) ∧ (v = .slice none 0 0 ↔ aroundOf a = [])) ∧ Below w.heap.size w w' := by
  by_cases h : rightB a.W a.H a.l.length = true ∧ a.r ≤ 256
  · unfold aroundOf
    rw [if_pos h]
    exact around_in a w h1 h2 h3 h.1 h.2 hl
  · unfold aroundOf
    rw [if_neg h]
    refine (around_none a w ?_).mono fun e w' k => ⟨⟨_, k.1, World.ownsRow_nil _ _ _ _, by simp⟩, k.2⟩
    cases hR : rightB a.W a.H a.l.length with
    | false => exact .inl rfl
    | true => exact .inr (Int.not_le.1 fun hle => h ⟨hR, hle⟩)
end Go.Proofs.Ytiggpmennomplaa.Arn
