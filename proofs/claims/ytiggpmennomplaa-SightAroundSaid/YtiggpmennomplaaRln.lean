/-
  The contract of the document's own Line: for every grid and every two tiles: the tiles of the line, in new memory; none, if one of the two is no tile.
-/
import Derived.Test.YtiggpmennomplaaBmm
import Derived.Deep.LoopGhost
namespace Go.Proofs.Ytiggpmennomplaa.Con
open Go.RowKit Go.Shelf Lin Arn

theorem three_of {m k : Nat} (h : m + 3 ≤ k) : m < k ∧ m + 1 < k ∧ m + 1 + 1 < k := by omega
theorem below_alloc (V : World) (o : Obj) : Below V.heap.size V (V.alloc o) := (Below.refl _ V).alloc (Nat.le_refl _) _
theorem lo_le_hi (a b : Int) : lo a b ≤ hi a b := by unfold lo hi; split <;> omega
theorem OwnT.base {V : World} {B : Nat} {v : Value} {l : List Tile} (h : OwnT V B v l) : ∀ b, v.ownBlock = some b → B ≤ b := by
  intro b hb
  rcases h.2 with ⟨e, _⟩ | ⟨g, cap, cur, e, hg, _⟩
  · rw [e] at hb; cases hb
  · rw [e] at hb; injection hb with hb; subst hb; exact hg
theorem OwnT.of {V V' : World} {B : Nat} {v : Value} {l : List Tile} (h : OwnT V B v l) (hb : Below V.heap.size V V') : OwnT V' B v l := ownsRow_below h hb

/-- What lies there at the head of a round: the boxes, and the row so far. -/
structure LM (W H : Int) (A : Option Addr) (n c : Nat) (ax ay bx by' : Int) (s B : Nat) (w : World) (v : Value) (pre : List Tile) (V : World) : Prop where
  g : G3 W H A n c ax ay bx by' s V
  row : OwnT V B v pre
  below : Below w.heap.size w V
  top : B ≤ V.heap.size
  base : s + 3 ≤ B ∧ w.heap.size ≤ B
theorem LM.of {W H : Int} {A : Option Addr} {n c : Nat} {ax ay bx by' : Int} {s B : Nat} {w : World} {v : Value} {pre : List Tile} {V V' : World} (h : LM W H A n c ax ay bx by' s B w v pre V) (hb : Below V.heap.size V V') : LM W H A n c ax ay bx by' s B w v pre V' :=
  ⟨h.g.of hb, h.row.of hb, h.below.trans (hb.mono h.below.size), Nat.le_trans h.top hb.size, h.base⟩
theorem LM.app {W H : Int} {A : Option Addr} {n c : Nat} {ax ay bx by' : Int} {s B : Nat} {w : World} {v v' : Value} {pre : List Tile} {q : Tile} {V V' : World} (h : LM W H A n c ax ay bx by' s B w v pre V) (hg : V.grownBy V' v.ownBlock)
    (ho : V'.ownsRow B 26 2 v' (pre.length + 1) (flat pre ++ [.int .i64 q.1.1, .int .i64 q.1.2])) : LM W H A n c ax ay bx by' s B w v' (pre ++ [q]) V' := by
  have hb := h.row.base
  have key : ∀ k, k < s + 3 → k < V.heap.size → V'.heap[k]? = V.heap[k]? := fun k hk hv => hg.block k hv (fun e => by have := hb k e.symm; have := h.base.1; omega)
  have hs := h.top
  have hs2 := h.base.1
  refine ⟨h.g.kept (fun k _ h1 => key k h1 (by omega)), ?_, h.below.grown hg h.below.size (fun k e => Nat.le_trans h.base.2 (hb k e)), Nat.le_trans h.top hg.size, h.base⟩
  unfold OwnT
  rw [flat_snoc, List.length_append]
  exact ho

/-- The tiles of the first k rows, and of the first j of the next one. -/
def part (ax ay bx by' : Int) (k j : Nat) : List Tile := (rowsAt (lo ax bx) (lo ay by') (span ax bx) k).filter (touch ax ay bx by') ++ ((rowAt (lo ax bx) (lo ay by' + (k : Int)) (span ax bx)).take j).filter (touch ax ay bx by')
theorem part_zero (ax ay bx by' : Int) : part ax ay bx by' 0 0 = [] := by simp [part, rowsAt]
theorem part_row (ax ay bx by' : Int) (k : Nat) : part ax ay bx by' (k + 1) 0 = part ax ay bx by' k (span ax bx) := by
  unfold part
  rw [rowsAt_succ, List.filter_append, List.take_of_length_le (l := rowAt (lo ax bx) (lo ay by' + (k : Int)) (span ax bx)) (by rw [rowAt_len]; exact Nat.le_refl _)]
  simp
theorem part_yes {ax ay bx by' : Int} {k j : Nat} {q : Tile} (hj : j < span ax bx) (hq : q = tileAt (lo ax bx + (j : Int)) (lo ay by' + (k : Int))) (ht : touch ax ay bx by' q = true) : part ax ay bx by' k (j + 1) = part ax ay bx by' k j ++ [q] := by
  unfold part
  rw [rowAt_take hj, ← hq, List.filter_append]
  simp [ht]
theorem part_no {ax ay bx by' : Int} {k j : Nat} {q : Tile} (hj : j < span ax bx) (hq : q = tileAt (lo ax bx + (j : Int)) (lo ay by' + (k : Int))) (ht : touch ax ay bx by' q = false) : part ax ay bx by' k (j + 1) = part ax ay bx by' k j := by
  unfold part
  rw [rowAt_take hj, ← hq, List.filter_append]
  simp [ht]
theorem part_all (ax ay bx by' : Int) : part ax ay bx by' (span ay by') 0 = lineL ax ay bx by' := by simp [part, lineL]
theorem part_few {ax ay bx by' : Int} (h1 : On ax) (h2 : On ay) (h3 : On bx) (h4 : On by') {k j : Nat} (hk : k < span ay by') (hj : j ≤ span ax bx) : (part ax ay bx by' k j).length ≤ 70000 := by
  unfold part
  have e1 := List.length_filter_le (touch ax ay bx by') (rowsAt (lo ax bx) (lo ay by') (span ax bx) k)
  have e2 := List.length_filter_le (touch ax ay bx by') ((rowAt (lo ax bx) (lo ay by' + (k : Int)) (span ax bx)).take j)
  rw [rowsAt_len] at e1
  rw [List.length_take, rowAt_len] at e2
  have i1 := lo_in h1 h3
  have i2 := lo_in h2 h4
  have hs : span ax bx ≤ 257 := by unfold span; omega
  have := Nat.mul_le_mul (show k ≤ 257 by unfold span at hk; omega) hs
  rw [List.length_append]
  omega
theorem same_touch {ax ay x y : Int} : sd ax ay ax ay x y = 0 := by
  rw [sd_zero]
  have h1 : off ax ay ax ay x y = 0 := by unfold off; grind
  have h2 := most_nonneg ax ay ax ay
  omega

set_option maxRecDepth 100000 in
set_option maxHeartbeats 8000000 in
theorem rLine_in (W H : Int) (A : Option Addr) (n c : Nat) (ax ay bx by' : Int) (w : World) (h1 : On ax) (h2 : On ay) (h3 : On bx) (h4 : On by') (ha : inB W H n ax ay = true) (hb' : inB W H n bx by' = true) :
    Calls Try.prog 13 #[gv W H A n c, pv ax ay, pv bx by'] w fun e w' =>
      (∃ v, e = .returned v ∧ OwnT w' w.heap.size v (lineL ax ay bx by')) ∧ Below w.heap.size w w' := by
  have hb := gab_below W H A n c ax ay bx by' w
  have hg := gab_g3 W H A n c ax ay bx by' w
  have HG := Lib.hid hg; clear hg
  have HB0 := Lib.hid hb; clear hb
  have hia : ∀ V : World, Calls Try.prog 30 #[gv W H A n c, pv ax ay] V fun e w' => e = .returned (.bool true) ∧ Below V.heap.size V w' := fun V => by have := rin_any W H A n c ax ay V; rwa [ha] at this
  have hib : ∀ V : World, Calls Try.prog 30 #[gv W H A n c, pv bx by'] V fun e w' => e = .returned (.bool true) ∧ Below V.heap.size V w' := fun V => by have := rin_any W H A n c bx by' V; rwa [hb'] at this
  have HIA := Lib.hid hia
  have HIB := Lib.hid hib
  clear hia hib ha hb'
  have HTC : Hid (∀ (x y : Int) (V : World), On x → On y → Calls Try.prog 31 #[pv ax ay, pv bx by', pv x y] V fun e w' => e = .returned (.bool (decide (sd ax ay bx by' x y = 0))) ∧ Below V.heap.size V w') := Lib.hid (fun x y V hx hy => touches_any h1 h2 h3 h4 hx hy V)
  have i1 := lo_in h1 h3
  have i2 := lo_in h2 h4
  have hsx : (span ax bx : Int) = hi ax bx + 1 - lo ax bx := by unfold span; omega
  have hsy : (span ay by' : Int) = hi ay by' + 1 - lo ay by' := by unfold span; omega
  have hfew : ∀ k j, k < span ay by' → j ≤ span ax bx → (part ax ay bx by' k j).length ≤ 70000 := fun k j hk hj => part_few h1 h2 h3 h4 hk hj
  obtain ⟨x0, hx0⟩ : ∃ x0, lo ax bx = x0 := ⟨_, rfl⟩
  obtain ⟨x1, hx1⟩ : ∃ x1, hi ax bx = x1 := ⟨_, rfl⟩
  obtain ⟨y0, hy0⟩ : ∃ y0, lo ay by' = y0 := ⟨_, rfl⟩
  obtain ⟨y1, hy1⟩ : ∃ y1, hi ay by' = y1 := ⟨_, rfl⟩
  rw [hx0, hx1] at i1 hsx
  rw [hy0, hy1] at i2 hsy
  have HX0 := Lib.hid hx0; have HX1 := Lib.hid hx1; have HY0 := Lib.hid hy0; have HY1 := Lib.hid hy1
  have HFW := Lib.hid hfew
  have HSX := Lib.hid hsx; have HSY := Lib.hid hsy
  obtain ⟨i0, hinf, hz0, hz1, hz2⟩ := info_parts infoPos
  have HINF := Lib.hid hinf; have HZ0 := Lib.hid hz0; have HZ1 := Lib.hid hz1; have HZ2 := Lib.hid hz2
  clear hinf hz0 hz1 hz2
  clear hx0 hx1 hy0 hy1 hfew hsx hsy h1 h2 h3 h4
  go_enter Try.func13, Try.ntmps13
  go_wp2_with (first
    | ((with_reducible refine (HIA.out _).mono ?_); rintro e w1 ⟨rfl, hB1⟩; have HG1 := Lib.hid (HG.out.of hB1); obtain ⟨c0, c1, c2, c3, c4, c5, c6⟩ := HG1.out.cells; have HB1 := Lib.hid (HB0.out.trans (hB1.mono HB0.out.size)); clear hB1)
    | ((with_reducible refine (HIB.out _).mono ?_); rintro e w2 ⟨rfl, hB2⟩; have HG2 := Lib.hid (HG1.out.of hB2); clear c0 c1 c2 c3 c4 c5 c6; obtain ⟨c0, c1, c2, c3, c4, c5, c6⟩ := HG2.out.cells; have HB2 := Lib.hid (HB1.out.trans (hB2.mono HB1.out.size)); clear hB2)
    | (with_reducible refine wpList_min rfl (.tmp 21) (.tmp 23) ay by' y0 rfl (by simp [Act.eval]) (by simp [Act.eval]) HY0.out ?_))
  clear c0 c1 c2 c3 c4 c5 c6
  have hM0 : LM W H A n c ax ay bx by' w.heap.size w2.heap.size w (.slice none 0 0) [] w2 := ⟨HG2.out, World.ownsRow_nil _ _ _ _, HB2.out, Nat.le_refl _, HG2.out.lt, HB2.out.size⟩
  have HM0 := Lib.hid hM0; clear hM0
  generalize w2.heap.size = B at HM0
  go_loopg [9, 10] (span ay by') (fun m s9 s10 wr => ∃ (k : Nat) (yy : Int) (v : Value), k ≤ span ay by' ∧ m = span ay by' - k ∧ v = s9 ∧ s10 = .int .i64 yy ∧ Hid (yy = y0 + (k : Int)) ∧ Hid (LM W H A n c ax ay bx by' w.heap.size B w v (part ax ay bx by' k 0) wr))
  case atStart => exact ⟨0, y0, _, by omega, rfl, rfl, rfl, Lib.hid (by simp), Lib.hid (by rw [part_zero]; exact HM0.out)⟩
  case round =>
    obtain ⟨k, yy, v, hk, rfl, rfl, rfl, HYY, HM⟩ := hrel
    obtain ⟨c0, c1, c2, c3, c4, c5, c6⟩ := HM.out.g.cells
    by_cases hky : k < span ay by'
    · have hyy : yy ≤ y1 := by have := HSY.out; have := HYY.out; omega
      have hyr : 0 ≤ yy ∧ yy ≤ 256 := by have := HSY.out; have := HYY.out; omega
      go_wp2_with (first
        | (with_reducible refine wpList_max rfl (.tmp 27) (.tmp 29) ay by' y1 rfl (by simp [Act.eval]) (by simp [Act.eval]) HY1.out ?_)
        | (with_reducible refine wpList_min rfl (.tmp 41) (.tmp 43) ax bx x0 rfl (by simp [Act.eval]) (by simp [Act.eval]) HX0.out ?_))
      go_loopg [9, 11] (span ax bx) (fun m s9 s11 wr => ∃ (j : Nat) (xx : Int) (v : Value), j ≤ span ax bx ∧ m = span ax bx - j ∧ v = s9 ∧ s11 = .int .i64 xx ∧ Hid (xx = x0 + (j : Int)) ∧ Hid (LM W H A n c ax ay bx by' w.heap.size B w v (part ax ay bx by' k j) wr))
      case atStart => exact ⟨0, x0, v, by omega, rfl, rfl, rfl, Lib.hid (by simp), HM⟩
      case round =>
        clear c0 c1 c2 c3 c4 c5 c6 HM v
        obtain ⟨j, xx, v, hj, rfl, rfl, rfl, HXX, HM⟩ := hrel
        obtain ⟨c0, c1, c2, c3, c4, c5, c6⟩ := HM.out.g.cells
        by_cases hjx : j < span ax bx
        · have hxx : xx ≤ x1 := by have := HSX.out; have := HXX.out; omega
          have hxr : 0 ≤ xx ∧ xx ≤ 256 := by have := HSX.out; have := HXX.out; omega
          obtain ⟨q, hq1, hq2, hq3⟩ : ∃ q : Tile, q.1.1 = xx ∧ q.1.2 = yy ∧ q = tileAt (lo ax bx + (j : Int)) (lo ay by' + (k : Int)) := ⟨tileAt xx yy, by rw [tileAt_eq ⟨hxr, hyr⟩], by rw [tileAt_eq ⟨hxr, hyr⟩], by rw [HXX.out, HYY.out, HX0.out, HY0.out]⟩
          have htq : touch ax ay bx by' q = decide (sd ax ay bx by' xx yy = 0) := by unfold touch; rw [hq1, hq2]
          have HQ1 := Lib.hid hq1; have HQ2 := Lib.hid hq2; have HQ3 := Lib.hid hq3
          have hlen := HFW.out k j hky hj
          have HTQ := Lib.hid htq
          clear hq1 hq2 hq3 htq
          obtain ⟨z0, z1, z2⟩ := three_of HM.out.g.lt
          have HMa := Lib.hid (HM.out.of (below_alloc wr (.cells #[.int .i64 xx, .int .i64 yy] 26)))
          have HMb := Lib.hid (HMa.out.of (below_alloc _ (.cells #[.int .i64 xx, .int .i64 yy] 26)))
          by_cases e1 : ax = bx
          · by_cases e2 : ay = by'
            · have HT : Hid (touch ax ay bx by' q = true) := Lib.hid (by rw [HTQ.out, ← e1, ← e2, same_touch]; rfl)
              have r1 : (ax == bx) = true := by simpa using e1
              have r2 : (ay == by') = true := by simpa using e2
              clear e1 e2
              go_wp2_with (first
                | (with_reducible refine wpList_max rfl (.tmp 47) (.tmp 49) ax bx x1 rfl (by simp [Act.eval]) (by simp [Act.eval]) HX1.out ?_)
                | (at_builtin; refine wpList_append_lies _ rfl (.tmp 67) (.tmp 69) 32 rfl B 26 i0 _ 2 16 Try.underlying32 HINF.out HZ0.out HZ1.out HZ2.out rfl (by omega) v (part ax ay bx by' k j).length (flat (part ax ay bx by' k j)) rfl HMb.out.row ⟨_, 0, none⟩ 1 1 [.int .i64 xx, .int .i64 yy] rfl rfl (World.news_of_block (cs := #[.int .i64 xx, .int .i64 yy]) (t := 26) (fr := (0, 0)) (new_at _ _ (by simp))) (by simp [Value.oneCell']) (by omega) (by unfold maxLen; omega) (by omega) HMb.out.top _ rfl ?_; intro g' cap' w5 hown hgrow _ _; have HM5 := Lib.hid (HMb.out.app (q := q) hgrow (by rw [HQ1.out, HQ2.out]; exact hown)); clear hown hgrow))
              go_roundg (span ax bx - (j + 1))
              · exact ⟨j + 1, xx + 1, _, by omega, rfl, rfl, rfl, Lib.hid (by have := HXX.out; omega), Lib.hid (by rw [part_yes hjx HQ3.out HT.out]; exact HM5.out)⟩
              · omega
            · have r1 : (ax == bx) = true := by simpa using e1
              have r2 : (ay == by') = false := by simpa using e2
              clear e1 e2
              have htc := HTC.out xx yy (wr.alloc (.cells #[.int .i64 xx, .int .i64 yy] 26)) hxr hyr
              have htq := HTQ.out
              cases ht : decide (sd ax ay bx by' xx yy = 0) with
              | true =>
                rw [ht] at htc htq
                have HTC1 := Lib.hid htc; have HT := Lib.hid htq
                clear htc htq ht
                go_wp2_with (first
                  | (with_reducible refine wpList_max rfl (.tmp 47) (.tmp 49) ax bx x1 rfl (by simp [Act.eval]) (by simp [Act.eval]) HX1.out ?_)
                  | ((with_reducible refine HTC1.out.mono ?_); rintro e w4 ⟨rfl, hB4⟩; have HMc := Lib.hid (HMa.out.of hB4); have HMd := Lib.hid (HMc.out.of (below_alloc _ (.cells #[.int .i64 xx, .int .i64 yy] 26))); (have hbx4 : BoxP w4 wr.heap.size xx yy := BoxP.kept (BoxP.new wr xx yy) (hB4.block _ (by simp))); have u0 := hbx4.cell0; have u1 := hbx4.cell1; clear hB4 hbx4)
                  | (at_builtin; refine wpList_append_lies _ rfl (.tmp 67) (.tmp 69) 32 rfl B 26 i0 _ 2 16 Try.underlying32 HINF.out HZ0.out HZ1.out HZ2.out rfl (by omega) v (part ax ay bx by' k j).length (flat (part ax ay bx by' k j)) rfl HMd.out.row ⟨_, 0, none⟩ 1 1 [.int .i64 xx, .int .i64 yy] rfl rfl (World.news_of_block (cs := #[.int .i64 xx, .int .i64 yy]) (t := 26) (fr := (0, 0)) (new_at _ _ (by simp))) (by simp [Value.oneCell']) (by omega) (by unfold maxLen; omega) (by omega) HMd.out.top _ rfl ?_; intro g' cap' w5 hown hgrow _ _; have HM5 := Lib.hid (HMd.out.app (q := q) hgrow (by rw [HQ1.out, HQ2.out]; exact hown)); clear hown hgrow))
                go_roundg (span ax bx - (j + 1))
                · exact ⟨j + 1, xx + 1, _, by omega, rfl, rfl, rfl, Lib.hid (by have := HXX.out; omega), Lib.hid (by rw [part_yes hjx HQ3.out HT.out]; exact HM5.out)⟩
                · omega
              | false =>
                rw [ht] at htc htq
                have HTC1 := Lib.hid htc; have HT := Lib.hid htq
                clear htc htq ht
                go_wp2_with (first
                  | (with_reducible refine wpList_max rfl (.tmp 47) (.tmp 49) ax bx x1 rfl (by simp [Act.eval]) (by simp [Act.eval]) HX1.out ?_)
                  | ((with_reducible refine HTC1.out.mono ?_); rintro e w4 ⟨rfl, hB4⟩; have HMc := Lib.hid (HMa.out.of hB4); clear hB4))
                go_roundg (span ax bx - (j + 1))
                · exact ⟨j + 1, xx + 1, _, by omega, rfl, rfl, rfl, Lib.hid (by have := HXX.out; omega), Lib.hid (by rw [part_no hjx HQ3.out HT.out]; exact HMc.out)⟩
                · omega
          · have r1 : (ax == bx) = false := by simpa using e1
            clear e1
            have htc := HTC.out xx yy (wr.alloc (.cells #[.int .i64 xx, .int .i64 yy] 26)) hxr hyr
            have htq := HTQ.out
            cases ht : decide (sd ax ay bx by' xx yy = 0) with
            | true =>
              rw [ht] at htc htq
              have HTC1 := Lib.hid htc; have HT := Lib.hid htq
              clear htc htq ht
              go_wp2_with (first
                | (with_reducible refine wpList_max rfl (.tmp 47) (.tmp 49) ax bx x1 rfl (by simp [Act.eval]) (by simp [Act.eval]) HX1.out ?_)
                | ((with_reducible refine HTC1.out.mono ?_); rintro e w4 ⟨rfl, hB4⟩; have HMc := Lib.hid (HMa.out.of hB4); have HMd := Lib.hid (HMc.out.of (below_alloc _ (.cells #[.int .i64 xx, .int .i64 yy] 26))); (have hbx4 : BoxP w4 wr.heap.size xx yy := BoxP.kept (BoxP.new wr xx yy) (hB4.block _ (by simp))); have u0 := hbx4.cell0; have u1 := hbx4.cell1; clear hB4 hbx4)
                | (at_builtin; refine wpList_append_lies _ rfl (.tmp 67) (.tmp 69) 32 rfl B 26 i0 _ 2 16 Try.underlying32 HINF.out HZ0.out HZ1.out HZ2.out rfl (by omega) v (part ax ay bx by' k j).length (flat (part ax ay bx by' k j)) rfl HMd.out.row ⟨_, 0, none⟩ 1 1 [.int .i64 xx, .int .i64 yy] rfl rfl (World.news_of_block (cs := #[.int .i64 xx, .int .i64 yy]) (t := 26) (fr := (0, 0)) (new_at _ _ (by simp))) (by simp [Value.oneCell']) (by omega) (by unfold maxLen; omega) (by omega) HMd.out.top _ rfl ?_; intro g' cap' w5 hown hgrow _ _; have HM5 := Lib.hid (HMd.out.app (q := q) hgrow (by rw [HQ1.out, HQ2.out]; exact hown)); clear hown hgrow))
              go_roundg (span ax bx - (j + 1))
              · exact ⟨j + 1, xx + 1, _, by omega, rfl, rfl, rfl, Lib.hid (by have := HXX.out; omega), Lib.hid (by rw [part_yes hjx HQ3.out HT.out]; exact HM5.out)⟩
              · omega
            | false =>
              rw [ht] at htc htq
              have HTC1 := Lib.hid htc; have HT := Lib.hid htq
              clear htc htq ht
              go_wp2_with (first
                | (with_reducible refine wpList_max rfl (.tmp 47) (.tmp 49) ax bx x1 rfl (by simp [Act.eval]) (by simp [Act.eval]) HX1.out ?_)
                | ((with_reducible refine HTC1.out.mono ?_); rintro e w4 ⟨rfl, hB4⟩; have HMc := Lib.hid (HMa.out.of hB4); clear hB4))
              go_roundg (span ax bx - (j + 1))
              · exact ⟨j + 1, xx + 1, _, by omega, rfl, rfl, rfl, Lib.hid (by have := HXX.out; omega), Lib.hid (by rw [part_no hjx HQ3.out HT.out]; exact HMc.out)⟩
              · omega
        · have hjs : j = span ax bx := by omega
          have hxx : decide (xx ≤ x1) = false := by have := HSX.out; have := HXX.out; simp; omega
          have HJS := Lib.hid hjs; clear hjs
          go_wp2_with (first
            | (with_reducible refine wpList_max rfl (.tmp 47) (.tmp 49) ax bx x1 rfl (by simp [Act.eval]) (by simp [Act.eval]) HX1.out ?_))
          go_roundg (span ay by' - (k + 1))
          · exact ⟨k + 1, yy + 1, _, by omega, rfl, rfl, rfl, Lib.hid (by have := HYY.out; omega), Lib.hid (by rw [part_row, ← HJS.out]; exact HM.out)⟩
          · omega
    · have hks : k = span ay by' := by omega
      have hyy : decide (yy ≤ y1) = false := by have := HSY.out; have := HYY.out; simp; omega
      have HKS := Lib.hid hks; clear hks
      go_wp2_with (first
        | (with_reducible refine wpList_max rfl (.tmp 27) (.tmp 29) ay by' y1 rfl (by simp [Act.eval]) (by simp [Act.eval]) HY1.out ?_))
      go_ret
      have hrow := HM.out.row
      rw [HKS.out, part_all] at hrow
      exact ⟨⟨v, rfl, row_base hrow HM.out.base.2⟩, HM.out.below⟩

theorem rLine_any (W H : Int) (A : Option Addr) (n c : Nat) (ax ay bx by' : Int) (w : World) :
    Calls Try.prog 13 #[gv W H A n c, pv ax ay, pv bx by'] w fun e w' =>
      (∃ v, e = .returned v ∧ OwnT w' w.heap.size v (lineG W H n ax ay bx by')) ∧ Below w.heap.size w w' := by
  unfold lineG
  cases ht : bothB W H n ax ay bx by' with
  | true =>
    rw [if_pos rfl]
    have hin := both_in ht
    unfold bothB at ht
    rw [Bool.and_eq_true] at ht
    exact rLine_in W H A n c ax ay bx by' w hin.1.1 hin.1.2 hin.2.1 hin.2.2 ht.1 ht.2
  | false =>
    rw [if_neg (by simp)]
    have hb := gab_below W H A n c ax ay bx by' w
    have hg := gab_g3 W H A n c ax ay bx by' w
    have HG := Lib.hid hg; clear hg
    have HB0 := Lib.hid hb; clear hb
    have hia : ∀ V : World, Calls Try.prog 30 #[gv W H A n c, pv ax ay] V fun e w' => e = .returned (.bool (inB W H n ax ay)) ∧ Below V.heap.size V w' := fun V => rin_any W H A n c ax ay V
    have hib : ∀ V : World, Calls Try.prog 30 #[gv W H A n c, pv bx by'] V fun e w' => e = .returned (.bool (inB W H n bx by')) ∧ Below V.heap.size V w' := fun V => rin_any W H A n c bx by' V
    unfold bothB at ht
    obtain ⟨y0, hy0⟩ : ∃ y0, lo ay by' = y0 := ⟨_, rfl⟩
    obtain ⟨y1, hy1⟩ : ∃ y1, hi ay by' = y1 := ⟨_, rfl⟩
    have hle : y0 ≤ y1 := by rw [← hy0, ← hy1]; exact lo_le_hi ..
    have HY0 := Lib.hid hy0; have HY1 := Lib.hid hy1
    clear hy0 hy1
    generalize inB W H n ax ay = one at ht hia
    generalize inB W H n bx by' = two at ht hib
    have HIA := Lib.hid hia
    have HIB := Lib.hid hib
    clear hia hib
    go_enter Try.func13, Try.ntmps13
    go_wp2_with (first
      | ((with_reducible refine (HIA.out _).mono ?_); rintro e w1 ⟨rfl, hB1⟩; have HG1 := Lib.hid (HG.out.of hB1); obtain ⟨c0, c1, c2, c3, c4, c5, c6⟩ := HG1.out.cells; have HB1 := Lib.hid (HB0.out.trans (hB1.mono HB0.out.size)); clear hB1)
      | ((with_reducible refine (HIB.out _).mono ?_); rintro e w2 ⟨rfl, hB2⟩; have HG2 := Lib.hid (HG1.out.of hB2); clear c0 c1 c2 c3 c4 c5 c6; obtain ⟨c0, c1, c2, c3, c4, c5, c6⟩ := HG2.out.cells; have HB2 := Lib.hid (HB1.out.trans (hB2.mono HB1.out.size)); clear hB2)
      | (with_reducible refine wpList_min rfl (.tmp 21) (.tmp 23) ay by' y0 rfl (by simp [Act.eval]) (by simp [Act.eval]) HY0.out ?_))
    go_loopg [9, 10] 0 (fun m s9 s10 wr => m = 0 ∧ s9 = .slice none 0 0 ∧ s10 = .int .i64 y0 ∧ wr = w2)
    case atStart => exact ⟨rfl, rfl, rfl, rfl⟩
    case round =>
      obtain ⟨rfl, rfl, rfl, rfl⟩ := hrel
      cases one with
      | false =>
        go_wp2_with (first
          | (with_reducible refine wpList_max rfl (.tmp 27) (.tmp 29) ay by' y1 rfl (by simp [Act.eval]) (by simp [Act.eval]) HY1.out ?_))
        go_ret
        exact ⟨⟨_, rfl, World.ownsRow_nil _ _ _ _⟩, HB2.out⟩
      | true =>
        obtain rfl : two = false := by simpa using ht
        go_wp2_with (first
          | (with_reducible refine wpList_max rfl (.tmp 27) (.tmp 29) ay by' y1 rfl (by simp [Act.eval]) (by simp [Act.eval]) HY1.out ?_))
        go_ret
        exact ⟨⟨_, rfl, World.ownsRow_nil _ _ _ _⟩, HB2.out⟩
end Go.Proofs.Ytiggpmennomplaa.Con
