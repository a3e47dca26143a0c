/-
  The contract of the document's own Around: for every grid whose walls read as a list, every tile and every number: the tiles that are no walls and near, row by row, in new memory.
-/
import Derived.Test.YtiggpmennomplaaSnn
import Derived.Test.YtiggpmennomplaaArm
namespace Go.Proofs.Ytiggpmennomplaa.Con
open Go.RowKit Go.Shelf Lin Arn

/-- What lies there at the head of a round: the boxes, and the row so far. -/
structure LA (W H : Int) (A : Option Addr) (n c : Nat) (ax ay : Int) (s B : Nat) (w : World) (v : Value) (pre : List Tile) (V : World) : Prop where
  g : G2 W H A n c ax ay s V
  row : OwnT V B v pre
  below : Below w.heap.size w V
  top : B ≤ V.heap.size
  base : s + 2 ≤ B ∧ w.heap.size ≤ B
theorem LA.of {W H : Int} {A : Option Addr} {n c : Nat} {ax ay : Int} {s B : Nat} {w : World} {v : Value} {pre : List Tile} {V V' : World} (h : LA W H A n c ax ay s B w v pre V) (hb : Below V.heap.size V V') : LA W H A n c ax ay s B w v pre V' :=
  ⟨h.g.below hb h.g.a.lt, h.row.of hb, h.below.trans (hb.mono h.below.size), Nat.le_trans h.top hb.size, h.base⟩
theorem LA.app {W H : Int} {A : Option Addr} {n c : Nat} {ax ay : Int} {s B : Nat} {w : World} {v v' : Value} {pre : List Tile} {q : Tile} {V V' : World} (h : LA W H A n c ax ay s B w v pre V) (hg : V.grownBy V' v.ownBlock)
    (ho : V'.ownsRow B 26 2 v' (pre.length + 1) (flat pre ++ [.int .i64 q.1.1, .int .i64 q.1.2])) : LA W H A n c ax ay s B w v' (pre ++ [q]) V' := by
  have hb := h.row.base
  have key : ∀ k, k < s + 2 → k < V.heap.size → V'.heap[k]? = V.heap[k]? := fun k hk hv => hg.block k hv (fun e => by have := hb k e.symm; have := h.base.1; omega)
  have hs := h.top
  have hs2 := h.base.1
  refine ⟨⟨(key s (by omega) (by omega)).trans h.g.g, h.g.a.kept (key _ (by omega) (by omega))⟩, ?_, h.below.grown hg h.below.size (fun k e => Nat.le_trans h.base.2 (hb k e)), Nat.le_trans h.top hg.size, h.base⟩
  unfold OwnT
  rw [flat_snoc, List.length_append]
  exact ho

/-- The kept tiles of the first k rows, and of the first j of the next one. -/
def ptA (f : Tile → Bool) (m k j : Nat) : List Tile := (rowsAt 0 0 m k).filter f ++ ((rowAt 0 (k : Int) m).take j).filter f
theorem ptA_zero (f : Tile → Bool) (m : Nat) : ptA f m 0 0 = [] := by simp [ptA, rowsAt]
theorem ptA_row (f : Tile → Bool) (m k : Nat) : ptA f m (k + 1) 0 = ptA f m k m := by
  unfold ptA
  rw [rowsAt_succ, List.filter_append, List.take_of_length_le (l := rowAt 0 (k : Int) m) (by rw [rowAt_len]; exact Nat.le_refl _)]
  simp
theorem ptA_yes {f : Tile → Bool} {m k j : Nat} {q : Tile} (hj : j < m) (hq : q = tileAt (j : Int) (k : Int)) (ht : f q = true) : ptA f m k (j + 1) = ptA f m k j ++ [q] := by
  unfold ptA
  rw [rowAt_take hj, Int.zero_add, ← hq, List.filter_append]
  simp [ht]
theorem ptA_no {f : Tile → Bool} {m k j : Nat} {q : Tile} (hj : j < m) (hq : q = tileAt (j : Int) (k : Int)) (ht : f q = false) : ptA f m k (j + 1) = ptA f m k j := by
  unfold ptA
  rw [rowAt_take hj, Int.zero_add, ← hq, List.filter_append]
  simp [ht]
theorem ptA_few {f : Tile → Bool} {m k j : Nat} (hm : m ≤ 256) (hk : k < 256) (hj : j ≤ m) : (ptA f m k j).length ≤ 70000 := by
  unfold ptA
  have e1 := List.length_filter_le f (rowsAt 0 0 m k)
  have e2 := List.length_filter_le f ((rowAt 0 (k : Int) m).take j)
  rw [rowsAt_len] at e1
  rw [List.length_take, rowAt_len] at e2
  have := Nat.mul_le_mul (show k ≤ 256 by omega) hm
  rw [List.length_append]
  omega

set_option maxRecDepth 100000 in
set_option maxHeartbeats 8000000 in
theorem rAround_in (a : Arn.Ask) (w : World) (h1 : Fits a.px) (h2 : Fits a.py) (h3 : Fits a.r) (hR : rightB a.W a.H a.l.length = true) (hr : a.r ≤ 256) (hl : RB w w.heap.size a.A a.l) :
    Calls Try.prog 35 #[gv a.W a.H a.A a.l.length a.c, pv a.px a.py, .int .i64 a.r] w fun e w' => (∃ v, e = .returned v ∧ OwnT w' w.heap.size v ((allTiles a).filter (kept a))) ∧ Below w.heap.size w w' := by
  obtain ⟨W, H, A, l, c, px, py, r⟩ := a
  dsimp only at h1 h2 h3 hR hr hl ⊢
  have hWH : (1 ≤ W ∧ W ≤ 256) ∧ 1 ≤ H ∧ H ≤ 256 := by
    unfold rightB at hR
    simp only [Bool.and_eq_true] at hR
    exact ⟨side_in hR.1.1, side_in hR.1.2⟩
  obtain ⟨f, hf⟩ : ∃ f, kept ⟨W, H, A, l, c, px, py, r⟩ = f := ⟨_, rfl⟩
  have hfq : ∀ q : Tile, f q = (!wallB W H l q.1.1 q.1.2 && nearB px py q.1.1 q.1.2 r) := fun q => by rw [← hf]; rfl
  rw [hf]
  unfold allTiles
  dsimp only
  obtain ⟨mW, hmW⟩ : ∃ mW : Nat, W = (mW : Int) := ⟨W.toNat, by omega⟩
  obtain ⟨mH, hmH⟩ : ∃ mH : Nat, H = (mH : Int) := ⟨H.toNat, by omega⟩
  have htn : W.toNat = mW ∧ H.toNat = mH := by omega
  rw [htn.1, htn.2]
  have hmm : mW ≤ 256 ∧ mH ≤ 256 := by omega
  obtain ⟨n, hn⟩ : ∃ n, l.length = n := ⟨_, rfl⟩
  rw [hn]
  have hb := ga_below W H A n c px py w
  have hg := ga_g2 W H A n c px py w
  have HG := Lib.hid hg; have HB0 := Lib.hid hb
  have hrt : ∀ V : World, Calls Try.prog 47 #[gv W H A n c] V fun e w' => e = .returned (.bool true) ∧ Below V.heap.size V w' := fun V => by have := rright_any W H A n c V; rwa [← hn, hR, hn] at this
  have HRT := Lib.hid hrt; have HFQ := Lib.hid hfq; have HN := Lib.hid hn; have HMW := Lib.hid hmW; have HMH := Lib.hid hmH
  obtain ⟨i0, hinf, hz0, hz1, hz2⟩ := info_parts infoPos
  have HINF := Lib.hid hinf; have HZ0 := Lib.hid hz0; have HZ1 := Lib.hid hz1; have HZ2 := Lib.hid hz2
  clear hinf hz0 hz1 hz2 hb hg hrt hfq hn hmW hmH htn hf hR
  go_enter Try.func35, Try.ntmps35
  go_wp2_with (first
    | ((with_reducible refine (HRT.out _).mono ?_); rintro e w1 ⟨rfl, hB1⟩; have HG1 := Lib.hid (HG.out.below hB1 HG.out.a.lt); have HB1 := Lib.hid (HB0.out.trans (hB1.mono HB0.out.size)); clear hB1))
  have hM0 : LA W H A n c px py w.heap.size w1.heap.size w (.slice none 0 0) [] w1 := ⟨HG1.out, World.ownsRow_nil _ _ _ _, HB1.out, Nat.le_refl _, HG1.out.a.lt, HB1.out.size⟩
  have HM0 := Lib.hid hM0; clear hM0
  generalize w1.heap.size = B at HM0
  go_loopg [8, 9] mH (fun m s8 s9 wr => ∃ (k : Nat) (v : Value), k ≤ mH ∧ m = mH - k ∧ v = s8 ∧ s9 = .int .i64 (k : Int) ∧ Hid (LA W H A n c px py w.heap.size B w v (ptA f mW k 0) wr))
  case atStart => exact ⟨0, _, by omega, rfl, rfl, rfl, Lib.hid (by rw [ptA_zero]; exact HM0.out)⟩
  case round =>
    obtain ⟨k, v, hk, rfl, rfl, rfl, HM⟩ := hrel
    obtain ⟨c0, c1, c2, c3, c4⟩ := HM.out.g.cells
    by_cases hky : k < mH
    · have hkH : (k : Int) < H := by have := HMH.out; omega
      go_wp2
      go_loopg [8, 10] mW (fun m s8 s10 wr => ∃ (j : Nat) (v : Value), j ≤ mW ∧ m = mW - j ∧ v = s8 ∧ s10 = .int .i64 (j : Int) ∧ Hid (LA W H A n c px py w.heap.size B w v (ptA f mW k j) wr))
      case atStart => exact ⟨0, v, by omega, rfl, rfl, rfl, HM⟩
      case round =>
        clear c0 c1 c2 c3 c4 HM v
        obtain ⟨j, v, hj, rfl, rfl, rfl, HM⟩ := hrel
        obtain ⟨c0, c1, c2, c3, c4⟩ := HM.out.g.cells
        by_cases hjx : j < mW
        · have hjW : (j : Int) < W := by have := HMW.out; omega
          obtain ⟨q, hq1, hq2, hq3⟩ : ∃ q : Tile, q.1.1 = (j : Int) ∧ q.1.2 = (k : Int) ∧ q = tileAt (j : Int) (k : Int) := ⟨tileAt (j : Int) (k : Int), by rw [tileAt_eq (by omega)], by rw [tileAt_eq (by omega)], rfl⟩
          have htq : f q = (!wallB W H l (j : Int) (k : Int) && nearB px py (j : Int) (k : Int) r) := by rw [HFQ.out, hq1, hq2]
          have hlen : (ptA f mW k j).length ≤ 70000 := ptA_few hmm.1 (by omega) hj
          have HQ1 := Lib.hid hq1; have HQ2 := Lib.hid hq2; have HQ3 := Lib.hid hq3
          have hal := below_alloc wr (.cells #[.int .i64 (j : Int), .int .i64 (k : Int)] 26)
          have HMa := Lib.hid (HM.out.of hal)
          have hbx := BoxP.new wr (j : Int) (k : Int)
          have hlt := HM.out.g.a.lt
          have z0 : w.heap.size < wr.heap.size := by omega
          have z1 : w.heap.size + 1 < wr.heap.size := hlt
          have hnr : ∀ V : World, Calls Try.prog 52 #[pv px py, pv (j : Int) (k : Int), .int .i64 r] V fun e w' => e = .returned (.bool (nearB px py (j : Int) (k : Int) r)) ∧ Below V.heap.size V w' := fun V => rnear_any px py (j : Int) (k : Int) r V h1 h2 (by unfold Fits; omega) (by unfold Fits; omega) h3
          have hwl : ∀ V : World, Below w.heap.size w V → Calls Try.prog 26 #[gv W H A n c, pv (j : Int) (k : Int)] V fun e w' => e = .returned (.bool (wallB W H l (j : Int) (k : Int))) ∧ Below V.heap.size V w' := fun V hV => by
            have := rwall_any W H A l c (j : Int) (k : Int) V w.heap.size (hl.below hV (Nat.le_refl _)) hV.size
            rwa [HN.out] at this
          have HBX := Lib.hid hbx
          clear hq1 hq2 hq3 hbx hal hlt
          generalize nearB px py (j : Int) (k : Int) r = nb at hnr htq
          generalize wallB W H l (j : Int) (k : Int) = wb at hwl htq
          have HNR := Lib.hid hnr; have HWL := Lib.hid hwl
          clear hnr hwl
          cases nb with
          | false =>
            have HT : Hid (f q = false) := Lib.hid (by rw [htq]; simp)
            clear htq
            go_wp2_with (first
              | ((with_reducible refine (HNR.out _).mono ?_); rintro e w3 ⟨rfl, hB3⟩; have HM3 := Lib.hid (HMa.out.of hB3); have HX3 := Lib.hid (HBX.out.kept (hB3.block _ HBX.out.lt)); have u0 := HX3.out.cell0; have u1 := HX3.out.cell1; obtain ⟨d0, d1, d2, d3, d4⟩ := HM3.out.g.cells; clear hB3)
              | ((with_reducible refine (HWL.out _ HM3.out.below).mono ?_); rintro e w4 ⟨rfl, hB4⟩; have HM4 := Lib.hid (HM3.out.of hB4); clear hB4))
            go_roundg (mW - (j + 1))
            · exact ⟨j + 1, _, by omega, rfl, rfl, by go_num, Lib.hid (by rw [ptA_no hjx HQ3.out HT.out]; exact HM4.out)⟩
            · omega
          | true =>
            cases wb with
            | true =>
              have HT : Hid (f q = false) := Lib.hid (by rw [htq]; simp)
              clear htq
              go_wp2_with (first
                | ((with_reducible refine (HNR.out _).mono ?_); rintro e w3 ⟨rfl, hB3⟩; have HM3 := Lib.hid (HMa.out.of hB3); have HX3 := Lib.hid (HBX.out.kept (hB3.block _ HBX.out.lt)); have u0 := HX3.out.cell0; have u1 := HX3.out.cell1; obtain ⟨d0, d1, d2, d3, d4⟩ := HM3.out.g.cells; clear hB3)
                | ((with_reducible refine (HWL.out _ HM3.out.below).mono ?_); rintro e w4 ⟨rfl, hB4⟩; have HM4 := Lib.hid (HM3.out.of hB4); clear hB4))
              go_roundg (mW - (j + 1))
              · exact ⟨j + 1, _, by omega, rfl, rfl, by go_num, Lib.hid (by rw [ptA_no hjx HQ3.out HT.out]; exact HM4.out)⟩
              · omega
            | false =>
              have HT : Hid (f q = true) := Lib.hid (by rw [htq]; simp)
              clear htq
              go_wp2_with (first
                | ((with_reducible refine (HNR.out _).mono ?_); rintro e w3 ⟨rfl, hB3⟩; have HM3 := Lib.hid (HMa.out.of hB3); have HX3 := Lib.hid (HBX.out.kept (hB3.block _ HBX.out.lt)); have u0 := HX3.out.cell0; have u1 := HX3.out.cell1; obtain ⟨d0, d1, d2, d3, d4⟩ := HM3.out.g.cells; clear hB3)
                | ((with_reducible refine (HWL.out _ HM3.out.below).mono ?_); rintro e w4 ⟨rfl, hB4⟩; have HM4 := Lib.hid (HM3.out.of hB4); have HX4 := Lib.hid (HX3.out.kept (hB4.block _ HX3.out.lt)); have t0 := HX4.out.cell0; have t1 := HX4.out.cell1; have HMd := Lib.hid (HM4.out.of (below_alloc _ (.cells #[.int .i64 (j : Int), .int .i64 (k : Int)] 26))); clear hB4)
                | (at_builtin; refine wpList_append_lies _ rfl (.tmp 50) (.tmp 52) 32 rfl B 26 i0 _ 2 16 Try.underlying32 HINF.out HZ0.out HZ1.out HZ2.out rfl (by omega) v (ptA f mW k j).length (flat (ptA f mW k j)) rfl HMd.out.row ⟨_, 0, none⟩ 1 1 [.int .i64 (j : Int), .int .i64 (k : Int)] rfl rfl (World.news_of_block (cs := #[.int .i64 (j : Int), .int .i64 (k : Int)]) (t := 26) (fr := (0, 0)) (new_at _ _ (by simp))) (by simp [Value.oneCell']) (by omega) (by unfold maxLen; omega) (by omega) HMd.out.top _ rfl ?_; intro g' cap' w5 hown hgrow _ _; have HM5 := Lib.hid (HMd.out.app (q := q) hgrow (by rw [HQ1.out, HQ2.out]; exact hown)); clear hown hgrow))
              go_roundg (mW - (j + 1))
              · exact ⟨j + 1, _, by omega, rfl, rfl, by go_num, Lib.hid (by rw [ptA_yes hjx HQ3.out HT.out]; exact HM5.out)⟩
              · omega
        · have hjs : j = mW := by omega
          have hjW : decide ((j : Int) < W) = false := by have := HMW.out; simp; omega
          have HJS := Lib.hid hjs; clear hjs
          go_wp2
          go_roundg (mH - (k + 1))
          · exact ⟨k + 1, _, by omega, rfl, rfl, by go_num, Lib.hid (by rw [ptA_row, ← HJS.out]; rw [← HJS.out] at HM; exact HM.out)⟩
          · omega
    · have hks : k = mH := by omega
      have hkH : decide ((k : Int) < H) = false := by have := HMH.out; simp; omega
      have HKS := Lib.hid hks; clear hks
      go_wp2
      go_ret
      have hrow := HM.out.row
      rw [HKS.out] at hrow
      have e : ptA f mW mH 0 = (rowsAt 0 0 mW mH).filter f := by simp [ptA]
      rw [e] at hrow
      exact ⟨⟨v, rfl, row_base hrow HM.out.base.2⟩, HM.out.below⟩

set_option maxRecDepth 100000 in
set_option maxHeartbeats 4000000 in
theorem rAround_none (a : Arn.Ask) (w : World) (h : rightB a.W a.H a.l.length = false ∨ 256 < a.r) :
    Calls Try.prog 35 #[gv a.W a.H a.A a.l.length a.c, pv a.px a.py, .int .i64 a.r] w fun e w' => e = .returned (.slice none 0 0) ∧ Below w.heap.size w w' := by
  have hb := ga_below a.W a.H a.A a.l.length a.c a.px a.py w
  have hg := ga_g2 a.W a.H a.A a.l.length a.c a.px a.py w
  have HG := Lib.hid hg; have HB0 := Lib.hid hb
  have hrt : ∀ V : World, Calls Try.prog 47 #[gv a.W a.H a.A a.l.length a.c] V fun e w' => e = .returned (.bool (rightB a.W a.H a.l.length)) ∧ Below V.heap.size V w' := fun V => rright_any a.W a.H a.A a.l.length a.c V
  clear hb hg
  by_cases hH : 0 < a.H
  · cases hR : rightB a.W a.H a.l.length with
    | false =>
      rw [hR] at hrt
      have HRT := Lib.hid hrt
      clear hrt h hR
      go_enter Try.func35, Try.ntmps35
      go_wp2_with (first
        | ((with_reducible refine (HRT.out _).mono ?_); rintro e w1 ⟨rfl, hB1⟩; have HG1 := Lib.hid (HG.out.below hB1 HG.out.a.lt); have HB1 := Lib.hid (HB0.out.trans (hB1.mono HB0.out.size)); clear hB1))
      go_loopg [8, 9] 0 (fun m s8 s9 wr => m = 0 ∧ s8 = .slice none 0 0 ∧ s9 = .int .i64 0 ∧ wr = w1)
      case atStart => exact ⟨rfl, rfl, rfl, rfl⟩
      case round =>
        obtain ⟨rfl, rfl, rfl, rfl⟩ := hrel
        obtain ⟨c0, c1, c2, c3, c4⟩ := HG1.out.cells
        go_wp2
        go_ret
        exact ⟨rfl, HB1.out⟩
    | true =>
      have hr : decide (a.r ≤ 256) = false := by
        rcases h with h | h
        · rw [hR] at h; cases h
        · simp; omega
      rw [hR] at hrt
      have HRT := Lib.hid hrt
      clear hrt h hR
      go_enter Try.func35, Try.ntmps35
      go_wp2_with (first
        | ((with_reducible refine (HRT.out _).mono ?_); rintro e w1 ⟨rfl, hB1⟩; have HG1 := Lib.hid (HG.out.below hB1 HG.out.a.lt); have HB1 := Lib.hid (HB0.out.trans (hB1.mono HB0.out.size)); clear hB1))
      go_loopg [8, 9] 0 (fun m s8 s9 wr => m = 0 ∧ s8 = .slice none 0 0 ∧ s9 = .int .i64 0 ∧ wr = w1)
      case atStart => exact ⟨rfl, rfl, rfl, rfl⟩
      case round =>
        obtain ⟨rfl, rfl, rfl, rfl⟩ := hrel
        obtain ⟨c0, c1, c2, c3, c4⟩ := HG1.out.cells
        go_wp2
        go_ret
        exact ⟨rfl, HB1.out⟩
  · have hH' : decide (0 < a.H) = false := by simpa using hH
    cases hR : rightB a.W a.H a.l.length with
    | false =>
      rw [hR] at hrt
      have HRT := Lib.hid hrt
      clear hrt h hR
      go_enter Try.func35, Try.ntmps35
      go_wp2_with (first
        | ((with_reducible refine (HRT.out _).mono ?_); rintro e w1 ⟨rfl, hB1⟩; have HG1 := Lib.hid (HG.out.below hB1 HG.out.a.lt); have HB1 := Lib.hid (HB0.out.trans (hB1.mono HB0.out.size)); clear hB1))
      go_loopg [8, 9] 0 (fun m s8 s9 wr => m = 0 ∧ s8 = .slice none 0 0 ∧ s9 = .int .i64 0 ∧ wr = w1)
      case atStart => exact ⟨rfl, rfl, rfl, rfl⟩
      case round =>
        obtain ⟨rfl, rfl, rfl, rfl⟩ := hrel
        obtain ⟨c0, c1, c2, c3, c4⟩ := HG1.out.cells
        go_wp2
        go_ret
        exact ⟨rfl, HB1.out⟩
    | true =>
      unfold rightB sideB at hR
      simp at hR
      omega

theorem rAround_any (a : Arn.Ask) (w : World) (h1 : Fits a.px) (h2 : Fits a.py) (h3 : Fits a.r) (hl : RB w w.heap.size a.A a.l) :
    Calls Try.prog 35 #[gv a.W a.H a.A a.l.length a.c, pv a.px a.py, .int .i64 a.r] w fun e w' => (∃ v, e = .returned v ∧ OwnT w' w.heap.size v (aroundOf a)) ∧ Below w.heap.size w w' := by
  by_cases h : rightB a.W a.H a.l.length = true ∧ a.r ≤ 256
  · unfold aroundOf
    rw [if_pos h, around_all a h.1 h.2]
    exact rAround_in a w h1 h2 h3 h.1 h.2 hl
  · unfold aroundOf
    rw [if_neg h]
    refine (rAround_none a w ?_).mono fun e w' k => ⟨⟨_, k.1, World.ownsRow_nil _ _ _ _⟩, k.2⟩
    cases hR : rightB a.W a.H a.l.length with
    | false => exact .inl rfl
    | true => exact .inr (Int.not_le.1 fun hle => h ⟨hR, hle⟩)
end Go.Proofs.Ytiggpmennomplaa.Con
