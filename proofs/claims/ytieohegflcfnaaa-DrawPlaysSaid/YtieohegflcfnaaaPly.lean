/-
  What DrawPlays needs beside: slices of slices that come in; methods of two streams of two kinds, side by side; a row that is fed and then written over.
-/
import Derived.Test.YtieohegflcfnaaaRdl
import Derived.Deep.Matrix
namespace Go.Proofs.Ytieohegflcfnaaa.Con
open Go.ChangeShapes Go.WideShapes Go.ChangeAt Go.RowKit Go.Deep Mth Mem

/-- n slices of numbers lie one behind another at A, below block number B. -/
def RowsAt (w : World) (B : Nat) (A : Option Addr) (n : Nat) : Prop :=
  n = 0 ∨ ∃ b off, A = some ⟨b, off, none⟩ ∧ b < B ∧ ∀ r, r < n → ∃ a c l, w.cell? ⟨b, off + r, none⟩ = some (.slice a l.length c) ∧ Rd w B a l ∧ l.length ≤ c ∧ ∀ x ∈ l, -9223372036854775808 ≤ x ∧ x ≤ 9223372036854775807

theorem cells22 : Try.prog.cellsOf 22 = 1 := by kernel_rfl

theorem view2 {H : Type} {enc : TypeId × Value → H} {W : World} {base : Nat} {v : Value} {d : DataW H} {p : List MemPlace} (hv : Value.okWide Try.prog W .any base 27 v) (h : DataW.Trod enc Try.prog W 0 (fun _ => true) true 27 v d p) :
    ∃ A n c, v = .slice A n c ∧ n ≤ 9223372036854775807 ∧ RowsAt W W.heap.size A n := by
  obtain ⟨a0, len, cap, rfl⟩ := okWide_slice Try.underlying27 hv
  obtain ⟨fuel, hf⟩ := h
  rcases open_int_rows Try.underlying27 Try.underlying22 Try.underlying3 cells22 Open.cells3 hf with ⟨hcs, hx⟩ | ⟨a, len', cap', A, L, C, Z, hcs, _, hl, hm, hx, hrows⟩
  · simp [Value.cells] at hcs
    obtain ⟨rfl, rfl, rfl⟩ := hcs
    exact ⟨none, 0, 0, rfl, by omega, .inl rfl⟩
  · simp [Value.cells] at hcs
    obtain ⟨rfl, rfl, rfl⟩ := hcs
    unfold maxLen at hm
    refine ⟨some a, len, cap, rfl, by omega, ?_⟩
    by_cases h0 : len = 0
    · exact .inl h0
    · obtain ⟨b, off, spot⟩ := a
      have h00 := (hrows 0 (by omega)).1
      have hspot : spot = none := by simpa [Addr.add] using World.cell?_spot h00
      subst hspot
      have hbl : b < W.heap.size := by
        have := World.block_lt_of_cell? W _ h00
        rw [add_plain] at this
        exact this
      refine .inr ⟨b, off, rfl, hbl, fun r hr => ?_⟩
      obtain ⟨h1, h2, h3, h4, h5, h6, h7⟩ := hrows r (by omega)
      have hlen : ((Z r).take (L r)).length = L r := by simp; omega
      refine ⟨A r, C r, (Z r).take (L r), by rw [hlen, ← add_plain]; exact h1, ?_, by omega, fun x hx => Open.fits_of (h5 x (List.mem_of_mem_take hx))⟩
      by_cases hz : L r = 0
      · exact .inl (by rw [hz]; simp)
      · rcases hA : A r with _ | ⟨b', off', spot'⟩
        · have := h6 hA; omega
        · obtain ⟨_, hcell⟩ := h7 _ hA
          have hc0 := hcell 0 (by omega)
          have hspot : spot' = none := by simpa [Addr.add] using World.cell?_spot hc0
          subst hspot
          have hbl' : b' < W.heap.size := by
            have := World.block_lt_of_cell? W _ hc0
            rw [add_plain] at this
            exact this
          refine .inr ⟨b', off', rfl, hbl', fun k x hx => ?_⟩
          rw [List.getElem?_take] at hx
          split at hx
          · have hk : k < (Z r).length := by omega
            have := hcell k (by omega)
            rw [add_plain] at this
            rw [this]
            rw [List.getElem?_eq_getElem hk] at hx
            injection hx with hx
            simp [List.getD, hk, hx]
          · cases hx

theorem Pair.step {base : Nat} {w0 w w' : World} {tx ty : TypeId} {gx gy : Nat} {lx ly : List Int} (h : Pair base w0 w tx gx lx ty gy ly) (hb : Below w.heap.size w w') : Pair base w0 w' tx gx lx ty gy ly := by
  obtain ⟨rx, ry, h1, h2, h3, h4, h5⟩ := h
  have l1 := h1.lt
  have l2 := h2.lt
  exact ⟨rx, ry, h1.keep (hb.block _ l1.2.1) (fun k hk => hb.block k (l1.2.2 k hk).2), h2.keep (hb.block _ l2.2.1) (fun k hk => hb.block k (l2.2.2 k hk).2), h3, h4, h5.trans (hb.mono (by omega))⟩

/-! ### The document's stream -/
theorem y_feed {base : Nat} {w0 w : World} {gx gy : Nat} {lx ly : List Int} (hP : Pair base w0 w 32 gy ly 50 gx lx) (m : List Int) (B : Nat) (A : Option Addr) (c : Nat) (hr : Rd w B A m) (hl : ly.length ≤ 4096) (hm : m.length ≤ 9223372036854770000) :
    Calls Try.prog 13 #[.pointer (some ⟨gy, 0, none⟩), .slice A m.length c] w fun e w' => e = .returned (.int .i64 (feedE ly m)) ∧ Pair base w0 w' 32 gy (feedL ly m) 50 gx lx := by
  have hs := hP.size
  exact pair_step (by decide) (by decide) hP fun r h => rfeed_any w base gy r ly m B A c h hr hl hm hs
theorem y_below {base : Nat} {w0 w : World} {gx gy : Nat} {lx ly : List Int} (hP : Pair base w0 w 32 gy ly 50 gx lx) (n : Int) (hl : ly.length ≤ 4096) :
    Calls Try.prog 15 #[.pointer (some ⟨gy, 0, none⟩), .int .i64 n] w fun e w' => e = .returned (.tuple #[.int .i64 (dr (fair ly n)), .bool (ok (fair ly n))]) ∧ Pair base w0 w' 32 gy (ly.drop (us (fair ly n))) 50 gx lx := by
  refine pair_step (by decide) (by decide) hP fun r h => ?_
  rcases hf : fair ly n with _ | ⟨d, u⟩
  · exact (rbelow_none w base gy r ly n h hl hf).mono fun e w' ⟨he, hm⟩ => ⟨he, hm.went⟩
  · exact (rbelow_some w base gy r ly n d u h hl hf).mono fun e w' ⟨he, hm⟩ => ⟨he, hm.went⟩
theorem y_pick {base : Nat} {w0 w : World} {gx gy : Nat} {lx ly : List Int} (hP : Pair base w0 w 32 gy ly 50 gx lx) (ws : List Int) (A : Option Addr) (n c : Nat) (hn : ws.length = n) (hr : Rd w base A ws) (hl : ly.length ≤ 4096) (hm : ws.length ≤ 9223372036854770000) :
    Calls Try.prog 17 #[.pointer (some ⟨gy, 0, none⟩), .slice A n c] w fun e w' => e = .returned (.tuple #[.int .i64 (pv (pick ly ws)), .bool (pb (pick ly ws))]) ∧ Pair base w0 w' 32 gy (ly.drop (pu (pick ly ws))) 50 gx lx := by
  subst hn
  have hs := hP.size
  refine pair_step (by decide) (by decide) hP fun r h => rpick_any w base gy r ly ws base A c h hl hr hs (fun hne b off hA => ?_) hm
  rcases hr with rfl | ⟨b', off', hA', hb, _⟩
  · exact absurd rfl hne
  · rw [hA'] at hA
    injection hA with hA
    injection hA with h1 _
    subst h1
    have := h.lt.1
    omega
/-! ### The program's stream -/
theorem total_none0 (A : Option Addr) (c : Nat) (w : World) : Calls Try.prog 25 #[.slice A 0 c] w fun e w' => e = .returned (.tuple #[.int .i64 0, .bool true]) ∧ w = w' :=
  total_some 0 A c [] w 0 Rd.nil (by simp) rfl
theorem pick_nil (w : World) (base g : Nat) (r : Option Nat) (l : List Int) (A : Option Addr) (c : Nat) (h : Str w base 50 g r l) (hl : l.length ≤ 4096) :
    Calls Try.prog 16 #[.pointer (some ⟨g, 0, none⟩), .slice A 0 c] w fun e w' => e = .returned (.tuple #[.int .i64 0, .bool false]) ∧ Went w w' base 50 g r l := by
  have hf : fair l 0 = none := by unfold fair; rw [if_pos (by omega)]
  have HS := Lib.hid h; have HF := Lib.hid hf; clear h hf
  go_enter Try.func16, Try.ntmps16
  go_wp2_with (first
    | ((with_reducible refine (total_none0 A c _).mono ?_); rintro e w' ⟨rfl, rfl⟩)
    | ((with_reducible refine (below_none _ base g r l 0 HS.out hl HF.out).mono ?_); rintro e w' ⟨rfl, hw⟩))
  go_ret2
  exact ⟨rfl, hw⟩
theorem pick_of_nil (l : List Int) : pick l [] = none := by
  have hf : fair l 0 = none := by unfold fair; rw [if_pos (by omega)]
  exact pick_fair (s := 0) rfl hf
theorem x_pick {base : Nat} {w0 w : World} {gx gy : Nat} {lx ly : List Int} (hP : Pair base w0 w 50 gx lx 32 gy ly) (ws : List Int) (A : Option Addr) (n c : Nat) (hn : ws.length = n) (hr : Rd w base A ws) (hl : lx.length ≤ 4096) (hm : ws.length ≤ 9223372036854770000) :
    Calls Try.prog 16 #[.pointer (some ⟨gx, 0, none⟩), .slice A n c] w fun e w' => e = .returned (.tuple #[.int .i64 (pv (pick lx ws)), .bool (pb (pick lx ws))]) ∧ Pair base w0 w' 50 gx (lx.drop (pu (pick lx ws))) 32 gy ly := by
  subst hn
  have hs := hP.size
  refine pair_step (by decide) (by decide) hP fun r h => ?_
  by_cases hne : ws = []
  · subst hne
    rw [pick_of_nil]
    exact pick_nil w base gx r lx A c h hl
  · refine pick_any w base gx r lx ws base A c h hl hr hs (fun b off hA => ?_) hm
    rcases hr with rfl | ⟨b', off', hA', hb, _⟩
    · exact absurd rfl hne
    · rw [hA'] at hA
      injection hA with hA
      injection hA with h1 _
      subst h1
      have hlt := h.lt
      refine ⟨by omega, fun e => ?_⟩
      have := (hlt.2.2 _ e.symm).1
      omega
theorem x_left_q {base : Nat} {w0 w : World} {ty : TypeId} {gx gy : Nat} {lx ly : List Int} (hP : Pair base w0 w 50 gx lx ty gy ly) (k : Nat) : Calls Try.prog 21 #[.pointer (some ⟨gx, 0, none⟩)] (w.drewN k) fun e w' => e = .returned (.int .i64 lx.length) ∧ w' = w.drewN k :=
  (x_left (hP.drewN k)).mono fun _ _ ⟨he, hw⟩ => ⟨he, hw.symm⟩

theorem x_below' {base : Nat} {w0 w : World} {gx gy : Nat} {lx ly : List Int} (hP : Pair base w0 w 50 gx lx 32 gy ly) (n : Int) (hl : lx.length ≤ 4096) (l' : List Int) (hl' : lx.drop (us (fair lx n)) = l') :
    Calls Try.prog 14 #[.pointer (some ⟨gx, 0, none⟩), .int .i64 n] w fun e w' => e = .returned (.tuple #[.int .i64 (dr (fair lx n)), .bool (ok (fair lx n))]) ∧ Pair base w0 w' 50 gx l' 32 gy ly := by
  subst hl'
  exact x_below (by decide) hP n hl
theorem y_below' {base : Nat} {w0 w : World} {gx gy : Nat} {lx ly : List Int} (hP : Pair base w0 w 32 gy ly 50 gx lx) (n : Int) (hl : ly.length ≤ 4096) (l' : List Int) (hl' : ly.drop (us (fair ly n)) = l') :
    Calls Try.prog 15 #[.pointer (some ⟨gy, 0, none⟩), .int .i64 n] w fun e w' => e = .returned (.tuple #[.int .i64 (dr (fair ly n)), .bool (ok (fair ly n))]) ∧ Pair base w0 w' 32 gy l' 50 gx lx := by
  subst hl'
  exact y_below hP n hl
theorem x_pick' {base : Nat} {w0 w : World} {gx gy : Nat} {lx ly : List Int} (hP : Pair base w0 w 50 gx lx 32 gy ly) (ws : List Int) (A : Option Addr) (n c : Nat) (hn : ws.length = n) (hr : Rd w base A ws) (hl : lx.length ≤ 4096) (hm : ws.length ≤ 9223372036854770000) (l' : List Int) (hl' : lx.drop (pu (pick lx ws)) = l') :
    Calls Try.prog 16 #[.pointer (some ⟨gx, 0, none⟩), .slice A n c] w fun e w' => e = .returned (.tuple #[.int .i64 (pv (pick lx ws)), .bool (pb (pick lx ws))]) ∧ Pair base w0 w' 50 gx l' 32 gy ly := by
  subst hl'
  exact x_pick hP ws A n c hn hr hl hm
theorem y_pick' {base : Nat} {w0 w : World} {gx gy : Nat} {lx ly : List Int} (hP : Pair base w0 w 32 gy ly 50 gx lx) (ws : List Int) (A : Option Addr) (n c : Nat) (hn : ws.length = n) (hr : Rd w base A ws) (hl : ly.length ≤ 4096) (hm : ws.length ≤ 9223372036854770000) (l' : List Int) (hl' : ly.drop (pu (pick ly ws)) = l') :
    Calls Try.prog 17 #[.pointer (some ⟨gy, 0, none⟩), .slice A n c] w fun e w' => e = .returned (.tuple #[.int .i64 (pv (pick ly ws)), .bool (pb (pick ly ws))]) ∧ Pair base w0 w' 32 gy l' 50 gx lx := by
  subst hl'
  exact y_pick hP ws A n c hn hr hl hm
/-- The cell of the document's stream. -/
theorem Pair.ycell {base : Nat} {w0 w : World} {gx gy : Nat} {lx ly : List Int} (hP : Pair base w0 w 32 gy ly 50 gx lx) : ∃ A c, w.cell? ⟨gy, 0, none⟩ = some (.slice A ly.length c) := by
  obtain ⟨r, _, h, _⟩ := hP
  obtain ⟨A, c, hb⟩ := h.blk
  exact ⟨A, c, hb.cell⟩

/-! ### Deal of both -/
/-- Both streams, and what was dealt by the first. -/
def PA (base : Nat) (w0 w : World) (gx : Nat) (lx : List Int) (gy : Nat) (ly : List Int) (gd : Nat) (p : List Int) : Prop :=
  ∃ rx ry, Str w base 50 gx rx lx ∧ Str w base 32 gy ry ly ∧ gx ≠ gy ∧ (∀ k, rx = some k → ry ≠ some k) ∧ Below base w0 w ∧ Arr w gd p ∧ gd ≠ gy ∧ ry ≠ some gd
theorem x_deal_no {base : Nat} {w0 w : World} {gx gy : Nat} {lx ly : List Int} (hP : Pair base w0 w 50 gx lx 32 gy ly) (n : Int) (hl : lx.length ≤ 4096) (hn : (n < 0 ∨ 256 < n) ∨ (0 ≤ n ∧ n ≤ 256 ∧ deal lx n.toNat = none)) :
    Calls Try.prog 18 #[.pointer (some ⟨gx, 0, none⟩), .int .i64 n] w fun e w' => e = .returned (.tuple #[.slice none 0 0, .bool false]) ∧ Pair base w0 w' 50 gx lx 32 gy ly := by
  refine pair_step (by decide) (by decide) hP fun r h => ?_
  rcases hn with hn | ⟨h0, h1, hd⟩
  · exact deal_out w base gx r lx n h hn
  · obtain ⟨k, rfl⟩ : ∃ k : Nat, n = (k : Int) := ⟨n.toNat, by omega⟩
    refine (deal_in w base gx r lx k h hl (by omega)).mono fun e w' hD => ?_
    rw [show ((k : Int)).toNat = k by omega] at hd
    rw [hd] at hD
    exact hD
theorem y_deal_no {base : Nat} {w0 w : World} {gx gy : Nat} {lx ly : List Int} (hP : Pair base w0 w 32 gy ly 50 gx lx) (n : Int) (hl : ly.length ≤ 4096) (hn : (n < 0 ∨ 256 < n) ∨ (0 ≤ n ∧ n ≤ 256 ∧ deal ly n.toNat = none)) :
    Calls Try.prog 19 #[.pointer (some ⟨gy, 0, none⟩), .int .i64 n] w fun e w' => e = .returned (.tuple #[.slice none 0 0, .bool false]) ∧ Pair base w0 w' 32 gy ly 50 gx lx := by
  refine pair_step (by decide) (by decide) hP fun r h => ?_
  rcases hn with hn | ⟨h0, h1, hd⟩
  · exact rdeal_out w base gy r ly n h hn
  · obtain ⟨k, rfl⟩ : ∃ k : Nat, n = (k : Int) := ⟨n.toNat, by omega⟩
    refine (rdeal_in w base gy r ly k h hl (by omega)).mono fun e w' hD => ?_
    rw [show ((k : Int)).toNat = k by omega] at hd
    rw [hd] at hD
    exact hD
theorem x_deal_yes {base : Nat} {w0 w : World} {gx gy : Nat} {lx ly : List Int} (hP : Pair base w0 w 50 gx lx 32 gy ly) (n : Nat) (hl : lx.length ≤ 4096) (hn : n ≤ 256) (p : List Int) (t : Nat) (hd : deal lx n = some (p, t)) (l' : List Int) (hl' : lx.drop t = l') :
    Calls Try.prog 18 #[.pointer (some ⟨gx, 0, none⟩), .int .i64 n] w fun e w' => ∃ gd, e = .returned (.tuple #[.slice (some ⟨gd, 0, none⟩) p.length p.length, .bool true]) ∧ PA base w0 w' gx l' gy ly gd p := by
  subst hl'
  obtain ⟨rx, ry, h1, h2, h3, h4, h5⟩ := hP
  have l2 := h2.lt
  refine (deal_in w base gx rx lx n h1 hl hn).mono fun e w' hD => ?_
  rw [hd] at hD
  obtain ⟨gd, he, hw, ha, hlt⟩ := hD
  have hb := Went.below hw h1
  obtain ⟨r', s1, hT, hr⟩ := hw
  refine ⟨gd, he, r', ry, s1, h2.beside h1 (by decide) (by decide) (fun e => h3 e.symm) (fun k hk e => h4 k e hk) hT, h3, fun k hk e => ?_, h5.trans hb, ha, by omega, fun e => ?_⟩
  · rcases hr with rfl | ⟨k', rfl, hk'⟩
    · exact h4 k hk e
    · injection hk with hk
      subst hk
      have := (l2.2.2 _ e).2
      omega
  · have := (l2.2.2 gd e).2
    omega
theorem y_deal_yes {base : Nat} {w0 w : World} {gx gy : Nat} {lx ly : List Int} {gd : Nat} {p : List Int} (hP : PA base w0 w gx lx gy ly gd p) (n : Nat) (hl : ly.length ≤ 4096) (hn : n ≤ 256) (t : Nat) (hd : deal ly n = some (p, t)) (l' : List Int) (hl' : ly.drop t = l') :
    Calls Try.prog 19 #[.pointer (some ⟨gy, 0, none⟩), .int .i64 n] w fun e w' => ∃ A c, e = .returned (.tuple #[.slice A p.length c, .bool true]) ∧ Pair base w0 w' 32 gy l' 50 gx lx ∧ Rd w' w'.heap.size A p ∧ Arr w' gd p := by
  subst hl'
  obtain ⟨rx, ry, h1, h2, h3, h4, h5, ha, hg1, hg2⟩ := hP
  refine (rdeal_in w base gy ry ly n h2 hl hn).mono fun e w' hD => ?_
  rw [hd] at hD
  obtain ⟨A, c, he, hw, hr⟩ := hD
  refine ⟨A, c, he, pair_went (by decide) (by decide) h2 h1 (fun e => h3 e.symm) (fun k hk e => h4 k e hk) h5 hw, hr, ?_⟩
  obtain ⟨r', _, hT, _⟩ := hw
  exact ha.keep (hT.block gd ha.lt hg1 (fun e => hg2 e.symm))

/-! ### What is fed, and then written over -/
/-- Both streams, and beside them a row of n numbers at block bi that is neither's. -/
def PIn (base : Nat) (w0 w : World) (gx : Nat) (lx : List Int) (gy : Nat) (ly : List Int) (bi n : Nat) : Prop :=
  ∃ rx ry, Str w base 50 gx rx lx ∧ Str w base 32 gy ry ly ∧ gx ≠ gy ∧ (∀ k, rx = some k → ry ≠ some k) ∧ Below base w0 w ∧ base ≤ bi ∧ rx ≠ some bi ∧ ry ≠ some bi ∧ ∃ cur, w.heap[bi]? = some (.cells cur 3 (0, 0)) ∧ n ≤ cur.size
theorem PIn.pair {base : Nat} {w0 w : World} {gx : Nat} {lx : List Int} {gy : Nat} {ly : List Int} {bi n : Nat} (h : PIn base w0 w gx lx gy ly bi n) : Pair base w0 w 50 gx lx 32 gy ly := by
  obtain ⟨rx, ry, h1, h2, h3, h4, h5, _⟩ := h
  exact ⟨rx, ry, h1, h2, h3, h4, h5⟩
theorem PIn.start {base : Nat} {w0 w w1 : World} {gx : Nat} {lx : List Int} {gy : Nat} {ly m : List Int} {A : Option Addr} {c : Nat} (h : Pair base w0 w 50 gx lx 32 gy ly) (ho : w1.ownsRow base 3 1 (.slice A m.length c) m.length (vs m)) (hg : (w.alloc (.cells #[] 3)).grownBy w1 (some w.heap.size))
    (hob : (Value.slice A m.length c).ownBlock = some w.heap.size ∨ (Value.slice A m.length c).ownBlock = some (w.alloc (.cells #[] 3)).heap.size) :
    ∃ bi, A = some ⟨bi, 0, none⟩ ∧ PIn base w0 w1 gx lx gy ly bi m.length ∧ Rd w1 w1.heap.size (some ⟨bi, 0, none⟩) m := by
  have hsz := h.size
  have hb : Below w.heap.size w w1 := ⟨hg.os, hg.tape, hg.output, Nat.le_trans (by simp) hg.size, fun k hk => (hg.block k (by simp; omega) (by simp; omega)).trans (Below.heap_alloc w _ k hk)⟩
  have hr := Rd.of_own ho
  obtain ⟨bi, hbi, hlt⟩ : ∃ bi, (Value.slice A m.length c).ownBlock = some bi ∧ w.heap.size ≤ bi := by
    rcases hob with e | e
    · exact ⟨_, e, Nat.le_refl _⟩
    · exact ⟨_, e, by simp⟩
  rcases ho.2 with ⟨hv, _⟩ | ⟨g', cap, cur, hv, _, hcur, hn, _, hs, _⟩
  · rw [hv] at hbi; simp [Value.ownBlock] at hbi
  · injection hv with h1 _ h3
    subst h1; subst h3
    simp only [Value.ownBlock, Option.some.injEq] at hbi
    subst hbi
    obtain ⟨rx, ry, s1, s2, d1, d2, _⟩ := id h
    have hp := Pair.step h hb
    refine ⟨g', rfl, ?_, hr⟩
    have l1 := s1.lt
    have l2 := s2.lt
    exact ⟨rx, ry, s1.keep (hb.block _ l1.2.1) (fun k hk => hb.block k (l1.2.2 k hk).2), s2.keep (hb.block _ l2.2.1) (fun k hk => hb.block k (l2.2.2 k hk).2), d1, d2, hp.below, by omega, fun e => by have := (l1.2.2 _ e).2; omega, fun e => by have := (l2.2.2 _ e).2; omega, cur, hcur, by omega⟩
theorem blk_three {w : World} {g bi : Nat} {t : TypeId} {v : Value} {cur : Array Value} (hb : Blk w g t v) (hc : w.heap[bi]? = some (.cells cur 3 (0, 0))) (ht : 3 ≠ t) : bi ≠ g := by
  rintro rfl
  unfold Blk at hb
  rw [hc] at hb
  injection hb with hb
  injection hb with _ hb
  exact ht hb
theorem PIn.feed {base : Nat} {w0 w : World} {gx : Nat} {lx : List Int} {gy : Nat} {ly : List Int} {bi n : Nat} (h : PIn base w0 w gx lx gy ly bi n) (m : List Int) (B : Nat) (A : Option Addr) (c : Nat) (hr : Rd w B A m) (hl : lx.length ≤ 4096) (hm : m.length ≤ 9223372036854770000) :
    Calls Try.prog 12 #[.pointer (some ⟨gx, 0, none⟩), .slice A m.length c] w fun e w' => e = .returned (.int .i64 (feedE lx m)) ∧ PIn base w0 w' gx (feedL lx m) gy ly bi n := by
  obtain ⟨rx, ry, h1, h2, h3, h4, h5, b1, b2, b3, cur, hcur, hn⟩ := h
  have l1 := h1.lt
  have l2 := h2.lt
  obtain ⟨Ax, cx, hbx⟩ := h1.blk
  have hne := blk_three hbx hcur (by decide)
  refine (feed_any w base gx rx lx m B A c h1 hr hl hm (by omega)).mono fun e w' ⟨he, hw⟩ => ⟨he, ?_⟩
  have hp := pair_went (by decide) (by decide) h1 h2 h3 h4 h5 hw
  have hb := Went.below hw h1
  obtain ⟨r', s1, hT, hr'⟩ := hw
  have hbi : bi < w.heap.size := (Array.getElem?_eq_some_iff.1 hcur).1
  refine ⟨r', ry, s1, h2.beside h1 (by decide) (by decide) (fun e => h3 e.symm) (fun k hk e => h4 k e hk) hT, h3, fun k hk e => ?_, h5.trans hb, b1, fun e => ?_, b3, cur, (hT.block bi hbi hne (fun e => b2 e.symm)).trans hcur, hn⟩
  · rcases hr' with rfl | ⟨k', rfl, hk'⟩
    · exact h4 k hk e
    · injection hk with hk
      subst hk
      have := (l2.2.2 _ e).2
      omega
  · rcases hr' with rfl | ⟨k', rfl, hk'⟩
    · exact b2 e
    · injection e with e
      omega
theorem PIn.set {base : Nat} {w0 w : World} {gx : Nat} {lx : List Int} {gy : Nat} {ly : List Int} {bi n : Nat} (h : PIn base w0 w gx lx gy ly bi n) (k : Nat) (v : Value) : PIn base w0 (w.setCell ⟨bi, k, none⟩ v) gx lx gy ly bi n := by
  obtain ⟨rx, ry, h1, h2, h3, h4, h5, b1, b2, b3, cur, hcur, hn⟩ := h
  obtain ⟨Ax, cx, hbx⟩ := h1.blk
  obtain ⟨Ay, cy, hby⟩ := h2.blk
  have n1 := blk_three hbx hcur (by decide)
  have n2 := blk_three hby hcur (by decide)
  have keep : ∀ j, j ≠ bi → (w.setCell ⟨bi, k, none⟩ v).heap[j]? = w.heap[j]? := fun j hj => Below.heap_setCell _ _ _ _ hj
  exact ⟨rx, ry, h1.keep (keep _ n1.symm) (fun j hj => keep j (fun e => b2 (e ▸ hj))), h2.keep (keep _ n2.symm) (fun j hj => keep j (fun e => b3 (e ▸ hj))), h3, h4, h5.setCell b1 _, b1, b2, b3, cur.setIfInBounds k v, by simp [World.setCell, Array.getElem?_modify, hcur], by simpa using hn⟩
theorem PIn.cell {base : Nat} {w0 w : World} {gx : Nat} {lx : List Int} {gy : Nat} {ly : List Int} {bi n : Nat} (h : PIn base w0 w gx lx gy ly bi n) {k : Nat} (hk : k < n) : (∃ v, w.cell? ⟨bi, k, none⟩ = some v) ∧ w.frozen? ⟨bi, k, none⟩ = false := by
  obtain ⟨rx, ry, h1, h2, h3, h4, h5, b1, b2, b3, cur, hcur, hn⟩ := h
  refine ⟨⟨cur[k]'(by omega), ?_⟩, by simp [World.frozen?, hcur]⟩
  rw [cell_of_row w bi k cur 3 (0, 0) hcur]
  exact Array.getElem?_eq_getElem (by omega)
end Go.Proofs.Ytieohegflcfnaaa.Con
