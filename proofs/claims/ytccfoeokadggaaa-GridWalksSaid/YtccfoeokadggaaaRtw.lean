/-
  The contract of the document's own Toward.
-/
import Derived.Test.YtccfoeokadggaaaTwy
import Derived.Deep.RegionHeld3
import Derived.Deep.LoopGhost
namespace Go.Proofs.Ytccfoeokadggaaa.Con
open Go.RowKit Go.Shelf Wlk

/-- The four boxes at the beginning of the document's walk. -/
abbrev ropen (W H : Int) (A : Option Addr) (k c : Nat) (ax ay bx by' : Int) (w : World) : World :=
  (((w.alloc (.cells #[.int .i64 W, .int .i64 H, .slice A k c] 29)).alloc (.cells #[.int .i64 ax, .int .i64 ay] 23)).alloc (.cells #[.int .i64 bx, .int .i64 by'] 23)).alloc (.cells #[.int .i64 0, .int .i64 0] 23)

/-- What lies there at the head of a round. -/
structure RAt (W H : Int) (A : Option Addr) (k c : Nat) (bx by' : Int) (w : World) (x y : Int) (V : World) : Prop where
  grid : V.heap[w.heap.size]? = some (.cells #[.int .i64 W, .int .i64 H, .slice A k c] 29 (0, 0))
  at' : BoxP V (w.heap.size + 1) x y
  goal : BoxP V (w.heap.size + 1 + 1) bx by'
  res : BoxP V (w.heap.size + 1 + 1 + 1) 0 0
  below : Below w.heap.size w V
theorem RAt.start (W H : Int) (A : Option Addr) (k c : Nat) (ax ay bx by' : Int) (w : World) : RAt W H A k c bx by' w ax ay (ropen W H A k c ax ay bx by' w) :=
  ⟨old_at (old_at (old_at (new_at _ _ rfl))), old_at (old_at (new_at _ _ (by simp))), old_at (new_at _ _ (by simp)), new_at _ _ (by simp),
    ((((Below.refl _ w).alloc (Nat.le_refl _) _).alloc (by simp) _).alloc (by simp; omega) _).alloc (by simp; omega) _⟩
theorem RAt.of {W H : Int} {A : Option Addr} {k c : Nat} {bx by' : Int} {w : World} {x y : Int} {V V' : World} (h : RAt W H A k c bx by' w x y V) (hb : Below V.heap.size V V') : RAt W H A k c bx by' w x y V' :=
  ⟨(hb.block _ (Array.getElem?_eq_some_iff.1 h.grid).1).trans h.grid, h.at'.kept (hb.block _ h.at'.lt), h.goal.kept (hb.block _ h.goal.lt), h.res.kept (hb.block _ h.res.lt), h.below.trans (hb.mono h.below.size)⟩
theorem RAt.put {W H : Int} {A : Option Addr} {k c : Nat} {bx by' : Int} {w : World} {x y : Int} {V : World} (h : RAt W H A k c bx by' w x y V) (x' y' : Int) : RAt W H A k c bx by' w x' y' (put2 V (w.heap.size + 1) x' y') :=
  ⟨((Below.heap_setCell _ ⟨w.heap.size + 1, 1, none⟩ _ _ (by show w.heap.size ≠ w.heap.size + 1; omega)).trans (Below.heap_setCell _ ⟨w.heap.size + 1, 0, none⟩ _ _ (by show w.heap.size ≠ w.heap.size + 1; omega))).trans h.grid,
    h.at'.put _ _, h.goal.put_other (by omega) _ _, h.res.put_other (by omega) _ _,
    (h.below.setCell (p := ⟨w.heap.size + 1, 0, none⟩) (by show w.heap.size ≤ w.heap.size + 1; omega) _).setCell (p := ⟨w.heap.size + 1, 1, none⟩) (by show w.heap.size ≤ w.heap.size + 1; omega) _⟩

theorem four {W H : Int} {A : Option Addr} {k c : Nat} {ax ay bx by' : Int} {w : World} {m : Nat} (h : (ropen W H A k c ax ay bx by' w).heap.size ≤ m) :
    w.heap.size < m ∧ w.heap.size + 1 < m ∧ w.heap.size + 1 + 1 < m ∧ w.heap.size + 1 + 1 + 1 < m := by simp at h; omega

/-- The end of the document's walk: the answer lies in its cell. -/
theorem rdone {W H : Int} {A : Option Addr} {k c : Nat} {bx by' : Int} {w : World} {x y : Int} {V : World} (h : RAt W H A k c bx by' w x y V) :
    BoxP (put2 V (w.heap.size + 1 + 1 + 1) x y) (w.heap.size + 1 + 1 + 1) x y ∧ Below w.heap.size w (put2 V (w.heap.size + 1 + 1 + 1) x y) :=
  ⟨h.res.put _ _, (h.below.setCell (p := ⟨w.heap.size + 1 + 1 + 1, 0, none⟩) (by show w.heap.size ≤ w.heap.size + 1 + 1 + 1; omega) _).setCell (p := ⟨w.heap.size + 1 + 1 + 1, 1, none⟩) (by show w.heap.size ≤ w.heap.size + 1 + 1 + 1; omega) _⟩

/-- What holds of the tile at the head of a round. -/
def Inv (W H : Int) (l : List Bool) (one two : Bool) (ax ay bx by' n : Int) (k : Nat) (x y : Int) : Prop :=
  ((one && two) = true → ((0 ≤ x ∧ x ≤ 256) ∧ (0 ≤ y ∧ y ≤ 256) ∧ (0 ≤ bx ∧ bx ≤ 256) ∧ (0 ≤ by' ∧ by' ≤ 256)) ∧ tw (wlOf W H l) (bx, by') n.toNat (ax, ay) = tw (wlOf W H l) (bx, by') (n.toNat - k) (x, y)) ∧ ((one && two) = false → x = ax ∧ y = ay)
theorem inv_no {W H : Int} {l : List Bool} {one two : Bool} {ax ay bx by' n : Int} {k : Nat} {x y : Int} (h : Inv W H l one two ax ay bx by' n k x y) (h1 : inB W H l.length ax ay = one) (h2 : inB W H l.length bx by' = two) (hf : (one && two) = false) : (x, y) = tow W H l ax ay bx by' n := by
  obtain ⟨e1, e2⟩ := h.2 hf
  unfold tow
  rw [h1, h2, hf, e1, e2]
  rfl
theorem inv_yes {W H : Int} {l : List Bool} {one two : Bool} {ax ay bx by' n : Int} {k : Nat} {x y : Int} (h : Inv W H l one two ax ay bx by' n k x y) (h1 : inB W H l.length ax ay = one) (h2 : inB W H l.length bx by' = two) (hf : (one && two) = true)
    (he : n.toNat - k = 0 ∨ (x = bx ∧ y = by') ∨ wlOf W H l (nxt x bx, nxt y by') = true) : (x, y) = tow W H l ax ay bx by' n := by
  have e := (h.1 hf).2
  unfold tow
  rw [h1, h2, hf, if_pos rfl]
  show (x, y) = tw (wlOf W H l) (bx, by') n.toNat (ax, ay)
  rw [e]
  rcases he with he | ⟨rfl, rfl⟩ | he
  · rw [he]; rfl
  · rw [tw_goal]
  · rw [tw_wall he]
theorem inv_over {W H : Int} {l : List Bool} {one two : Bool} {ax ay bx by' n : Int} {k : Nat} {x y : Int} (h : Inv W H l one two ax ay bx by' n k x y) (h1 : inB W H l.length ax ay = one) (h2 : inB W H l.length bx by' = two) (he : n.toNat - k = 0) : (x, y) = tow W H l ax ay bx by' n := by
  cases hf : one && two with
  | true => exact inv_yes h h1 h2 hf (.inl he)
  | false => exact inv_no h h1 h2 hf
theorem nxt_in {a b : Int} (h1 : 0 ≤ a ∧ a ≤ 256) (h2 : 0 ≤ b ∧ b ≤ 256) : 0 ≤ nxt a b ∧ nxt a b ≤ 256 := by unfold nxt; split <;> (try split) <;> omega
theorem inv_next {W H : Int} {l : List Bool} {ax ay bx by' n : Int} {k : Nat} {x y : Int} (h : Inv W H l true true ax ay bx by' n k x y) (hk : k < n.toNat) (hp : ¬ (x = bx ∧ y = by')) (hw : wlOf W H l (nxt x bx, nxt y by') = false) : Inv W H l true true ax ay bx by' n (k + 1) (nxt x bx) (nxt y by') := by
  obtain ⟨⟨x1, y1, bx1, by1⟩, e⟩ := h.1 rfl
  refine ⟨fun _ => ⟨⟨nxt_in x1 bx1, nxt_in y1 by1, bx1, by1⟩, ?_⟩, fun h => by cases h⟩
  rw [e, show n.toNat - k = (n.toNat - (k + 1)) + 1 by omega]
  exact tw_step (g := (bx, by')) (p := (x, y)) hw (fun e => hp (by rw [Prod.mk.injEq] at e; exact e)) _

set_option maxRecDepth 100000 in
set_option maxHeartbeats 4000000 in
theorem rtoward_any (W H : Int) (A : Option Addr) (l : List Bool) (c : Nat) (ax ay bx by' n : Int) (w : World) (B : Nat) (hl : RB w B A l) (hB0 : B ≤ w.heap.size) (hn : Fits n) :
    Calls Try.prog 16 #[gv W H A l.length c, pv ax ay, pv bx by', .int .i64 n] w fun e w' =>
      e = .returned (pv (tow W H l ax ay bx by' n).1 (tow W H l ax ay bx by' n).2) ∧ Below w.heap.size w w' := by
  have hS := RAt.start W H A l.length c ax ay bx by' w
  have HS := Lib.hid hS; clear hS
  have HN := Lib.hid hn
  have b1 : n ≤ 9223372036854775807 := hn.2
  clear hn
  generalize hone : inB W H l.length ax ay = one
  generalize htwo : inB W H l.length bx by' = two
  have HO := Lib.hid hone; have HT := Lib.hid htwo
  have hi1 : ∀ w : World, Calls Try.prog 27 #[gv W H A l.length c, pv ax ay] w fun e w' => e = .returned (.bool one) ∧ Below w.heap.size w w' := by intro w; rw [← hone]; exact rin_any W H A l.length c ax ay w
  have hi2 : ∀ w : World, Calls Try.prog 27 #[gv W H A l.length c, pv bx by'] w fun e w' => e = .returned (.bool two) ∧ Below w.heap.size w w' := by intro w; rw [← htwo]; exact rin_any W H A l.length c bx by' w
  have HI1 := Lib.hid hi1; have HI2 := Lib.hid hi2
  clear hi1 hi2 hone htwo
  go_enter Try.func16, Try.ntmps16
  go_wp2_with (first
    | ((with_reducible refine (HI1.out _).mono ?_); rintro e w1 ⟨rfl, hB⟩; obtain ⟨hc1, hf1⟩ := bcell hB; obtain ⟨z0, z1, z2, z3⟩ := four hB.size; have HB := Lib.hid hB; clear hB)
    | ((with_reducible refine (HI2.out _).mono ?_); rintro e w2 ⟨rfl, hB2⟩; obtain ⟨hc2, hf2⟩ := bcell hB2; have HB2 := Lib.hid hB2; clear hB2))
  have hM := (HS.out.of HB.out).of HB2.out
  clear hc1 hf1 hc2 hf2 z0 z1 z2 z3
  have HM := Lib.hid hM; clear hM
  have hI0 : Inv W H l one two ax ay bx by' n 0 ax ay := by
    refine ⟨fun h => ?_, fun _ => ⟨rfl, rfl⟩⟩
    rw [Bool.and_eq_true] at h
    have a1 := at_in (HO.out.trans h.1)
    have a2 := at_in (HT.out.trans h.2)
    exact ⟨⟨by omega, by omega, by omega, by omega⟩, rfl⟩
  have hI0 : Inv W H l one two ax ay bx by' n 0 ax ay := by
    refine ⟨fun h => ?_, fun _ => ⟨rfl, rfl⟩⟩
    rw [Bool.and_eq_true] at h
    have a1 := at_in (HO.out.trans h.1)
    have a2 := at_in (HT.out.trans h.2)
    exact ⟨⟨by omega, by omega, by omega, by omega⟩, rfl⟩
  have hI0 : Inv W H l one two ax ay bx by' n 0 ax ay := by
    refine ⟨fun h => ?_, fun _ => ⟨rfl, rfl⟩⟩
    rw [Bool.and_eq_true] at h
    have a1 := at_in (HO.out.trans h.1)
    have a2 := at_in (HT.out.trans h.2)
    exact ⟨⟨by omega, by omega, by omega, by omega⟩, rfl⟩
  go_loopw [11] (fun i wr => ∃ (k : Nat) (x y : Int), i = .int .i64 (k : Int) ∧ k ≤ n.toNat ∧ Hid (RAt W H A l.length c bx by' w x y wr) ∧ Inv W H l one two ax ay bx by' n k x y)
    (fun i _ => n.toNat - (intOf i).toNat)
  case atStart => exact ⟨0, ax, ay, rfl, by omega, HM, hI0⟩
  case round =>
    obtain ⟨k, x, y, rfl, hk, hR, hI⟩ := hrel
    have HI := Lib.hid hI; clear hI hI0 HM
    have hRo := hR.out
    have d0 := hRo.at'.cell0
    have d1 := hRo.at'.cell1
    have e0 := hRo.goal.cell0
    have e1 := hRo.goal.cell1
    have r0 := hRo.res.cell0
    have r1 := hRo.res.cell1
    have r2 := hRo.res.frozen 0
    have r3 := hRo.res.frozen 1
    clear hRo
    by_cases hlt : (k : Int) < n
    · cases one with
      | false =>
        go_wp2
        have hd := rdone hR.out
        have q0 := hd.1.cell0
        have q1 := hd.1.cell1
        refine bodyPost_ret (v := pv x y) (by simp [results, Try.results16, go_sem, q0, q1]; try rfl) rfl ⟨by rw [← inv_no HI.out HO.out HT.out rfl], hd.2⟩
      | true =>
        cases two with
        | false =>
          go_wp2
          have hd := rdone hR.out
          have q0 := hd.1.cell0
          have q1 := hd.1.cell1
          refine bodyPost_ret (v := pv x y) (by simp [results, Try.results16, go_sem, q0, q1]; try rfl) rfl ⟨by rw [← inv_no HI.out HO.out HT.out rfl], hd.2⟩
        | true =>
          obtain ⟨⟨x1, y1, bx1, by1⟩, _⟩ := HI.out.1 rfl
          by_cases hxb : x = bx
          · have hxb2 := hxb.symm
            subst hxb2
            by_cases hyb : y = by'
            · have hyb2 := hyb.symm
              subst hyb2
              go_wp2
              have hd := rdone hR.out
              have q0 := hd.1.cell0
              have q1 := hd.1.cell1
              refine bodyPost_ret (v := pv bx by') (by simp [results, Try.results16, go_sem, q0, q1]; try rfl) rfl ⟨by rw [← inv_yes HI.out HO.out HT.out rfl (.inr (.inl ⟨rfl, rfl⟩))], hd.2⟩
            · have hyb' : (y == by') = false := by simpa using hyb
              have hnx : ∀ w : World, Calls Try.prog 28 #[.int .i64 bx, .int .i64 bx] w fun e w' => e = .returned (.int .i64 (nxt bx bx)) ∧ w = w' := fun w => rnearer_any bx bx w (by omega) (by omega)
              have hny : ∀ w : World, Calls Try.prog 28 #[.int .i64 y, .int .i64 by'] w fun e w' => e = .returned (.int .i64 (nxt y by')) ∧ w = w' := fun w => rnearer_any y by' w (by omega) (by omega)
              have HNX := Lib.hid hnx; have HNY := Lib.hid hny
              clear hnx hny
              go_wp2
              go_region_held3 (fun V => V.cell? ⟨w.heap.size + 1, 0, none⟩ = some (.int .i64 bx) ∧ V.cell? ⟨w.heap.size + 1, 1, none⟩ = some (.int .i64 y) ∧ V.cell? ⟨w.heap.size + 1 + 1, 0, none⟩ = some (.int .i64 bx) ∧ V.cell? ⟨w.heap.size + 1 + 1, 1, none⟩ = some (.int .i64 by')) (first | exact ⟨d0, d1, e0, e1⟩ | go_keep)
                ((first
                | ((with_reducible refine (HNX.out _).mono ?_); rintro e w' ⟨rfl, rfl⟩)
                | ((with_reducible refine (HNY.out _).mono ?_); rintro e w' ⟨rfl, rfl⟩)))
              all_goals
                have hbk : Below wr.heap.size wr (wr.alloc (.cells #[.int .i64 (nxt bx bx), .int .i64 (nxt y by')] 23)).drew := ((Below.refl _ _).alloc (Nat.le_refl _) _).drew
                have hR2 := hR.out.of hbk
                have hbN : BoxP (wr.alloc (.cells #[.int .i64 (nxt bx bx), .int .i64 (nxt y by')] 23)).drew wr.heap.size (nxt bx bx) (nxt y by') := BoxP.new wr _ _
                generalize (wr.alloc (.cells #[.int .i64 (nxt bx bx), .int .i64 (nxt y by')] 23)).drew = wN at hbk hR2 hbN ⊢
                have hRB := Lib.hid (hl.below hR2.below hB0)
                have hBV := Nat.le_trans hB0 hR2.below.size
                have HR2 := Lib.hid hR2
                have HBN := Lib.hid hbN
                clear d0 d1 e0 e1 r0 r1 r2 r3 hbk
                have g0 : wN.cell? ⟨w.heap.size, 0, none⟩ = some (.int .i64 W) := by simp [World.cell?, hR2.grid]
                have g1 : wN.cell? ⟨w.heap.size, 1, none⟩ = some (.int .i64 H) := by simp [World.cell?, hR2.grid]
                have g2 : wN.cell? ⟨w.heap.size, 2, none⟩ = some (.slice A l.length c) := by simp [World.cell?, hR2.grid]
                have n0 := hbN.cell0
                have n1 := hbN.cell1
                clear hR2 hbN
                cases hw : wallB W H l (nxt bx bx) (nxt y by') with
                | true =>
                  have HW := Lib.hid hw
                  go_wp2_with (first
                    | ((with_reducible refine (rwall_any W H A l c (nxt bx bx) (nxt y by') _ B hRB.out hBV).mono ?_); rintro e w4 ⟨rfl, hB4⟩; have HR4 := Lib.hid (HR2.out.of hB4); have d0 := HR4.out.at'.cell0; have d1 := HR4.out.at'.cell1; have r0 := HR4.out.res.cell0; have r1 := HR4.out.res.cell1; have r2 := HR4.out.res.frozen 0; have r3 := HR4.out.res.frozen 1; clear g0 g1 g2 n0 n1))
                  have hd := rdone HR4.out
                  have q0 := hd.1.cell0
                  have q1 := hd.1.cell1
                  refine bodyPost_ret (v := pv bx y) (by simp [results, Try.results16, go_sem, q0, q1]; try rfl) rfl ⟨by rw [← inv_yes HI.out HO.out HT.out rfl (.inr (.inr HW.out))], hd.2⟩
                | false =>
                  have HW := Lib.hid hw
                  go_wp2_with (first
                    | ((with_reducible refine (rwall_any W H A l c (nxt bx bx) (nxt y by') _ B hRB.out hBV).mono ?_); rintro e w4 ⟨rfl, hB4⟩; have HR4 := Lib.hid (HR2.out.of hB4); have n2 := (HBN.out.kept (hB4.block _ HBN.out.lt)).cell0; have n3 := (HBN.out.kept (hB4.block _ HBN.out.lt)).cell1; have d0 := HR4.out.at'.cell0; have d1 := HR4.out.at'.cell1; have d2 := HR4.out.at'.frozen 0; have d3 := HR4.out.at'.frozen 1; clear g0 g1 g2 n0 n1))
                  go_roundw
                  case rel => exact ⟨k + 1, _, _, by go_num, by omega, Lib.hid (HR4.out.put _ _), inv_next HI.out (by omega) (fun h => by first | exact hyb h.2 | exact hxb h.1) HW.out⟩
                  case measure => simp [intOf] <;> omega
          · have hxb' : (x == bx) = false := by simpa using hxb
            have hnx : ∀ w : World, Calls Try.prog 28 #[.int .i64 x, .int .i64 bx] w fun e w' => e = .returned (.int .i64 (nxt x bx)) ∧ w = w' := fun w => rnearer_any x bx w (by omega) (by omega)
            have hny : ∀ w : World, Calls Try.prog 28 #[.int .i64 y, .int .i64 by'] w fun e w' => e = .returned (.int .i64 (nxt y by')) ∧ w = w' := fun w => rnearer_any y by' w (by omega) (by omega)
            have HNX := Lib.hid hnx; have HNY := Lib.hid hny
            clear hnx hny
            go_wp2
            go_region_held3 (fun V => V.cell? ⟨w.heap.size + 1, 0, none⟩ = some (.int .i64 x) ∧ V.cell? ⟨w.heap.size + 1, 1, none⟩ = some (.int .i64 y) ∧ V.cell? ⟨w.heap.size + 1 + 1, 0, none⟩ = some (.int .i64 bx) ∧ V.cell? ⟨w.heap.size + 1 + 1, 1, none⟩ = some (.int .i64 by')) (first | exact ⟨d0, d1, e0, e1⟩ | go_keep)
              ((first
              | ((with_reducible refine (HNX.out _).mono ?_); rintro e w' ⟨rfl, rfl⟩)
              | ((with_reducible refine (HNY.out _).mono ?_); rintro e w' ⟨rfl, rfl⟩)))
            all_goals
              have hbk : Below wr.heap.size wr (wr.alloc (.cells #[.int .i64 (nxt x bx), .int .i64 (nxt y by')] 23)).drew := ((Below.refl _ _).alloc (Nat.le_refl _) _).drew
              have hR2 := hR.out.of hbk
              have hbN : BoxP (wr.alloc (.cells #[.int .i64 (nxt x bx), .int .i64 (nxt y by')] 23)).drew wr.heap.size (nxt x bx) (nxt y by') := BoxP.new wr _ _
              generalize (wr.alloc (.cells #[.int .i64 (nxt x bx), .int .i64 (nxt y by')] 23)).drew = wN at hbk hR2 hbN ⊢
              have hRB := Lib.hid (hl.below hR2.below hB0)
              have hBV := Nat.le_trans hB0 hR2.below.size
              have HR2 := Lib.hid hR2
              have HBN := Lib.hid hbN
              clear d0 d1 e0 e1 r0 r1 r2 r3 hbk
              have g0 : wN.cell? ⟨w.heap.size, 0, none⟩ = some (.int .i64 W) := by simp [World.cell?, hR2.grid]
              have g1 : wN.cell? ⟨w.heap.size, 1, none⟩ = some (.int .i64 H) := by simp [World.cell?, hR2.grid]
              have g2 : wN.cell? ⟨w.heap.size, 2, none⟩ = some (.slice A l.length c) := by simp [World.cell?, hR2.grid]
              have n0 := hbN.cell0
              have n1 := hbN.cell1
              clear hR2 hbN
              cases hw : wallB W H l (nxt x bx) (nxt y by') with
              | true =>
                have HW := Lib.hid hw
                go_wp2_with (first
                  | ((with_reducible refine (rwall_any W H A l c (nxt x bx) (nxt y by') _ B hRB.out hBV).mono ?_); rintro e w4 ⟨rfl, hB4⟩; have HR4 := Lib.hid (HR2.out.of hB4); have d0 := HR4.out.at'.cell0; have d1 := HR4.out.at'.cell1; have r0 := HR4.out.res.cell0; have r1 := HR4.out.res.cell1; have r2 := HR4.out.res.frozen 0; have r3 := HR4.out.res.frozen 1; clear g0 g1 g2 n0 n1))
                have hd := rdone HR4.out
                have q0 := hd.1.cell0
                have q1 := hd.1.cell1
                refine bodyPost_ret (v := pv x y) (by simp [results, Try.results16, go_sem, q0, q1]; try rfl) rfl ⟨by rw [← inv_yes HI.out HO.out HT.out rfl (.inr (.inr HW.out))], hd.2⟩
              | false =>
                have HW := Lib.hid hw
                go_wp2_with (first
                  | ((with_reducible refine (rwall_any W H A l c (nxt x bx) (nxt y by') _ B hRB.out hBV).mono ?_); rintro e w4 ⟨rfl, hB4⟩; have HR4 := Lib.hid (HR2.out.of hB4); have n2 := (HBN.out.kept (hB4.block _ HBN.out.lt)).cell0; have n3 := (HBN.out.kept (hB4.block _ HBN.out.lt)).cell1; have d0 := HR4.out.at'.cell0; have d1 := HR4.out.at'.cell1; have d2 := HR4.out.at'.frozen 0; have d3 := HR4.out.at'.frozen 1; clear g0 g1 g2 n0 n1))
                go_roundw
                case rel => exact ⟨k + 1, _, _, by go_num, by omega, Lib.hid (HR4.out.put _ _), inv_next HI.out (by omega) (fun h => by first | exact hyb h.2 | exact hxb h.1) HW.out⟩
                case measure => simp [intOf] <;> omega
    · have hlt' : decide ((k : Int) < n) = false := by simpa using hlt
      have HLT := Lib.hid (show n.toNat - k = 0 by omega)
      go_wp2
      have hd := rdone hR.out
      have q0 := hd.1.cell0
      have q1 := hd.1.cell1
      refine bodyPost_ret (v := pv x y) (by simp [results, Try.results16, go_sem, q0, q1]; try rfl) rfl ⟨by rw [← inv_over HI.out HO.out HT.out HLT.out], hd.2⟩
end Go.Proofs.Ytccfoeokadggaaa.Con
