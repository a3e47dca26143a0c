/-
  The contract of line's iterator: it tells each tile of the line in order, row by row, and stops where a round says so; for every two tiles of a map, and every loop body that keeps the iterator's own boxes.
-/
import Derived.Test.YtiggpmennomplaaLne
namespace Go.Proofs.Ytiggpmennomplaa.Con
open Go.RowKit Go.Shelf Lin
attribute [local go_sem] Oper.semAt_some

theorem pre_line {ax ay bx by' : Int} {k j : Nat} (hk : k < span ay by') :
    (rowsAt (lo ax bx) (lo ay by') (span ax bx) k).filter (touch ax ay bx by') ++ rowF ax ay bx by' (lo ay by' + (k : Int)) j <+: lineL ax ay bx by' := by
  have h := (part_pre (l := lo ax bx) (t := lo ay by') (m := span ax bx) (j := j) hk).filter (touch ax ay bx by')
  rw [List.filter_append] at h
  exact h

def RowsL (J : List Tile → World → Prop) (q : LB) (ax ay bx by' : Int) (f y : Value) (wr : World) : Prop :=
  ∃ (k : Nat) (ff yy : Int), f = .int .i64 ff ∧ y = .int .i64 yy ∧ Hid (yy = lo ay by' + (k : Int)) ∧ k ≤ span ay by' ∧ (lo ax bx ≤ ff ∧ ff ≤ hi ax bx) ∧ J ((rowsAt (lo ax bx) (lo ay by') (span ax bx) k).filter (touch ax ay bx by')) wr ∧ LineM wr q ax ay bx by'
def Row1 (J : List Tile → World → Prop) (q : LB) (ax ay bx by' : Int) (k : Nat) (f : Value) (wr : World) : Prop :=
  ∃ ff : Int, f = .int .i64 ff ∧ (lo ax bx ≤ ff ∧ ff ≤ hi ax bx) ∧ J ((rowsAt (lo ax bx) (lo ay by') (span ax bx) k).filter (touch ax ay bx by')) wr ∧ LineM wr q ax ay bx by'
def Row2 (J : List Tile → World → Prop) (q : LB) (ax ay bx by' : Int) (k : Nat) (y : Int) (f : Value) (wr : World) : Prop :=
  ∃ ff : Int, f = .int .i64 ff ∧ (lo ax bx ≤ ff ∧ ff ≤ hi ax bx) ∧ Hid (∀ x, x < ff → lo ax bx ≤ x → sd ax ay bx by' x y < 0) ∧ J ((rowsAt (lo ax bx) (lo ay by') (span ax bx) k).filter (touch ax ay bx by')) wr ∧ LineM wr q ax ay bx by'
def ColsL (J : List Tile → World → Prop) (q : LB) (ax ay bx by' : Int) (k : Nat) (f : Int) (x : Value) (wr : World) : Prop :=
  ∃ (j : Nat) (xx : Int), x = .int .i64 xx ∧ Hid (xx = lo ax bx + (j : Int)) ∧ j ≤ span ax bx ∧ f ≤ xx ∧ J ((rowsAt (lo ax bx) (lo ay by') (span ax bx) k).filter (touch ax ay bx by') ++ rowF ax ay bx by' (lo ay by' + (k : Int)) j) wr ∧ LineM wr q ax ay bx by'

set_option maxRecDepth 100000 in
set_option maxHeartbeats 4000000 in
theorem linei_in (n : Nat) (hn : 1 ≤ n) (lp n₀ s0 s1 : Nat) (q : LB) {ax ay bx by' : Int} (g : Geo ax ay bx by') (hq : q.within s0 s1) (J Jx : List Tile → World → Prop) (W : World) (hM : LineM W q ax ay bx by')
    (hY : ∀ pre x W1, J pre W1 → pre.length < (lineL ax ay bx by').length → YieldAt Fence.wide (n - 1) Try.prog lp #[pv x.1.1 x.1.2] W1 fun e W' =>
      (e = .returned (.bool true) ∧ J (pre ++ [x]) W' ∧ KS n₀ s0 s1 W1 W') ∨ (e = .returned (.bool false) ∧ Jx (pre ++ [x]) W'))
    (h0 : J [] W) :
    CallsIn Fence.wide n Try.prog 46 #[.func (.yield lp) #[] #[], pt q.a, pt q.b, pt q.l, pt q.s, pt q.r] W fun e W' => (∃ v, e = .returned v) ∧
      ((∃ ys, ys = lineL ax ay bx by' ∧ J ys W') ∨ (∃ pre, pre <+: lineL ax ay bx by' ∧ Jx pre W')) := by
  have HQ := Lib.hid hq; clear hq
  have hsid : ∀ (x y : Int) (V : World), (-1 ≤ x ∧ x ≤ 256) → (0 ≤ y ∧ y ≤ 256) → LineM V q ax ay bx by' → Calls Try.prog 57 #[.int .i64 x, .int .i64 y, pt q.h, pt q.p, pt q.c, pt q.m] V fun e w' => e = .returned (.int .i64 (sd ax ay bx by' x y)) ∧ w' = V :=
    fun x y V hx hy h => side_any g x y hx hy q.h q.p q.c q.m V h.four
  have HSID := Lib.hid hsid; clear hsid
  have hin := lo_in g.a1 g.b1
  have hup := g.up
  have hsp : (span ax bx : Int) = hi ax bx + 1 - lo ax bx := by unfold span; omega
  have hlo : lo ay by' = ay := lo_le g.up
  have hhi : hi ay by' = by' := hi_le g.up
  have hsq : (span ay by' : Int) = by' + 1 - ay := by unfold span; rw [hlo, hhi]; omega
  have hax : lo ax bx ≤ ax ∧ ax ≤ hi ax bx := by unfold lo hi; split <;> omega
  have gy1 := g.a2
  have gy2 := g.b2
  have HLO := Lib.hid hlo; clear hlo hhi
  have HSP := Lib.hid hsp; clear hsp
  have HSQ := Lib.hid hsq; clear hsq
  have G := Lib.hid g; clear g
  have c0 := hM.a.cell0
  have c1 := hM.a.cell1
  refine callsIn_of_wp Try.func46 rfl trivial ?_ rfl
  simp only [Try.ntmps46, List.size_toArray, List.length_cons, List.length_nil, Nat.reduceAdd, Nat.reduceSub, Array.replicate_succ, Array.replicate_zero, List.push_toArray, List.append_toArray, List.nil_append, List.cons_append]
  refine wpIn_wide.2 ?_
  go_wp2
  go_step3
  go_wp2
  go_step3
  go_wp2
  refine (wpIn_wide (n := n)).1 ?_
  clear c0 c1
  gi_loopw [7, 8] (fun f y wr => RowsL J q ax ay bx by' f y wr) (fun _ y _ => (by' + 1 - intOf y).toNat)
  case atStart => exact ⟨0, ax, ay, rfl, rfl, Lib.hid (by rw [HLO.out]; omega), by omega, hax, by simpa [rowsAt] using h0, hM⟩
  case round =>
    obtain ⟨k, ff, yy, rfl, rfl, hy, hk, hf, hJ, hL⟩ := hrel
    have c2 := hL.b.cell1
    have c3 := hL.l.cell
    have c4 := hL.s.cell
    by_cases hlt : yy ≤ by'
    · have hkq : k < span ay by' := by have := HSQ.out; have := hy.out; have := HLO.out; omega
      have hyb : ay ≤ yy ∧ 0 ≤ yy ∧ yy ≤ 256 := by have := hy.out; have := HLO.out; omega
      gi_wp2
      clear c2 c3 c4
      gi_loopw [7] (fun f wr => Row1 J q ax ay bx by' k f wr) (fun f _ => (intOf f - lo ax bx).toNat)
      case atStart => exact ⟨ff, rfl, hf, hJ, hL⟩
      case round =>
        obtain ⟨f1, rfl, hf1, hJ1, hL1⟩ := hrel
        have c3 := hL1.l.cell
        have c4 := hL1.s.cell
        by_cases hl : lo ax bx < f1
        · obtain ⟨s, hs⟩ : ∃ s, s = sd ax ay bx by' (f1 - 1) yy := ⟨_, rfl⟩
          have hcall := HSID.out (f1 - 1) yy wr (by omega) (by omega) hL1
          rw [← hs] at hcall
          have HC := Lib.hid hcall; clear hcall
          have HS := Lib.hid hs; clear hs
          by_cases h0' : 0 ≤ s
          · gi_wp2_with (first | (refine ⟨trivial, ?_⟩; gi_at_call 57; refine (callsIn_wide.2 HC.out).mono ?_; rintro e w' ⟨rfl, rfl⟩))
            go_roundw
            case rel => exact ⟨f1 - 1, rfl, by omega, hJ1, hL1⟩
            case measure => simp [intOf] <;> omega
          · have h0'' : decide (0 ≤ s) = false := by simpa using h0'
            have hn1 : Hid (∀ x, x < f1 → lo ax bx ≤ x → sd ax ay bx by' x yy < 0) := Lib.hid fun x hx1 hx2 => by
              have h4 := sd_mono (ax := ax) (bx := bx) yy G.out.up (show x ≤ f1 - 1 by omega)
              have := HS.out
              omega
            gi_wp2_with (first | (refine ⟨trivial, ?_⟩; gi_at_call 57; refine (callsIn_wide.2 HC.out).mono ?_; rintro e w' ⟨rfl, rfl⟩))
            clear HC HS h0' h0'' c3 c4
            gi_loopw [7] (fun f wr => Row2 J q ax ay bx by' k yy f wr) (fun f _ => (hi ax bx + 1 - intOf f).toNat)
            case atStart => exact ⟨f1, rfl, hf1, hn1, hJ1, hL1⟩
            case round =>
              obtain ⟨f2, rfl, hf2, hn2, hJ2, hL2⟩ := hrel
              have c4 := hL2.s.cell
              obtain ⟨s, hs⟩ : ∃ s, s = sd ax ay bx by' (f2) yy := ⟨_, rfl⟩
              have hcall := HSID.out (f2) yy wr (by omega) (by omega) hL2
              rw [← hs] at hcall
              have HC := Lib.hid hcall; clear hcall
              have HS := Lib.hid hs; clear hs
              by_cases h2 : s < 0
              · have hf3 : f2 < hi ax bx := by
                  refine Int.not_le.1 fun hc => ?_
                  have h4 := sd_mono (ax := ax) (bx := bx) yy G.out.up hc
                  have h5 := sd_right (ax := ax) (bx := bx) (y := yy) hyb.1 hlt
                  have := HS.out
                  omega
                gi_wp2_with (first | (refine ⟨trivial, ?_⟩; gi_at_call 57; refine (callsIn_wide.2 HC.out).mono ?_; rintro e w' ⟨rfl, rfl⟩))
                go_roundw
                case rel =>
                  refine ⟨f2 + 1, rfl, by omega, Lib.hid fun x hx1 hx2 => ?_, hJ2, hL2⟩
                  have h4 := sd_mono (ax := ax) (bx := bx) yy G.out.up (show x ≤ f2 by omega)
                  have := HS.out
                  omega
                case measure => simp [intOf] <;> omega
              · have h2' : decide (s < 0) = false := by simpa using h2
                have h2n : 0 ≤ sd ax ay bx by' f2 yy := by have := HS.out; omega
                have H2 := Lib.hid h2n; clear h2n
                gi_wp2_with (first | (refine ⟨trivial, ?_⟩; gi_at_call 57; refine (callsIn_wide.2 HC.out).mono ?_; rintro e w' ⟨rfl, rfl⟩))
                clear HC HS h2 h2'
                gi_loopw [9] (fun x wr => ColsL J q ax ay bx by' k f2 x wr) (fun x _ => (hi ax bx + 1 - intOf x).toNat)
                case atStart =>
                  refine ⟨(f2 - lo ax bx).toNat, f2, rfl, Lib.hid (by omega), by have := HSP.out; omega, Int.le_refl _, ?_, hL2⟩
                  have e : rowF ax ay bx by' (lo ay by' + (k : Int)) (f2 - lo ax bx).toNat = [] := by
                    rw [← hy.out]
                    exact rowF_ahead (by have := HSP.out; omega) ⟨hin.1, hin.2.2⟩ hyb.2 (fun i hi' => by have := hn2.out (lo ax bx + (i : Int)) (by omega) (by omega); omega)
                  rw [e, List.append_nil]
                  exact hJ2
                case round =>
                  obtain ⟨j, xx, rfl, hx, hj, hfx, hJ3, hL3⟩ := hrel
                  have c5 := hL3.r.cell
                  have c4 := hL3.s.cell
                  by_cases hr : xx ≤ hi ax bx
                  · have hjm : j < span ax bx := by have := HSP.out; have := hx.out; omega
                    have hxb : lo ax bx ≤ xx ∧ 0 ≤ xx ∧ xx ≤ 256 := by have := hx.out; omega
                    obtain ⟨s, hs⟩ : ∃ s, s = sd ax ay bx by' (xx) yy := ⟨_, rfl⟩
                    have hcall := HSID.out (xx) yy wr (by omega) (by omega) hL3
                    rw [← hs] at hcall
                    have HC := Lib.hid hcall; clear hcall
                    have HS := Lib.hid hs; clear hs
                    by_cases h3 : 0 < s
                    · have hJk : J ((rowsAt (lo ax bx) (lo ay by') (span ax bx) (k + 1)).filter (touch ax ay bx by')) wr := by
                        rw [rows_next, rowF_rest hj ⟨hin.1, hin.2.2⟩ (by rw [← hy.out]; exact hyb.2) (fun i hi1 hi2 => ?_)]
                        · exact hJ3
                        · have h4 := sd_mono (ax := ax) (bx := bx) yy G.out.up (show xx ≤ lo ax bx + (i : Int) by have := hx.out; omega)
                          rw [← hy.out]
                          have := HS.out
                          omega
                      gi_wp2_with (first | (refine ⟨trivial, ?_⟩; gi_at_call 57; refine (callsIn_wide.2 HC.out).mono ?_; rintro e w' ⟨rfl, rfl⟩))
                      go_roundw
                      case rel => exact ⟨k + 1, f2, yy + 1, rfl, rfl, Lib.hid (by have := hy.out; omega), by omega, hf2, hJk, hL3⟩
                      case measure => simp [intOf] <;> omega
                    · have h3' : decide (0 < s) = false := by simpa using h3
                      have hz : sd ax ay bx by' xx yy = 0 := by
                        have h4 := sd_mono (ax := ax) (bx := bx) yy G.out.up hfx
                        have := HS.out
                        have := H2.out
                        omega
                      have HZ := Lib.hid hz; clear hz
                      obtain ⟨tq, ht1, ht2, ht3⟩ : ∃ tq : Tile, tq.1.1 = xx ∧ tq.1.2 = yy ∧ tq = tileAt (lo ax bx + (j : Int)) (lo ay by' + (k : Int)) := ⟨tileAt xx yy, by rw [tileAt_eq ⟨hxb.2, hyb.2⟩], by rw [tileAt_eq ⟨hxb.2, hyb.2⟩], by rw [← hx.out, ← hy.out]⟩
                      have hrow : rowF ax ay bx by' (lo ay by' + (k : Int)) (j + 1) = rowF ax ay bx by' (lo ay by' + (k : Int)) j ++ [tq] := by
                        rw [ht3]
                        exact rowF_yes hjm ⟨hin.1, hin.2.2⟩ (by rw [← hy.out]; exact hyb.2) (by rw [← hx.out, ← hy.out]; exact HZ.out)
                      have HR := Lib.hid hrow; clear hrow ht3
                      have hpre := pre_line (ax := ax) (bx := bx) (j := j + 1) hkq
                      rw [HR.out, ← List.append_assoc] at hpre
                      have hlen := hpre.length_le
                      rw [List.length_append, List.length_singleton] at hlen
                      obtain ⟨fn, tmps, assign, body, hyy, hR⟩ := hY _ tq wr hJ3 (by omega)
                      rw [ht1, ht2] at hyy
                      have HP := Lib.hid hpre
                      clear ht1 ht2 hlen hpre
                      gi_wp2_with (first | (refine ⟨trivial, ?_⟩; gi_at_call 57; refine (callsIn_wide.2 HC.out).mono ?_; rintro e w' ⟨rfl, rfl⟩))
                      refine hR.mono ?_
                      rintro e W3 (⟨rfl, hJ4, hk4⟩ | ⟨rfl, hJx4⟩)
                      · have hL4 := hL3.kept HQ.out hk4.2
                        gi_wp2
                        go_roundw
                        case rel => exact ⟨j + 1, xx + 1, rfl, Lib.hid (by have := hx.out; omega), by omega, by omega, by rw [HR.out, ← List.append_assoc]; exact hJ4, hL4⟩
                        case measure => simp [intOf] <;> omega
                      · gi_wp2
                        first
                          | (refine bodyPost_ret (results_none rfl _ _ _) rfl ?_; exact ⟨⟨_, rfl⟩, .inr ⟨_, HP.out, hJx4⟩⟩)
                          | (rw [Exit.noGoto_ret]; refine bodyPost_ret (results_none rfl _ _ _) rfl ?_; exact ⟨⟨_, rfl⟩, .inr ⟨_, HP.out, hJx4⟩⟩)
                  · have hr' : decide (xx ≤ hi ax bx) = false := by simpa using hr
                    have hjm : j = span ax bx := by have := HSP.out; have := hx.out; omega
                    have hJk : J ((rowsAt (lo ax bx) (lo ay by') (span ax bx) (k + 1)).filter (touch ax ay bx by')) wr := by
                      rw [rows_next]
                      have h3 := hJ3
                      rw [hjm] at h3
                      exact h3
                    clear hjm
                    gi_wp2
                    go_roundw
                    case rel => exact ⟨k + 1, f2, yy + 1, rfl, rfl, Lib.hid (by have := hy.out; omega), by omega, hf2, hJk, hL3⟩
                    case measure => simp [intOf] <;> omega
        · have hl' : decide (lo ax bx < f1) = false := by simpa using hl
          have hn1 : Hid (∀ x, x < f1 → lo ax bx ≤ x → sd ax ay bx by' x yy < 0) := Lib.hid fun x hx1 hx2 => by omega
          gi_wp2
          refine ⟨fun _ h => (by cases h), ?_⟩
          gi_wp2
          clear c3 c4 hl'
          gi_loopw [7] (fun f wr => Row2 J q ax ay bx by' k yy f wr) (fun f _ => (hi ax bx + 1 - intOf f).toNat)
          case atStart => exact ⟨f1, rfl, hf1, hn1, hJ1, hL1⟩
          case round =>
            obtain ⟨f2, rfl, hf2, hn2, hJ2, hL2⟩ := hrel
            have c4 := hL2.s.cell
            obtain ⟨s, hs⟩ : ∃ s, s = sd ax ay bx by' (f2) yy := ⟨_, rfl⟩
            have hcall := HSID.out (f2) yy wr (by omega) (by omega) hL2
            rw [← hs] at hcall
            have HC := Lib.hid hcall; clear hcall
            have HS := Lib.hid hs; clear hs
            by_cases h2 : s < 0
            · have hf3 : f2 < hi ax bx := by
                refine Int.not_le.1 fun hc => ?_
                have h4 := sd_mono (ax := ax) (bx := bx) yy G.out.up hc
                have h5 := sd_right (ax := ax) (bx := bx) (y := yy) hyb.1 hlt
                have := HS.out
                omega
              gi_wp2_with (first | (refine ⟨trivial, ?_⟩; gi_at_call 57; refine (callsIn_wide.2 HC.out).mono ?_; rintro e w' ⟨rfl, rfl⟩))
              go_roundw
              case rel =>
                refine ⟨f2 + 1, rfl, by omega, Lib.hid fun x hx1 hx2 => ?_, hJ2, hL2⟩
                have h4 := sd_mono (ax := ax) (bx := bx) yy G.out.up (show x ≤ f2 by omega)
                have := HS.out
                omega
              case measure => simp [intOf] <;> omega
            · have h2' : decide (s < 0) = false := by simpa using h2
              have h2n : 0 ≤ sd ax ay bx by' f2 yy := by have := HS.out; omega
              have H2 := Lib.hid h2n; clear h2n
              gi_wp2_with (first | (refine ⟨trivial, ?_⟩; gi_at_call 57; refine (callsIn_wide.2 HC.out).mono ?_; rintro e w' ⟨rfl, rfl⟩))
              clear HC HS h2 h2'
              gi_loopw [9] (fun x wr => ColsL J q ax ay bx by' k f2 x wr) (fun x _ => (hi ax bx + 1 - intOf x).toNat)
              case atStart =>
                refine ⟨(f2 - lo ax bx).toNat, f2, rfl, Lib.hid (by omega), by have := HSP.out; omega, Int.le_refl _, ?_, hL2⟩
                have e : rowF ax ay bx by' (lo ay by' + (k : Int)) (f2 - lo ax bx).toNat = [] := by
                  rw [← hy.out]
                  exact rowF_ahead (by have := HSP.out; omega) ⟨hin.1, hin.2.2⟩ hyb.2 (fun i hi' => by have := hn2.out (lo ax bx + (i : Int)) (by omega) (by omega); omega)
                rw [e, List.append_nil]
                exact hJ2
              case round =>
                obtain ⟨j, xx, rfl, hx, hj, hfx, hJ3, hL3⟩ := hrel
                have c5 := hL3.r.cell
                have c4 := hL3.s.cell
                by_cases hr : xx ≤ hi ax bx
                · have hjm : j < span ax bx := by have := HSP.out; have := hx.out; omega
                  have hxb : lo ax bx ≤ xx ∧ 0 ≤ xx ∧ xx ≤ 256 := by have := hx.out; omega
                  obtain ⟨s, hs⟩ : ∃ s, s = sd ax ay bx by' (xx) yy := ⟨_, rfl⟩
                  have hcall := HSID.out (xx) yy wr (by omega) (by omega) hL3
                  rw [← hs] at hcall
                  have HC := Lib.hid hcall; clear hcall
                  have HS := Lib.hid hs; clear hs
                  by_cases h3 : 0 < s
                  · have hJk : J ((rowsAt (lo ax bx) (lo ay by') (span ax bx) (k + 1)).filter (touch ax ay bx by')) wr := by
                      rw [rows_next, rowF_rest hj ⟨hin.1, hin.2.2⟩ (by rw [← hy.out]; exact hyb.2) (fun i hi1 hi2 => ?_)]
                      · exact hJ3
                      · have h4 := sd_mono (ax := ax) (bx := bx) yy G.out.up (show xx ≤ lo ax bx + (i : Int) by have := hx.out; omega)
                        rw [← hy.out]
                        have := HS.out
                        omega
                    gi_wp2_with (first | (refine ⟨trivial, ?_⟩; gi_at_call 57; refine (callsIn_wide.2 HC.out).mono ?_; rintro e w' ⟨rfl, rfl⟩))
                    go_roundw
                    case rel => exact ⟨k + 1, f2, yy + 1, rfl, rfl, Lib.hid (by have := hy.out; omega), by omega, hf2, hJk, hL3⟩
                    case measure => simp [intOf] <;> omega
                  · have h3' : decide (0 < s) = false := by simpa using h3
                    have hz : sd ax ay bx by' xx yy = 0 := by
                      have h4 := sd_mono (ax := ax) (bx := bx) yy G.out.up hfx
                      have := HS.out
                      have := H2.out
                      omega
                    have HZ := Lib.hid hz; clear hz
                    obtain ⟨tq, ht1, ht2, ht3⟩ : ∃ tq : Tile, tq.1.1 = xx ∧ tq.1.2 = yy ∧ tq = tileAt (lo ax bx + (j : Int)) (lo ay by' + (k : Int)) := ⟨tileAt xx yy, by rw [tileAt_eq ⟨hxb.2, hyb.2⟩], by rw [tileAt_eq ⟨hxb.2, hyb.2⟩], by rw [← hx.out, ← hy.out]⟩
                    have hrow : rowF ax ay bx by' (lo ay by' + (k : Int)) (j + 1) = rowF ax ay bx by' (lo ay by' + (k : Int)) j ++ [tq] := by
                      rw [ht3]
                      exact rowF_yes hjm ⟨hin.1, hin.2.2⟩ (by rw [← hy.out]; exact hyb.2) (by rw [← hx.out, ← hy.out]; exact HZ.out)
                    have HR := Lib.hid hrow; clear hrow ht3
                    have hpre := pre_line (ax := ax) (bx := bx) (j := j + 1) hkq
                    rw [HR.out, ← List.append_assoc] at hpre
                    have hlen := hpre.length_le
                    rw [List.length_append, List.length_singleton] at hlen
                    obtain ⟨fn, tmps, assign, body, hyy, hR⟩ := hY _ tq wr hJ3 (by omega)
                    rw [ht1, ht2] at hyy
                    have HP := Lib.hid hpre
                    clear ht1 ht2 hlen hpre
                    gi_wp2_with (first | (refine ⟨trivial, ?_⟩; gi_at_call 57; refine (callsIn_wide.2 HC.out).mono ?_; rintro e w' ⟨rfl, rfl⟩))
                    refine hR.mono ?_
                    rintro e W3 (⟨rfl, hJ4, hk4⟩ | ⟨rfl, hJx4⟩)
                    · have hL4 := hL3.kept HQ.out hk4.2
                      gi_wp2
                      go_roundw
                      case rel => exact ⟨j + 1, xx + 1, rfl, Lib.hid (by have := hx.out; omega), by omega, by omega, by rw [HR.out, ← List.append_assoc]; exact hJ4, hL4⟩
                      case measure => simp [intOf] <;> omega
                    · gi_wp2
                      first
                        | (refine bodyPost_ret (results_none rfl _ _ _) rfl ?_; exact ⟨⟨_, rfl⟩, .inr ⟨_, HP.out, hJx4⟩⟩)
                        | (rw [Exit.noGoto_ret]; refine bodyPost_ret (results_none rfl _ _ _) rfl ?_; exact ⟨⟨_, rfl⟩, .inr ⟨_, HP.out, hJx4⟩⟩)
                · have hr' : decide (xx ≤ hi ax bx) = false := by simpa using hr
                  have hjm : j = span ax bx := by have := HSP.out; have := hx.out; omega
                  have hJk : J ((rowsAt (lo ax bx) (lo ay by') (span ax bx) (k + 1)).filter (touch ax ay bx by')) wr := by
                    rw [rows_next]
                    have h3 := hJ3
                    rw [hjm] at h3
                    exact h3
                  clear hjm
                  gi_wp2
                  go_roundw
                  case rel => exact ⟨k + 1, f2, yy + 1, rfl, rfl, Lib.hid (by have := hy.out; omega), by omega, hf2, hJk, hL3⟩
                  case measure => simp [intOf] <;> omega
    · have hkq : k = span ay by' := by have := HSQ.out; have := hy.out; have := HLO.out; omega
      have hlt' : decide (yy ≤ by') = false := by simpa using hlt
      have hJk : J (lineL ax ay bx by') wr := by unfold lineL; rw [← hkq]; exact hJ
      clear hkq
      gi_wp2
      go_end0
      exact ⟨⟨_, rfl⟩, .inl ⟨_, rfl, hJk⟩⟩
end Go.Proofs.Ytiggpmennomplaa.Con
