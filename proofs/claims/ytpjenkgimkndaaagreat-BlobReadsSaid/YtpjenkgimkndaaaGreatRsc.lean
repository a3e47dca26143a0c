/-
  Contract of the document's Same: alike just where all but addresses is one.
-/
import Derived.Test.YtpjenkgimkndaaaGreatRsm
import Derived.Test.YtpjenkgimkndaaaGreatSam
import Derived.StillTailTactics
namespace Go.Proofs.YtpjenkgimkndaaaGreat.Con
open Go.RowKit Go.Maps

theorem neq_pos (x y x' y' : Int) (e : Bool) (he : e = true ↔ ¬ (x = x' ∧ y = y')) (w : World) : (binOp .neq 29 (.agg #[.int .i64 x, .int .i64 y]) (.agg #[.int .i64 x', .int .i64 y'])).run Tryz.prog w = .ok (.bool e) w := by
  have key : e = !((x == x') && (y == y')) := by rw [Bool.eq_iff_iff, he]; simp; simp only [Decidable.imp_iff_not_or]
  rw [key]
  cases h0 : (x == x') with
  | false => simp [go_sem, h0]
  | true =>
    cases h1 : (y == y') with
    | false => simp [go_sem, h0, h1]
    | true => simp [go_sem, h0, h1]
theorem neq_pos_t (x y x' y' : Int) (h : x = x' ∧ y = y') (w : World) : (binOp .neq 29 (.agg #[.int .i64 x, .int .i64 y]) (.agg #[.int .i64 x', .int .i64 y'])).run Tryz.prog w = .ok (.bool false) w := neq_pos _ _ _ _ false (by simp [h]) w
theorem neq_pos_f (x y x' y' : Int) (h : ¬ (x = x' ∧ y = y')) (w : World) : (binOp .neq 29 (.agg #[.int .i64 x, .int .i64 y]) (.agg #[.int .i64 x', .int .i64 y'])).run Tryz.prog w = .ok (.bool true) w := neq_pos _ _ _ _ true (by simpa using h) w


set_option maxRecDepth 40000 in
set_option maxHeartbeats 16000000 in
theorem rsame_c {w : World} {B : Nat} (c d : Cn) (hr : RC w B c) (hd : RC w B d) (hB : B ≤ w.heap.size) (hs : Sm c) (x : Bool) (hx : x = true ↔ c.pl = d.pl) :
    Calls Tryz.prog 15 #[cnv c, cnv d] w fun e w' => e = .returned (.bool x) ∧ Below w.heap.size w w' := by
  obtain ⟨x1, k1⟩ := bex (c.ab.map Ab.pl = d.ab.map Ab.pl)
  obtain ⟨x2, k2⟩ := bex (c.au = d.au)
  obtain ⟨x3, k3⟩ := bex (c.fo.map Fo.pl = d.fo.map Fo.pl)
  obtain ⟨x4, k4⟩ := bex (c.wl = d.wl)
  have hl1 : (c.ab.length : Int) ≤ 50000 := hs.abs
  have hl2 : (c.au.length : Int) ≤ 50000 := hs.aus
  have hl3 : (c.fo.length : Int) ≤ 50000 := hs.fos
  have hl4 : (c.wl.length : Int) ≤ 50000 := hs.wls
  have hX : Below w.heap.size w ((w.alloc (oCn c)).alloc (oCn d)) := by go_grown
  have HCab : Hid (∀ s t, s ∈ c.ab → t ∈ d.ab → ∀ e : Bool, (e = true ↔ Ab.pl s = Ab.pl t) → ∀ V, Below w.heap.size w V → Calls Tryz.prog 36 #[abv s, abv t] V fun e' w' => e' = .returned (.bool e) ∧ Below V.heap.size V w') := Lib.hid (fun s t hs1 ht1 e he V hV =>
    rsameAb s t ((hr.effs s hs1).below hV hB) ((hd.effs t ht1).below hV hB) (Nat.le_trans hB hV.size) (by have := hs.effs s hs1; omega) e he)
  have HCfo : Hid (∀ s t, s ∈ c.fo → t ∈ d.fo → ∀ e : Bool, (e = true ↔ Fo.pl s = Fo.pl t) → ∀ V, Below w.heap.size w V → Calls Tryz.prog 37 #[fov s, fov t] V fun e' w' => e' = .returned (.bool e) ∧ Below V.heap.size V w') := Lib.hid (fun s t hs1 ht1 e he V hV =>
    rsameFo s t ((hr.scrs s hs1).below hV hB) ((hd.scrs t ht1).below hV hB) ((hr.hors s hs1).below hV hB) ((hd.hors t ht1).below hV hB) (Nat.le_trans hB hV.size) (by have := hs.scrs s hs1; omega) (by have := hs.hors s hs1; omega) e he)
  have HR := Lib.hid hr; have HQ := Lib.hid hd; have HX := Lib.hid hx; have K1x := Lib.hid k1; have K2x := Lib.hid k2; have K3x := Lib.hid k3; have K4x := Lib.hid k4
  clear hr hd hs hx k1 k2 k3 k4
  by_cases h0 : c.dx = d.dx ∧ c.dy = d.dy
  · have K0 := Lib.hid h0; clear h0
    by_cases h1 : c.lx = d.lx ∧ c.ly = d.ly
    · have K1 := Lib.hid h1; clear h1
      by_cases h2 : c.W = d.W
      · have K2 := Lib.hid h2; clear h2
        by_cases h3 : c.H = d.H
        · have K3 := Lib.hid h3; clear h3
          by_cases h4 : (c.wl.length : Int) = (d.wl.length : Int)
          · have K4 := Lib.hid h4; clear h4
            by_cases h5 : (c.ab.length : Int) = (d.ab.length : Int)
            · have K5 := Lib.hid h5; clear h5
              by_cases h6 : (c.au.length : Int) = (d.au.length : Int)
              · have K6 := Lib.hid h6; clear h6
                by_cases h7 : (c.fo.length : Int) = (d.fo.length : Int)
                · have K7 := Lib.hid h7; clear h7
                  have r0 := neq_pos_t c.dx c.dy d.dx d.dy K0.out; have r1 := neq_pos_t c.lx c.ly d.lx d.ly K1.out; have r2 : (c.W != d.W) = false := (by simpa using K2.out); have r3 : (c.H != d.H) = false := (by simpa using K3.out); have r4 : ((c.wl.length : Int) != (d.wl.length : Int)) = false := (by simpa using K4.out); have r5 : ((c.ab.length : Int) != (d.ab.length : Int)) = false := (by simpa using K5.out); have r6 : ((c.au.length : Int) != (d.au.length : Int)) = false := (by simpa using K6.out); have r7 : ((c.fo.length : Int) != (d.fo.length : Int)) = false := (by simpa using K7.out)
                  have HRwl := Lib.hid (HR.out.wls.below hX hB); have HQwl := Lib.hid (HQ.out.wls.below hX hB); have HRab := Lib.hid (HR.out.abs.below hX hB); have HQab := Lib.hid (HQ.out.abs.below hX hB); have HRau := Lib.hid (HR.out.aus.below hX hB); have HQau := Lib.hid (HQ.out.aus.below hX hB); have HRfo := Lib.hid (HR.out.fos.below hX hB); have HQfo := Lib.hid (HQ.out.fos.below hX hB)
                  have HA := Lib.hid ((at_cn w c).of (w' := (w.alloc (oCn c)).alloc (oCn d)) (B := (w.alloc (oCn c)).heap.size) (by go_grown) (by simp))
                  have HD : Hid (At ((w.alloc (oCn c)).alloc (oCn d)) (w.heap.size + 1) (cnc d)) := Lib.hid (by have := at_cn (w.alloc (oCn c)) d; simpa using this)
                  have HS : Hid (((w.alloc (oCn c)).alloc (oCn d)).heap.size = w.heap.size + 1 + 1) := Lib.hid (by simp)
                  have HXw := Lib.hid hX
                  clear hX
                  go_enter Tryz.func15, Tryz.ntmps15
                  go_wp2
                  generalize (w.alloc (oCn c)).alloc (oCn d) = V at *
                  go_loopg [5] c.wl.length (fun m s5 wr => ∃ (k : Nat), k ≤ c.wl.length ∧ m = c.wl.length - k ∧ s5 = .int .i64 (k : Int) ∧ Hid (Below V.heap.size V wr) ∧ Hid (c.wl.take k = d.wl.take k))
                  case atStart => exact ⟨0, by omega, rfl, rfl, Lib.hid (Below.refl _ _), Lib.hid (by simp)⟩
                  case round =>
                    obtain ⟨k, hk, rfl, rfl, HW, HE⟩ := hrel
                    have hbw := HW.out
                    have u1 := (hbw.cell (p := ⟨w.heap.size, 5, none⟩) (by rw [HS.out]; simp; omega)).trans (HA.out 5 _ rfl)
                    have u2 := (hbw.cell (p := ⟨w.heap.size + 1, 5, none⟩) (by rw [HS.out]; simp)).trans (HD.out 5 _ rfl)
                    by_cases hkl : k < c.wl.length
                    · have hkl' : (k : Int) < c.wl.length := by omega
                      have hkl2 : (k : Int) < d.wl.length := by have := K4.out; omega
                      obtain ⟨s, hs⟩ : ∃ s, c.wl[k]? = some s := ⟨_, List.getElem?_eq_getElem hkl⟩
                      obtain ⟨t, ht⟩ : ∃ t, d.wl[k]? = some t := ⟨_, List.getElem?_eq_getElem (by omega)⟩
                      obtain ⟨p, off, hA, hpl, c0⟩ := rowBo HRwl.out hs hbw (by rw [HS.out]; omega)
                      obtain ⟨p', off', hA', hpl', d0⟩ := rowBo HQwl.out ht hbw (by rw [HS.out]; omega)
                      rw [hA] at u1; rw [hA'] at u2
                      obtain ⟨e, he⟩ := bex (¬ s = t)
                      have hq : ∀ V : World, (binOp .neq 4 (.bool s) (.bool t)).run Tryz.prog V = .ok (.bool e) V := neq_bo s t e he
                      have HSs := Lib.hid hs; have HT := Lib.hid ht; have HEE := Lib.hid he
                      clear hs ht he hA hA'
                      cases e with
                      | true =>
                        have HF := Lib.hid (eq_not K4x.out HSs.out HT.out (HEE.out.1 rfl))
                        clear HEE
                        go_wp2
                        go_quiet (fail)
                        go_wp2
                        go_ret
                        have hz := HF.out
                        exact ⟨of_iff HX.out (by rw [Cn.pl_iff, ← K4x.out, hz]; simp), by have h9 := HXw.out.trans (hbw.mono HXw.out.size); exact below_drewN h9 _⟩
                      | false =>
                        have hst : s = t := Classical.byContradiction (fun h => by have := HEE.out.2 h; cases this)
                        have HE2 := Lib.hid (eq_next HSs.out HT.out HE.out hst)
                        clear HEE hst
                        go_wp2
                        go_quiet (fail)
                        go_wp2
                        go_roundg (c.wl.length - (k + 1))
                        case measure => omega
                        case rel => exact ⟨k + 1, by omega, rfl, by go_num, Lib.hid (below_drewN hbw _), HE2⟩
                    · have hkl' : decide ((k : Int) < c.wl.length) = false := by simp; omega
                      have HTwl := Lib.hid (eq_all K4x.out (by have := K4.out; omega) (by omega) HE.out)
                      go_wp2
                      have HWwl := HW
                      clear HW HE hk hkl hkl' u1 u2 hbw
                      go_loopg [6] c.ab.length (fun m s5 wr => ∃ (k : Nat), k ≤ c.ab.length ∧ m = c.ab.length - k ∧ s5 = .int .i64 (k : Int) ∧ Hid (Below V.heap.size V wr) ∧ Hid (∀ (i : Nat) s t, i < k → c.ab[i]? = some s → d.ab[i]? = some t → Ab.pl s = Ab.pl t))
                      case atStart => exact ⟨0, by omega, rfl, rfl, Lib.hid HWwl.out, Lib.hid (fun i _ _ hi => by omega)⟩
                      case round =>
                        obtain ⟨k, hk, rfl, rfl, HW, HE⟩ := hrel
                        have hbw := HW.out
                        have u1 := (hbw.cell (p := ⟨w.heap.size, 0, none⟩) (by rw [HS.out]; simp; omega)).trans (HA.out 0 _ rfl)
                        have u2 := (hbw.cell (p := ⟨w.heap.size + 1, 0, none⟩) (by rw [HS.out]; simp)).trans (HD.out 0 _ rfl)
                        by_cases hkl : k < c.ab.length
                        · have hkl' : (k : Int) < c.ab.length := by omega
                          have hkl2 : (k : Int) < d.ab.length := by have := K5.out; omega
                          obtain ⟨s, hs⟩ : ∃ s, c.ab[k]? = some s := ⟨_, List.getElem?_eq_getElem hkl⟩
                          obtain ⟨t, ht⟩ : ∃ t, d.ab[k]? = some t := ⟨_, List.getElem?_eq_getElem (by omega)⟩
                          obtain ⟨p, off, hA, hpl, c0, c1, c2, c3, c4, c5, c6, c7⟩ := rowAb HRab.out hs hbw (by rw [HS.out]; omega)
                          obtain ⟨p', off', hA', hpl', d0, d1, d2, d3, d4, d5, d6, d7⟩ := rowAb HQab.out ht hbw (by rw [HS.out]; omega)
                          rw [hA] at u1; rw [hA'] at u2
                          obtain ⟨e, he⟩ := bex (Ab.pl s = Ab.pl t)
                          have HCs := Lib.hid (HCab.out s t (List.mem_of_getElem? hs) (List.mem_of_getElem? ht) e he)
                          have HSs := Lib.hid hs; have HT := Lib.hid ht; have HEE := Lib.hid he
                          have hww : Below w.heap.size w wr := HXw.out.trans (hbw.mono HXw.out.size)
                          have hbd : Below w.heap.size w wr.drew := hww.drew
                          have hbv : Below V.heap.size V wr.drew := hbw.drew
                          clear hs ht he hA hA'
                          cases e with
                          | false =>
                            have HF := Lib.hid (map_bad K1x.out HSs.out HT.out (fun h => by have := HEE.out.2 h; cases this))
                            clear HEE
                            go_wp2
                            go_still_tail 10, (by kernel_rfl)
                            change wpList _ _ _ _ _ wr.drew
                            go_wp2_with (first | ((with_reducible refine (HCs.out _ hbd).mono ?_); rintro e1 w1 ⟨rfl, hB1⟩; have hV1 := bstep hB1 (V := w) hbd; have hV2 := bstep hB1 (V := V) hbv))
                            go_ret
                            have hz := HF.out
                            exact ⟨of_iff HX.out (by rw [Cn.pl_iff, ← K1x.out, hz]; simp), hV1⟩
                          | true =>
                            have HE2 := Lib.hid (map_next HSs.out HT.out (HEE.out.1 rfl) HE.out)
                            clear HEE
                            go_wp2
                            go_still_tail 10, (by kernel_rfl)
                            change wpList _ _ _ _ _ wr.drew
                            go_wp2_with (first | ((with_reducible refine (HCs.out _ hbd).mono ?_); rintro e1 w1 ⟨rfl, hB1⟩; have hV1 := bstep hB1 (V := w) hbd; have hV2 := bstep hB1 (V := V) hbv))
                            go_roundg (c.ab.length - (k + 1))
                            case measure => omega
                            case rel => exact ⟨k + 1, by omega, rfl, by go_num, Lib.hid hV2, HE2⟩
                        · have hkl' : decide ((k : Int) < c.ab.length) = false := by simp; omega
                          have HTab := Lib.hid (map_all K1x.out (by have := K5.out; omega) (by omega) HE.out)
                          go_wp2
                          have HWab := HW
                          clear HW HE hk hkl hkl' u1 u2 hbw
                          go_loopg [8] c.au.length (fun m s5 wr => ∃ (k : Nat), k ≤ c.au.length ∧ m = c.au.length - k ∧ s5 = .int .i64 (k : Int) ∧ Hid (Below V.heap.size V wr) ∧ Hid (c.au.take k = d.au.take k))
                          case atStart => exact ⟨0, by omega, rfl, rfl, Lib.hid HWab.out, Lib.hid (by simp)⟩
                          case round =>
                            obtain ⟨k, hk, rfl, rfl, HW, HE⟩ := hrel
                            have hbw := HW.out
                            have u1 := (hbw.cell (p := ⟨w.heap.size, 1, none⟩) (by rw [HS.out]; simp; omega)).trans (HA.out 1 _ rfl)
                            have u2 := (hbw.cell (p := ⟨w.heap.size + 1, 1, none⟩) (by rw [HS.out]; simp)).trans (HD.out 1 _ rfl)
                            by_cases hkl : k < c.au.length
                            · have hkl' : (k : Int) < c.au.length := by omega
                              have hkl2 : (k : Int) < d.au.length := by have := K6.out; omega
                              obtain ⟨s, hs⟩ : ∃ s, c.au[k]? = some s := ⟨_, List.getElem?_eq_getElem hkl⟩
                              obtain ⟨t, ht⟩ : ∃ t, d.au[k]? = some t := ⟨_, List.getElem?_eq_getElem (by omega)⟩
                              obtain ⟨p, off, hA, hpl, c0, c1, c2, c3, c4, c5, c6⟩ := rowAu HRau.out hs hbw (by rw [HS.out]; omega)
                              obtain ⟨p', off', hA', hpl', d0, d1, d2, d3, d4, d5, d6⟩ := rowAu HQau.out ht hbw (by rw [HS.out]; omega)
                              rw [hA] at u1; rw [hA'] at u2
                              obtain ⟨e, he⟩ := bex (¬ s = t)
                              have hq : ∀ V : World, (binOp .neq 63 (.agg #[.int .i64 s.id, .int .i64 s.kind, .int .i64 s.ticks, .int .i64 s.every, .int .i64 s.stacks, .int .i64 s.amount, .bool s.harm]) (.agg #[.int .i64 t.id, .int .i64 t.kind, .int .i64 t.ticks, .int .i64 t.every, .int .i64 t.stacks, .int .i64 t.amount, .bool t.harm])).run Tryz.prog V = .ok (.bool e) V := neq_au s t e he
                              have HSs := Lib.hid hs; have HT := Lib.hid ht; have HEE := Lib.hid he
                              clear hs ht he hA hA'
                              cases e with
                              | true =>
                                have HF := Lib.hid (eq_not K2x.out HSs.out HT.out (HEE.out.1 rfl))
                                clear HEE
                                go_wp2
                                go_quiet (fail)
                                go_wp2
                                go_ret
                                have hz := HF.out
                                exact ⟨of_iff HX.out (by rw [Cn.pl_iff, ← K2x.out, hz]; simp), by have h9 := HXw.out.trans (hbw.mono HXw.out.size); exact below_drewN h9 _⟩
                              | false =>
                                have hst : s = t := Classical.byContradiction (fun h => by have := HEE.out.2 h; cases this)
                                have HE2 := Lib.hid (eq_next HSs.out HT.out HE.out hst)
                                clear HEE hst
                                go_wp2
                                go_quiet (fail)
                                go_wp2
                                go_roundg (c.au.length - (k + 1))
                                case measure => omega
                                case rel => exact ⟨k + 1, by omega, rfl, by go_num, Lib.hid (below_drewN hbw _), HE2⟩
                            · have hkl' : decide ((k : Int) < c.au.length) = false := by simp; omega
                              have HTau := Lib.hid (eq_all K2x.out (by have := K6.out; omega) (by omega) HE.out)
                              go_wp2
                              have HWau := HW
                              clear HW HE hk hkl hkl' u1 u2 hbw
                              go_loopg [9] c.fo.length (fun m s5 wr => ∃ (k : Nat), k ≤ c.fo.length ∧ m = c.fo.length - k ∧ s5 = .int .i64 (k : Int) ∧ Hid (Below V.heap.size V wr) ∧ Hid (∀ (i : Nat) s t, i < k → c.fo[i]? = some s → d.fo[i]? = some t → Fo.pl s = Fo.pl t))
                              case atStart => exact ⟨0, by omega, rfl, rfl, Lib.hid HWau.out, Lib.hid (fun i _ _ hi => by omega)⟩
                              case round =>
                                obtain ⟨k, hk, rfl, rfl, HW, HE⟩ := hrel
                                have hbw := HW.out
                                have u1 := (hbw.cell (p := ⟨w.heap.size, 2, none⟩) (by rw [HS.out]; simp; omega)).trans (HA.out 2 _ rfl)
                                have u2 := (hbw.cell (p := ⟨w.heap.size + 1, 2, none⟩) (by rw [HS.out]; simp)).trans (HD.out 2 _ rfl)
                                by_cases hkl : k < c.fo.length
                                · have hkl' : (k : Int) < c.fo.length := by omega
                                  have hkl2 : (k : Int) < d.fo.length := by have := K7.out; omega
                                  obtain ⟨s, hs⟩ : ∃ s, c.fo[k]? = some s := ⟨_, List.getElem?_eq_getElem hkl⟩
                                  obtain ⟨t, ht⟩ : ∃ t, d.fo[k]? = some t := ⟨_, List.getElem?_eq_getElem (by omega)⟩
                                  obtain ⟨p, off, hA, hpl, c0, c1, c2, c3, c4, c5, c6, c7⟩ := rowFo HRfo.out hs hbw (by rw [HS.out]; omega)
                                  obtain ⟨p', off', hA', hpl', d0, d1, d2, d3, d4, d5, d6, d7⟩ := rowFo HQfo.out ht hbw (by rw [HS.out]; omega)
                                  rw [hA] at u1; rw [hA'] at u2
                                  obtain ⟨e, he⟩ := bex (Fo.pl s = Fo.pl t)
                                  have HCs := Lib.hid (HCfo.out s t (List.mem_of_getElem? hs) (List.mem_of_getElem? ht) e he)
                                  have HSs := Lib.hid hs; have HT := Lib.hid ht; have HEE := Lib.hid he
                                  have hww : Below w.heap.size w wr := HXw.out.trans (hbw.mono HXw.out.size)
                                  have hbd : Below w.heap.size w wr.drew := hww.drew
                                  have hbv : Below V.heap.size V wr.drew := hbw.drew
                                  clear hs ht he hA hA'
                                  cases e with
                                  | false =>
                                    have HF := Lib.hid (map_bad K3x.out HSs.out HT.out (fun h => by have := HEE.out.2 h; cases this))
                                    clear HEE
                                    go_wp2
                                    go_still_tail 10, (by kernel_rfl)
                                    change wpList _ _ _ _ _ wr.drew
                                    go_wp2_with (first | ((with_reducible refine (HCs.out _ hbd).mono ?_); rintro e1 w1 ⟨rfl, hB1⟩; have hV1 := bstep hB1 (V := w) hbd; have hV2 := bstep hB1 (V := V) hbv))
                                    go_ret
                                    have hz := HF.out
                                    exact ⟨of_iff HX.out (by rw [Cn.pl_iff, ← K3x.out, hz]; simp), hV1⟩
                                  | true =>
                                    have HE2 := Lib.hid (map_next HSs.out HT.out (HEE.out.1 rfl) HE.out)
                                    clear HEE
                                    go_wp2
                                    go_still_tail 10, (by kernel_rfl)
                                    change wpList _ _ _ _ _ wr.drew
                                    go_wp2_with (first | ((with_reducible refine (HCs.out _ hbd).mono ?_); rintro e1 w1 ⟨rfl, hB1⟩; have hV1 := bstep hB1 (V := w) hbd; have hV2 := bstep hB1 (V := V) hbv))
                                    go_roundg (c.fo.length - (k + 1))
                                    case measure => omega
                                    case rel => exact ⟨k + 1, by omega, rfl, by go_num, Lib.hid hV2, HE2⟩
                                · have hkl' : decide ((k : Int) < c.fo.length) = false := by simp; omega
                                  have HTfo := Lib.hid (map_all K3x.out (by have := K7.out; omega) (by omega) HE.out)
                                  go_wp2
                                  go_ret
                                  exact ⟨of_iff HX.out (by rw [Cn.pl_iff, ← K1x.out, ← K2x.out, ← K3x.out, ← K4x.out]; have h0 := K0.out; have h1 := K1.out; simp [HTwl.out, HTab.out, HTau.out, HTfo.out, K2.out, K3.out, h0, h1]), HXw.out.trans (hbw.mono HXw.out.size)⟩
                · have K7 := Lib.hid h7; clear h7
                  have r0 := neq_pos_t c.dx c.dy d.dx d.dy K0.out; have r1 := neq_pos_t c.lx c.ly d.lx d.ly K1.out; have r2 : (c.W != d.W) = false := (by simpa using K2.out); have r3 : (c.H != d.H) = false := (by simpa using K3.out); have r4 : ((c.wl.length : Int) != (d.wl.length : Int)) = false := (by simpa using K4.out); have r5 : ((c.ab.length : Int) != (d.ab.length : Int)) = false := (by simpa using K5.out); have r6 : ((c.au.length : Int) != (d.au.length : Int)) = false := (by simpa using K6.out)
                  have r7 : ((c.fo.length : Int) != (d.fo.length : Int)) = true := (by simpa using K7.out)
                  clear HCab HCfo
                  go_enter Tryz.func15, Tryz.ntmps15
                  iterate 44 (go_step)
                  try simp only [List.append_eq, List.cons_append, List.nil_append]
                  go_wp2
                  go_ret
                  exact ⟨of_iff HX.out (by rw [Cn.pl_iff]; exact ⟨fun h => (by cases h), fun ⟨q1, q2, q3, q4, q5, q6, q7, q8, q9, q10⟩ => absurd (congrArg Nat.cast (by have := congrArg List.length q3; simpa only [List.length_map] using this)) K7.out⟩), by go_grown⟩
              · have K6 := Lib.hid h6; clear h6
                have r0 := neq_pos_t c.dx c.dy d.dx d.dy K0.out; have r1 := neq_pos_t c.lx c.ly d.lx d.ly K1.out; have r2 : (c.W != d.W) = false := (by simpa using K2.out); have r3 : (c.H != d.H) = false := (by simpa using K3.out); have r4 : ((c.wl.length : Int) != (d.wl.length : Int)) = false := (by simpa using K4.out); have r5 : ((c.ab.length : Int) != (d.ab.length : Int)) = false := (by simpa using K5.out)
                have r6 : ((c.au.length : Int) != (d.au.length : Int)) = true := (by simpa using K6.out)
                clear HCab HCfo
                go_enter Tryz.func15, Tryz.ntmps15
                iterate 44 (go_step)
                try simp only [List.append_eq, List.cons_append, List.nil_append]
                go_wp2
                go_ret
                exact ⟨of_iff HX.out (by rw [Cn.pl_iff]; exact ⟨fun h => (by cases h), fun ⟨q1, q2, q3, q4, q5, q6, q7, q8, q9, q10⟩ => absurd (by rw [q2]) K6.out⟩), by go_grown⟩
            · have K5 := Lib.hid h5; clear h5
              have r0 := neq_pos_t c.dx c.dy d.dx d.dy K0.out; have r1 := neq_pos_t c.lx c.ly d.lx d.ly K1.out; have r2 : (c.W != d.W) = false := (by simpa using K2.out); have r3 : (c.H != d.H) = false := (by simpa using K3.out); have r4 : ((c.wl.length : Int) != (d.wl.length : Int)) = false := (by simpa using K4.out)
              have r5 : ((c.ab.length : Int) != (d.ab.length : Int)) = true := (by simpa using K5.out)
              clear HCab HCfo
              go_enter Tryz.func15, Tryz.ntmps15
              iterate 44 (go_step)
              try simp only [List.append_eq, List.cons_append, List.nil_append]
              go_wp2
              go_ret
              exact ⟨of_iff HX.out (by rw [Cn.pl_iff]; exact ⟨fun h => (by cases h), fun ⟨q1, q2, q3, q4, q5, q6, q7, q8, q9, q10⟩ => absurd (congrArg Nat.cast (by have := congrArg List.length q1; simpa only [List.length_map] using this)) K5.out⟩), by go_grown⟩
          · have K4 := Lib.hid h4; clear h4
            have r0 := neq_pos_t c.dx c.dy d.dx d.dy K0.out; have r1 := neq_pos_t c.lx c.ly d.lx d.ly K1.out; have r2 : (c.W != d.W) = false := (by simpa using K2.out); have r3 : (c.H != d.H) = false := (by simpa using K3.out)
            have r4 : ((c.wl.length : Int) != (d.wl.length : Int)) = true := (by simpa using K4.out)
            clear HCab HCfo
            go_enter Tryz.func15, Tryz.ntmps15
            iterate 44 (go_step)
            try simp only [List.append_eq, List.cons_append, List.nil_append]
            go_wp2
            go_ret
            exact ⟨of_iff HX.out (by rw [Cn.pl_iff]; exact ⟨fun h => (by cases h), fun ⟨q1, q2, q3, q4, q5, q6, q7, q8, q9, q10⟩ => absurd (by rw [q6]) K4.out⟩), by go_grown⟩
        · have K3 := Lib.hid h3; clear h3
          have r0 := neq_pos_t c.dx c.dy d.dx d.dy K0.out; have r1 := neq_pos_t c.lx c.ly d.lx d.ly K1.out; have r2 : (c.W != d.W) = false := (by simpa using K2.out)
          have r3 : (c.H != d.H) = true := (by simpa using K3.out)
          clear HCab HCfo
          go_enter Tryz.func15, Tryz.ntmps15
          iterate 44 (go_step)
          try simp only [List.append_eq, List.cons_append, List.nil_append]
          go_wp2
          go_ret
          exact ⟨of_iff HX.out (by rw [Cn.pl_iff]; exact ⟨fun h => (by cases h), fun ⟨q1, q2, q3, q4, q5, q6, q7, q8, q9, q10⟩ => absurd q5 K3.out⟩), by go_grown⟩
      · have K2 := Lib.hid h2; clear h2
        have r0 := neq_pos_t c.dx c.dy d.dx d.dy K0.out; have r1 := neq_pos_t c.lx c.ly d.lx d.ly K1.out
        have r2 : (c.W != d.W) = true := (by simpa using K2.out)
        clear HCab HCfo
        go_enter Tryz.func15, Tryz.ntmps15
        iterate 44 (go_step)
        try simp only [List.append_eq, List.cons_append, List.nil_append]
        go_wp2
        go_ret
        exact ⟨of_iff HX.out (by rw [Cn.pl_iff]; exact ⟨fun h => (by cases h), fun ⟨q1, q2, q3, q4, q5, q6, q7, q8, q9, q10⟩ => absurd q4 K2.out⟩), by go_grown⟩
    · have K1 := Lib.hid h1; clear h1
      have r0 := neq_pos_t c.dx c.dy d.dx d.dy K0.out
      have r1 := neq_pos_f c.lx c.ly d.lx d.ly K1.out
      clear HCab HCfo
      go_enter Tryz.func15, Tryz.ntmps15
      iterate 44 (go_step)
      try simp only [List.append_eq, List.cons_append, List.nil_append]
      go_wp2
      go_ret
      exact ⟨of_iff HX.out (by rw [Cn.pl_iff]; exact ⟨fun h => (by cases h), fun ⟨q1, q2, q3, q4, q5, q6, q7, q8, q9, q10⟩ => absurd ⟨q9, q10⟩ K1.out⟩), by go_grown⟩
  · have K0 := Lib.hid h0; clear h0
    have r0 := neq_pos_f c.dx c.dy d.dx d.dy K0.out
    clear HCab HCfo
    go_enter Tryz.func15, Tryz.ntmps15
    iterate 44 (go_step)
    try simp only [List.append_eq, List.cons_append, List.nil_append]
    go_wp2
    go_ret
    exact ⟨of_iff HX.out (by rw [Cn.pl_iff]; exact ⟨fun h => (by cases h), fun ⟨q1, q2, q3, q4, q5, q6, q7, q8, q9, q10⟩ => absurd ⟨q7, q8⟩ K0.out⟩), by go_grown⟩
end Go.Proofs.YtpjenkgimkndaaaGreat.Con
