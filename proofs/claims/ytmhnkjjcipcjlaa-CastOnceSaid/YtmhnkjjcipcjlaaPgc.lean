/-
  Contract of the program's Step: for every Casting; only new memory is made.
-/
import Derived.Test.YtmhnkjjcipcjlaaPgb
namespace Go.Proofs.Ytmhnkjjcipcjlaa.Con
open Go.RowKit Go.Maps
set_option linter.unusedVariables false

theorem st_due {s : Cg} {t : Int} (h : due s t) : stG s t = (s.now :: (stG (nxG s) t).1, (stG (nxG s) t).2) := by
  by_cases k : due (nxG s) t
  · have e : stG s t = ([s.now, s.next], nxG (nxG s)) := by unfold stG; rw [if_pos h, if_pos k]
    have f : stG (nxG s) t = ([s.next], nxG (nxG s)) := by unfold stG; rw [if_pos k, if_neg (nx_due s t)]; rfl
    rw [e, f]
  · have e : stG s t = ([s.now], nxG s) := by unfold stG; rw [if_pos h, if_neg k]
    rw [e, st_no k]
theorem fits_0 : Fits 0 := ⟨by omega, by omega⟩
theorem fits_zc : FCa zCa := ⟨fits_0, fits_0, fits_0, fits_0, trivial⟩
theorem fits_nx {s : Cg} (h : FCg s) : FCg (nxG s) := ⟨h.2.1, fits_zc, by
  show Fits (if s.next.ability = 0 then s.wait else held (s.next.since + 3))
  split
  · exact h.2.2
  · exact held_fits _⟩
theorem fits_st {s : Cg} (h : FCg s) (t : Int) : FCg (stG s t).2 := by
  unfold stG
  split
  · split
    · exact fits_nx (fits_nx h)
    · exact fits_nx h
  · exact h
/-- What is done so far, and what Step still does. -/
def StI (s : Cg) (t : Int) (u : Cg) (L : List Ca) : Prop := stG s t = (L ++ (stG u t).1, (stG u t).2) ∧ FCg u
theorem StI.next {s u : Cg} {t : Int} {L : List Ca} (h : StI s t u L) (d : due u t) : StI s t (nxG u) (L ++ [u.now]) := by
  refine ⟨?_, fits_nx h.2⟩
  rw [h.1, st_due d]
  simp
theorem StI.small {s u : Cg} {t : Int} {L : List Ca} (h : StI s t u L) : L.length + (stG u t).1.length ≤ 2 := by
  have := st_len s t
  rw [h.1] at this
  simpa using this
theorem StI.done {s u : Cg} {t : Int} {L : List Ca} (h : StI s t u L) (d : ¬ due u t) : stG s t = (L, u) := by
  rw [h.1, st_no d]; simp
theorem due_len {u : Cg} {t : Int} (d : due u t) : (stG u t).1.length = (stG (nxG u) t).1.length + 1 := by rw [st_due d]; rfl
set_option maxRecDepth 20000 in
set_option maxHeartbeats 4000000 in
theorem pstep_any (s : Cg) (fs : FCg s) (t : Int) (w : World) : Calls Try.prog 8 #[cgv s, .int .i64 t] w fun e w' => ∃ (u : Cg) (A : Option Addr) (c : Nat) (L : List Ca), Hid (stG s t = (L, u)) ∧ e = .returned (.tuple #[cgv u, .slice A L.length c]) ∧ Hid (OW ca w' w.heap.size (.slice A L.length c) L) ∧ Below w.heap.size w w' := by
  have HB0 : Hid (Below w.heap.size w ((w.alloc (oCg s)).alloc (oCg ⟨zCa, zCa, 0⟩))) := Lib.hid ((below_box w (oCg s)).alloc (by simp) _)
  have HX0 : Hid (Gx ((w.alloc (oCg s)).alloc (oCg ⟨zCa, zCa, 0⟩)) w.heap.size s) := Lib.hid ((Gx.new w s).alloc _)
  have HY0 : Hid (Gx ((w.alloc (oCg s)).alloc (oCg ⟨zCa, zCa, 0⟩)) (w.heap.size + 1) ⟨zCa, zCa, 0⟩) := Lib.hid (by have := Gx.new (w.alloc (oCg s)) ⟨zCa, zCa, 0⟩; simpa using this)
  have HT := Lib.hid (fun (c : Ca) V => pthere_any c V)
  have HF := Lib.hid fs
  clear fs
  obtain ⟨z0, z1, z2, z3, z4, z5, z6, z7, z8⟩ := HX0.out.at
  go_enter Try.func8, Try.ntmps8
  go_wp2
  go_step3
  go_wp2
  go_step3
  go_wp2
  generalize (w.alloc (oCg s)).alloc (oCg ⟨zCa, zCa, 0⟩) = w0 at *
  clear z0 z1 z2 z3 z4 z5 z6 z7 z8
  go_loopg [6] (stG s t).1.length (fun gh s6 wr => ∃ (u : Cg) (A : Option Addr) (c : Nat) (L : List Ca), gh = (stG u t).1.length ∧ s6 = .slice A L.length c ∧ Hid (StI s t u L) ∧ Hid (OW ca wr (w.heap.size + 2) (.slice A L.length c) L) ∧ Hid (Gx wr w.heap.size u) ∧ Hid (Gx wr (w.heap.size + 1) ⟨zCa, zCa, 0⟩) ∧ Hid (Below w.heap.size w wr))
  case atStart => exact ⟨s, none, 0, [], rfl, rfl, Lib.hid ⟨by simp, HF.out⟩, Lib.hid (OW.nil ca _ _), HX0, HY0, HB0⟩
  case round =>
    obtain ⟨u, A, c, L, rfl, rfl, HI, HO, HX, HY, HB⟩ := hrel
    have HP : Hid (wr.heap.size = wr.heap.size) := Lib.hid rfl
    obtain ⟨z0, z1, z2, z3, z4, z5, z6, z7, z8⟩ := HX.out.at
    go_wp2_with (fail)
    (with_reducible refine (HT.out u.now _).mono ?_); rintro e w1 ⟨rfl, hB1⟩
    have HX1 := Lib.hid (HX.out.of hB1 HX.out.lt)
    have HY1 := Lib.hid (HY.out.of hB1 HY.out.lt)
    have HO1 := Lib.hid (HO.out.of hB1)
    have HB1 := Lib.hid (below_more HB.out hB1 HB.out.size)
    clear hB1 z0 z1 z2 z3 z4 z5 z6 z7 z8 HX HY HO HB
    obtain ⟨z0, z1, z2, z3, z4, z5, z6, z7, z8⟩ := HX1.out.at
    by_cases hd : due u t
    · have h0' : decide (u.now.ability = 0) = false := by simpa using hd.1
      have h1' : decide (t < u.now.untl) = false := by have := hd.2; simp; omega
      have HN := Lib.hid (HI.out.next hd)
      have HSm := Lib.hid HI.out.small
      have HDl := Lib.hid (due_len hd)
      have HFu := Lib.hid HI.out.2
      clear hd
      go_wp2_with (fail)
      (with_reducible refine (HT.out u.next _).mono ?_); rintro e w2 ⟨rfl, hB2⟩
      have HX2 := Lib.hid (HX1.out.of hB2 HX1.out.lt)
      have HY2 := Lib.hid (HY1.out.of hB2 HY1.out.lt)
      have HO2 := Lib.hid (HO1.out.of hB2)
      have HB2 := Lib.hid (below_more HB1.out hB2 HB1.out.size)
      clear hB2 z0 z1 z2 z3 z4 z5 z6 z7 z8 HX1 HY1 HO1 HB1
      obtain ⟨z0, z1, z2, z3, z4, z5, z6, z7, z8⟩ := HX2.out.at
      by_cases h2 : u.next.ability = 0
      · have h2' : decide (u.next.ability = 0) = true := by simpa using h2
        have HNX : Hid (nxG u = ⟨u.next, zCa, u.wait⟩) := Lib.hid (by unfold nxG; rw [if_pos h2])
        clear h2
        have HX4 := HX2; have HY4 := HY2; have HO4 := HO2; have HB4 := HB2
        have HX4a : Hid (Gx (w2.alloc (.cells #[.int .i64 u.now.ability, .int .i64 u.now.target, .int .i64 u.now.since, .int .i64 u.now.untl] 25)) w.heap.size ⟨u.now, u.next, u.wait⟩) := Lib.hid (HX4.out.alloc _)
        have HY4a : Hid (Gx (w2.alloc (.cells #[.int .i64 u.now.ability, .int .i64 u.now.target, .int .i64 u.now.since, .int .i64 u.now.untl] 25)) (w.heap.size + 1) ⟨zCa, zCa, 0⟩) := Lib.hid (HY4.out.alloc _)
        have HO4a := Lib.hid (HO4.out.of (below_box w2 (.cells #[.int .i64 u.now.ability, .int .i64 u.now.target, .int .i64 u.now.since, .int .i64 u.now.untl] 25)))
        have HB4a := Lib.hid (below_more HB4.out (below_box w2 (.cells #[.int .i64 u.now.ability, .int .i64 u.now.target, .int .i64 u.now.since, .int .i64 u.now.untl] 25)) HB4.out.size)
        have HRW : Hid (RW ca (w2.alloc (.cells #[.int .i64 u.now.ability, .int .i64 u.now.target, .int .i64 u.now.since, .int .i64 u.now.untl] 25)) (w2.heap.size + 1) (some ⟨w2.heap.size, 0, none⟩) [u.now]) := Lib.hid (rw_at ca _ _ _ _ _ rfl (by simp [flat, ca, encCa]) (by simp))
        have HLb : Hid (L.length + [u.now].length ≤ 1000000) := Lib.hid (by have := HSm.out; simp; omega)
        have HSZ := Lib.hid (show w.heap.size + 2 ≤ (w2.alloc (.cells #[.int .i64 u.now.ability, .int .i64 u.now.target, .int .i64 u.now.since, .int .i64 u.now.untl] 25)).heap.size by have := HY4a.out.lt; omega)
        go_wp2_with (at_builtin; refine wpList_app ca rfl 28 rfl (.tmp 27) (.tmp 30) rfl (w.heap.size + 2) (w2.heap.size + 1) (.slice A L.length c) L [u.now] (some ⟨w2.heap.size, 0, none⟩) 1 1 rfl rfl rfl HO4a.out HRW.out HLb.out HSZ.out ?_; intro A5 c5 w5 lm HLM HO5 HS5 HE5; have HBx := Lib.hid ((Below.refl (w.heap.size + 2) _).grown HS5.out HSZ.out (fun k hk => (HO4a.out.lt hk).1)); have HX5 := Lib.hid (HX4a.out.of HBx.out (by omega)); have HY5 := Lib.hid (HY4a.out.of HBx.out (by omega)); have HB5 := Lib.hid (HB4a.out.trans (HBx.out.mono (by omega))); clear z0 z1 z2 z3 z4 z5 z6 z7 z8; obtain ⟨z0, z1, z2, z3, z4, z5, z6, z7, z8⟩ := HX5.out.at; have hG := frozOf' HX5.out; have hyz := cellOf' HX5.out; have hyl := HX5.out.lt)
        go_roundg (stG (nxG u) t).1.length
        case measure => have := HDl.out; omega
        case rel => exact ⟨nxG u, A5, c5, lm, rfl, rfl, Lib.hid (by rw [HLM.out]; exact HN.out), Lib.hid ((HO5.out.putN (by omega) u.next).putX (by omega) zCa), Lib.hid (by rw [HNX.out]; exact (HX5.out.putN u.next).putX zCa), Lib.hid ((HY5.out.putNOther (by omega) u.next).putXOther (by omega) zCa), Lib.hid (below_putX (below_putN HB5.out (Nat.le_refl _) u.next) (Nat.le_refl _) zCa)⟩
      · have h2' : decide (u.next.ability = 0) = false := by simpa using h2
        have HWt := Lib.hid (fun V => pwait_any u.next HFu.out.2.1.2.2.1 V)
        obtain ⟨g, HG⟩ : ∃ g, Hid (held (u.next.since + 3) = g) := ⟨_, Lib.hid rfl⟩
        rw [HG.out] at HWt
        have HNX : Hid (nxG u = ⟨u.next, zCa, g⟩) := Lib.hid (by unfold nxG; rw [if_neg h2, HG.out])
        clear h2
        go_wp2_with (fail)
        (with_reducible refine (HWt.out _).mono ?_); rintro e w3 ⟨rfl, hB3⟩
        have HX3 := Lib.hid (HX2.out.of hB3 HX2.out.lt)
        have HY3 := Lib.hid (HY2.out.of hB3 HY2.out.lt)
        have HO3 := Lib.hid (HO2.out.of hB3)
        have HB3 := Lib.hid (below_more HB2.out hB3 HB2.out.size)
        clear hB3 z0 z1 z2 z3 z4 z5 z6 z7 z8 HX2 HY2 HO2 HB2
        have HX4 : Hid (Gx (w3.setCell ⟨w.heap.size, 8, none⟩ (.int .i64 g)) w.heap.size ⟨u.now, u.next, g⟩) := Lib.hid (HX3.out.set8 g)
        have HY4 : Hid (Gx (w3.setCell ⟨w.heap.size, 8, none⟩ (.int .i64 g)) (w.heap.size + 1) ⟨zCa, zCa, 0⟩) := Lib.hid (HY3.out.other (by omega) _ 8)
        have HO4 := Lib.hid (HO3.out.setO (r := w.heap.size) (by omega) 8 (.int .i64 g))
        have HB4 : Hid (Below w.heap.size w (w3.setCell ⟨w.heap.size, 8, none⟩ (.int .i64 g))) := Lib.hid (HB3.out.setCell (p := ⟨w.heap.size, 8, none⟩) (Nat.le_refl _) _)
        have hG := frozOf' HX3.out
        have hyz := cellOf' HX3.out
        have hyl := HX3.out.lt
        obtain ⟨z0, z1, z2, z3, z4, z5, z6, z7, z8⟩ := HX4.out.at
        have HX4a : Hid (Gx ((w3.setCell ⟨w.heap.size, 8, none⟩ (.int .i64 g)).alloc (.cells #[.int .i64 u.now.ability, .int .i64 u.now.target, .int .i64 u.now.since, .int .i64 u.now.untl] 25)) w.heap.size ⟨u.now, u.next, g⟩) := Lib.hid (HX4.out.alloc _)
        have HY4a : Hid (Gx ((w3.setCell ⟨w.heap.size, 8, none⟩ (.int .i64 g)).alloc (.cells #[.int .i64 u.now.ability, .int .i64 u.now.target, .int .i64 u.now.since, .int .i64 u.now.untl] 25)) (w.heap.size + 1) ⟨zCa, zCa, 0⟩) := Lib.hid (HY4.out.alloc _)
        have HO4a := Lib.hid (HO4.out.of (below_box (w3.setCell ⟨w.heap.size, 8, none⟩ (.int .i64 g)) (.cells #[.int .i64 u.now.ability, .int .i64 u.now.target, .int .i64 u.now.since, .int .i64 u.now.untl] 25)))
        have HB4a := Lib.hid (below_more HB4.out (below_box (w3.setCell ⟨w.heap.size, 8, none⟩ (.int .i64 g)) (.cells #[.int .i64 u.now.ability, .int .i64 u.now.target, .int .i64 u.now.since, .int .i64 u.now.untl] 25)) HB4.out.size)
        have HRW : Hid (RW ca ((w3.setCell ⟨w.heap.size, 8, none⟩ (.int .i64 g)).alloc (.cells #[.int .i64 u.now.ability, .int .i64 u.now.target, .int .i64 u.now.since, .int .i64 u.now.untl] 25)) (w3.heap.size + 1) (some ⟨w3.heap.size, 0, none⟩) [u.now]) := Lib.hid (rw_at ca _ _ _ _ _ rfl (by simp [flat, ca, encCa]) (by simp))
        have HLb : Hid (L.length + [u.now].length ≤ 1000000) := Lib.hid (by have := HSm.out; simp; omega)
        have HSZ := Lib.hid (show w.heap.size + 2 ≤ ((w3.setCell ⟨w.heap.size, 8, none⟩ (.int .i64 g)).alloc (.cells #[.int .i64 u.now.ability, .int .i64 u.now.target, .int .i64 u.now.since, .int .i64 u.now.untl] 25)).heap.size by have := HY4a.out.lt; omega)
        go_wp2_with (at_builtin; refine wpList_app ca rfl 28 rfl (.tmp 27) (.tmp 30) rfl (w.heap.size + 2) (w3.heap.size + 1) (.slice A L.length c) L [u.now] (some ⟨w3.heap.size, 0, none⟩) 1 1 rfl rfl rfl HO4a.out HRW.out HLb.out HSZ.out ?_; intro A5 c5 w5 lm HLM HO5 HS5 HE5; have HBx := Lib.hid ((Below.refl (w.heap.size + 2) _).grown HS5.out HSZ.out (fun k hk => (HO4a.out.lt hk).1)); have HX5 := Lib.hid (HX4a.out.of HBx.out (by omega)); have HY5 := Lib.hid (HY4a.out.of HBx.out (by omega)); have HB5 := Lib.hid (HB4a.out.trans (HBx.out.mono (by omega))); clear z0 z1 z2 z3 z4 z5 z6 z7 z8 hG hyz hyl; obtain ⟨z0, z1, z2, z3, z4, z5, z6, z7, z8⟩ := HX5.out.at; have hG := frozOf' HX5.out; have hyz := cellOf' HX5.out; have hyl := HX5.out.lt)
        go_roundg (stG (nxG u) t).1.length
        case measure => have := HDl.out; omega
        case rel => exact ⟨nxG u, A5, c5, lm, rfl, rfl, Lib.hid (by rw [HLM.out]; exact HN.out), Lib.hid ((HO5.out.putN (by omega) u.next).putX (by omega) zCa), Lib.hid (by rw [HNX.out]; exact (HX5.out.putN u.next).putX zCa), Lib.hid ((HY5.out.putNOther (by omega) u.next).putXOther (by omega) zCa), Lib.hid (below_putX (below_putN HB5.out (Nat.le_refl _) u.next) (Nat.le_refl _) zCa)⟩
    · have HE := Lib.hid (HI.out.done hd)
      have hG := frozOf' HY1.out
      have hyz := cellOf' HY1.out
      have hyl := HY1.out.lt
      have HR : Hid (Gx (wrG w1 (w.heap.size + 1) u) (w.heap.size + 1) u) := Lib.hid (HY1.out.putG _)
      have HS : Hid (Below w.heap.size w (wrG w1 (w.heap.size + 1) u)) := Lib.hid (below_putG HB1.out (by omega) _)
      have HOE := Lib.hid ((HO1.out.putG (r := w.heap.size + 1) (by omega) u).mono (base' := w.heap.size) (by omega))
      by_cases h0 : u.now.ability = 0
      · have h0' : decide (u.now.ability = 0) = true := by simpa using h0
        clear hd h0
        go_wp2
        obtain ⟨q0, q1, q2, q3, q4, q5, q6, q7, q8⟩ := HR.out.at
        rw [Exit.noGoto_ret]
        refine bodyPost_ret (by simp [results, Try.results8, go_sem, q0, q1, q2, q3, q4, q5, q6, q7, q8]; try rfl) rfl ?_
        exact ⟨u, A, c, L, HE, rfl, HOE, HS.out⟩
      · have h0' : decide (u.now.ability = 0) = false := by simpa using h0
        have h1' : decide (t < u.now.untl) = true := by
          have : ¬ u.now.untl ≤ t := fun k => hd ⟨h0, k⟩
          simp; omega
        clear hd h0
        go_wp2
        obtain ⟨q0, q1, q2, q3, q4, q5, q6, q7, q8⟩ := HR.out.at
        rw [Exit.noGoto_ret]
        refine bodyPost_ret (by simp [results, Try.results8, go_sem, q0, q1, q2, q3, q4, q5, q6, q7, q8]; try rfl) rfl ?_
        exact ⟨u, A, c, L, HE, rfl, HOE, HS.out⟩
end Go.Proofs.Ytmhnkjjcipcjlaa.Con
