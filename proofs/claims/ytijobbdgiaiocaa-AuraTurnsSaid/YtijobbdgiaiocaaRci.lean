/-
  Contract of the document's own ability: which abilities are right.
-/
import Derived.Test.YtijobbdgiaiocaaRch
namespace Go.Proofs.Ytijobbdgiaiocaa.Con
open Go.RowKit Go.Maps

theorem hkeepW {w w' : World} {P : Nat} {o : Obj} (hb : Below w.heap.size w w') (h : w.heap[P]? = some o) : w'.heap[P]? = some o := (hb.block _ (Array.getElem?_eq_some_iff.1 h).1).trans h
theorem amt_all (n lo : Int) (x : Bool) (hx : x = true ↔ In n lo 1000000) : ∀ V, Calls Try.prog 88 #[.int .i64 n, .int .i64 lo] V fun e w' => e = .returned (.bool x) ∧ V = w' := fun V => ramt_any n lo V x hx
theorem ab_bad {c : Cn} {a : Ab} {x : Bool} (hx : x = true ↔ AbOk c a) {f : Ef} (hf : f ∈ a.eff) (h : ¬ EfOk c f) : x = false := by
  cases x with
  | false => rfl
  | true => exact absurd ((hx.1 rfl).2.2.2.2.2.2 f hf) h
set_option maxRecDepth 20000 in
set_option maxHeartbeats 32000000 in
theorem rab1 {w : World} {B : Nat} {c : Cn} (hr : RC w B c) (hB : B ≤ w.heap.size) (hs : Sm c) (a : Ab) (he : RW ef w B a.ea a.eff) (x : Bool) (hx : x = true ↔ AbOk c a) : Calls Try.prog 71 #[cnv c, abv a] w fun e w' => e = .returned (.bool x) ∧ Below w.heap.size w w' := by
  have hb : Below w.heap.size w ((w.alloc (oCn c)).alloc (.cells #[.int .i64 a.id, .int .i64 a.cast, .int .i64 a.cool, .int .i64 a.charges, .int .i64 a.range, .int .i64 a.cost, .bool a.sight, .slice a.ea a.eff.length a.ec] 62)) := by go_grown
  have HB := Lib.hid hb; have HX := Lib.hid hx; have HBw := Lib.hid (Nat.le_trans hB hb.size)
  have HR := Lib.hid (hr.below hb hB); have HE := Lib.hid (he.below hb hB); have HS := Lib.hid hs; have HBw' := HBw
  have HC0 : Hid (((w.alloc (oCn c)).alloc (.cells #[.int .i64 a.id, .int .i64 a.cast, .int .i64 a.cool, .int .i64 a.charges, .int .i64 a.range, .int .i64 a.cost, .bool a.sight, .slice a.ea a.eff.length a.ec] 62)).heap[w.heap.size]? = some (oCn c)) := Lib.hid ((Below.heap_alloc _ _ _ (by simp)).trans (heap_alloc_new w _))
  have HA0 : Hid (((w.alloc (oCn c)).alloc (.cells #[.int .i64 a.id, .int .i64 a.cast, .int .i64 a.cool, .int .i64 a.charges, .int .i64 a.range, .int .i64 a.cost, .bool a.sight, .slice a.ea a.eff.length a.ec] 62)).heap[w.heap.size + 1]? = some (.cells #[.int .i64 a.id, .int .i64 a.cast, .int .i64 a.cool, .int .i64 a.charges, .int .i64 a.range, .int .i64 a.cost, .bool a.sight, .slice a.ea a.eff.length a.ec] 62)) := Lib.hid (by have := heap_alloc_new (w.alloc (oCn c)) (.cells #[.int .i64 a.id, .int .i64 a.cast, .int .i64 a.cool, .int .i64 a.charges, .int .i64 a.range, .int .i64 a.cost, .bool a.sight, .slice a.ea a.eff.length a.ec] 62); simpa using this)
  clear hb hx hr he hs hB
  by_cases g0 : In a.cast 0 1000000
  rotate_left
  · skip
    have G0 := Lib.hid (amt_all a.cast 0 false (by simp [g0])); have K0 := Lib.hid g0; clear g0
    go_enter Try.func71, Try.ntmps71
    go_wp2_with (first | ((with_reducible refine (G0.out _).mono ?_); rintro e w' ⟨rfl, rfl⟩))
    go_ret
    exact ⟨of_iff HX.out (by simp; intro h; have u1 := h.1; have u2 := K0.out; first | exact absurd u1 u2 | omega), HB.out⟩
  have G0 := Lib.hid (amt_all a.cast 0 true (by simp [g0])); have K0 := Lib.hid g0; clear g0
  by_cases g1 : In a.cool 0 1000000
  rotate_left
  · skip
    have G1 := Lib.hid (amt_all a.cool 0 false (by simp [g1])); have K1 := Lib.hid g1; clear g1
    go_enter Try.func71, Try.ntmps71
    go_wp2_with (first | ((with_reducible refine (G0.out _).mono ?_); rintro e w' ⟨rfl, rfl⟩) | ((with_reducible refine (G1.out _).mono ?_); rintro e w' ⟨rfl, rfl⟩))
    go_ret
    exact ⟨of_iff HX.out (by simp; intro h; have u1 := h.2.1; have u2 := K1.out; first | exact absurd u1 u2 | omega), HB.out⟩
  have G1 := Lib.hid (amt_all a.cool 0 true (by simp [g1])); have K1 := Lib.hid g1; clear g1
  by_cases g2 : In a.range 0 1000000
  rotate_left
  · skip
    have G2 := Lib.hid (amt_all a.range 0 false (by simp [g2])); have K2 := Lib.hid g2; clear g2
    go_enter Try.func71, Try.ntmps71
    go_wp2_with (first | ((with_reducible refine (G0.out _).mono ?_); rintro e w' ⟨rfl, rfl⟩) | ((with_reducible refine (G1.out _).mono ?_); rintro e w' ⟨rfl, rfl⟩) | ((with_reducible refine (G2.out _).mono ?_); rintro e w' ⟨rfl, rfl⟩))
    go_ret
    exact ⟨of_iff HX.out (by simp; intro h; have u1 := h.2.2.1; have u2 := K2.out; first | exact absurd u1 u2 | omega), HB.out⟩
  have G2 := Lib.hid (amt_all a.range 0 true (by simp [g2])); have K2 := Lib.hid g2; clear g2
  by_cases g3 : In a.cost 0 1000000
  rotate_left
  · skip
    have G3 := Lib.hid (amt_all a.cost 0 false (by simp [g3])); have K3 := Lib.hid g3; clear g3
    go_enter Try.func71, Try.ntmps71
    go_wp2_with (first | ((with_reducible refine (G0.out _).mono ?_); rintro e w' ⟨rfl, rfl⟩) | ((with_reducible refine (G1.out _).mono ?_); rintro e w' ⟨rfl, rfl⟩) | ((with_reducible refine (G2.out _).mono ?_); rintro e w' ⟨rfl, rfl⟩) | ((with_reducible refine (G3.out _).mono ?_); rintro e w' ⟨rfl, rfl⟩))
    go_ret
    exact ⟨of_iff HX.out (by simp; intro h; have u1 := h.2.2.2.1; have u2 := K3.out; first | exact absurd u1 u2 | omega), HB.out⟩
  have G3 := Lib.hid (amt_all a.cost 0 true (by simp [g3])); have K3 := Lib.hid g3; clear g3
  by_cases g4 : 1 ≤ a.charges
  rotate_left
  · skip
    have t4 : decide (a.charges < 1) = true := by simp; omega
    have K4 := Lib.hid g4
    go_enter Try.func71, Try.ntmps71
    go_wp2_with (first | ((with_reducible refine (G0.out _).mono ?_); rintro e w' ⟨rfl, rfl⟩) | ((with_reducible refine (G1.out _).mono ?_); rintro e w' ⟨rfl, rfl⟩) | ((with_reducible refine (G2.out _).mono ?_); rintro e w' ⟨rfl, rfl⟩) | ((with_reducible refine (G3.out _).mono ?_); rintro e w' ⟨rfl, rfl⟩))
    go_ret
    exact ⟨of_iff HX.out (by simp; intro h; have u1 := h.2.2.2.2.1.1; have u2 := K4.out; first | exact absurd u1 u2 | omega), HB.out⟩
  have t4 : decide (a.charges < 1) = false := by simp; omega
  have K4 := Lib.hid g4
  by_cases g5 : a.charges ≤ 100
  rotate_left
  · skip
    have t5 : decide (a.charges > 100) = true := by simp; omega
    have K5 := Lib.hid g5
    go_enter Try.func71, Try.ntmps71
    go_wp2_with (first | ((with_reducible refine (G0.out _).mono ?_); rintro e w' ⟨rfl, rfl⟩) | ((with_reducible refine (G1.out _).mono ?_); rintro e w' ⟨rfl, rfl⟩) | ((with_reducible refine (G2.out _).mono ?_); rintro e w' ⟨rfl, rfl⟩) | ((with_reducible refine (G3.out _).mono ?_); rintro e w' ⟨rfl, rfl⟩))
    go_ret
    exact ⟨of_iff HX.out (by simp; intro h; have u1 := h.2.2.2.2.1.2; have u2 := K5.out; first | exact absurd u1 u2 | omega), HB.out⟩
  have t5 : decide (a.charges > 100) = false := by simp; omega
  have K5 := Lib.hid g5
  by_cases g6 : (1 : Int) ≤ a.eff.length
  rotate_left
  · skip
    have t6 : decide ((a.eff.length : Int) < 1) = true := by simp; omega
    have K6 := Lib.hid g6
    go_enter Try.func71, Try.ntmps71
    go_wp2_with (first | ((with_reducible refine (G0.out _).mono ?_); rintro e w' ⟨rfl, rfl⟩) | ((with_reducible refine (G1.out _).mono ?_); rintro e w' ⟨rfl, rfl⟩) | ((with_reducible refine (G2.out _).mono ?_); rintro e w' ⟨rfl, rfl⟩) | ((with_reducible refine (G3.out _).mono ?_); rintro e w' ⟨rfl, rfl⟩))
    go_ret
    exact ⟨of_iff HX.out (by simp; intro h; have u1 := h.2.2.2.2.2.1.1; have u2 := K6.out; first | exact absurd u1 u2 | omega), HB.out⟩
  have t6 : decide ((a.eff.length : Int) < 1) = false := by simp; omega
  have K6 := Lib.hid g6
  by_cases g7 : (a.eff.length : Int) ≤ 16
  rotate_left
  · skip
    have t7 : decide ((a.eff.length : Int) > 16) = true := by simp; omega
    have K7 := Lib.hid g7
    go_enter Try.func71, Try.ntmps71
    go_wp2_with (first | ((with_reducible refine (G0.out _).mono ?_); rintro e w' ⟨rfl, rfl⟩) | ((with_reducible refine (G1.out _).mono ?_); rintro e w' ⟨rfl, rfl⟩) | ((with_reducible refine (G2.out _).mono ?_); rintro e w' ⟨rfl, rfl⟩) | ((with_reducible refine (G3.out _).mono ?_); rintro e w' ⟨rfl, rfl⟩))
    go_ret
    exact ⟨of_iff HX.out (by simp; intro h; have u1 := h.2.2.2.2.2.1.2; have u2 := K7.out; first | exact absurd u1 u2 | omega), HB.out⟩
  have t7 : decide ((a.eff.length : Int) > 16) = false := by simp; omega
  have K7 := Lib.hid g7
  have HAll : Hid (x = true ↔ ∀ e ∈ a.eff, EfOk c e) := Lib.hid (by
    rw [HX.out]
    exact ⟨fun h => h.2.2.2.2.2.2, fun h => ⟨K0.out, K1.out, K2.out, K3.out, ⟨K4.out, K5.out⟩, ⟨K6.out, K7.out⟩, h⟩⟩)
  go_enter Try.func71, Try.ntmps71
  go_wp2_with (first | ((with_reducible refine (G0.out _).mono ?_); rintro e w' ⟨rfl, rfl⟩) | ((with_reducible refine (G1.out _).mono ?_); rintro e w' ⟨rfl, rfl⟩) | ((with_reducible refine (G2.out _).mono ?_); rintro e w' ⟨rfl, rfl⟩) | ((with_reducible refine (G3.out _).mono ?_); rintro e w' ⟨rfl, rfl⟩))
  generalize (w.alloc (oCn c)).alloc (.cells #[.int .i64 a.id, .int .i64 a.cast, .int .i64 a.cool, .int .i64 a.charges, .int .i64 a.range, .int .i64 a.cost, .bool a.sight, .slice a.ea a.eff.length a.ec] 62) = V at *
  go_loopg [5] a.eff.length (fun m s5 wr => ∃ (k : Nat), k ≤ a.eff.length ∧ m = a.eff.length - k ∧ s5 = .int .i64 (k : Int) ∧ Hid (Below V.heap.size V wr) ∧ Hid (∀ e ∈ a.eff.take k, EfOk c e))
  case atStart => exact ⟨0, by omega, rfl, rfl, Lib.hid (Below.refl _ _), Lib.hid (by simp)⟩
  case round =>
    obtain ⟨k, hk, rfl, rfl, HW, HK⟩ := hrel
    have HCr := Lib.hid (hkeepW HW.out HC0.out); have HAr := Lib.hid (hkeepW HW.out HA0.out)
    have ha := cellOf1 HAr.out; have la := lt_blk1 HAr.out
    by_cases hlt : k < a.eff.length
    · have hkl' : (k : Int) < a.eff.length := by omega
      obtain ⟨f, hf⟩ : ∃ f, a.eff[k]? = some f := ⟨_, List.getElem?_eq_getElem hlt⟩
      obtain ⟨p, off, hA, hpl, q0, q1, q2⟩ := rowEf HE.out hf HW.out HBw'.out
      have hpw : p < wr.heap.size := Nat.lt_of_lt_of_le hpl (Nat.le_trans HBw'.out HW.out.size)
      have HFm := Lib.hid (List.mem_of_getElem? hf); have HFk := Lib.hid hf
      clear hf
      obtain ⟨fk, fa, fu⟩ := f
      have hbx : Below V.heap.size V (wr.alloc (.cells #[.int .i64 fk, .int .i64 fa, .int .i64 fu] 112)) := HW.out.alloc HW.out.size _
      have HBx := Lib.hid hbx; clear hbx
      have HWx : Hid (Below w.heap.size w (wr.alloc (.cells #[.int .i64 fk, .int .i64 fa, .int .i64 fu] 112))) := Lib.hid (HB.out.trans (HBx.out.mono HB.out.size))
      simp only [hA] at ha ⊢
      have HEa := Lib.hid hA; clear hA
      by_cases j1 : fk < 1
      · go_wp2
        go_ret
        exact ⟨ret_bool (ab_bad HX.out HFm.out (by rintro (⟨h, _⟩ | ⟨_, h, _⟩); (have : fk = 4 := h; omega); (have := h.1; simp at this; omega))).symm, HWx.out⟩
      · have j1' : decide (fk < 1) = false := by simpa using j1
        by_cases j2 : fk > 7
        · go_wp2
          go_ret
          exact ⟨ret_bool (ab_bad HX.out HFm.out (by rintro (⟨h, _⟩ | ⟨_, h, _⟩); (have : fk = 4 := h; omega); (have := h.2; simp at this; omega))).symm, HWx.out⟩
        · have j2' : decide (fk > 7) = false := by simpa using j2
          by_cases j3 : In fa 0 1000000
          · have HA3 := Lib.hid (amt_all fa 0 true (by simp [j3])); have J3 := Lib.hid j3; clear j3
            by_cases j4 : fk = 4
            · have J4 := Lib.hid j4
              subst j4
              obtain ⟨a4, x4, hfd, h4⟩ := of_fdu (c := c) fu
              have HCu := Lib.hid (raura_any (w := wr.alloc (.cells #[.int .i64 4, .int .i64 fa, .int .i64 fu] 112)) (HR.out.below HBx.out HBw'.out) (Nat.le_trans HBw'.out HBx.out.size) HS.out fu a4 x4 hfd)
              have H4 := Lib.hid h4; clear hfd h4
              have HCx := Lib.hid (hkeepW HBx.out HC0.out)
              have hc := cellOf1 HCx.out; have lc := lt_blk1 HCx.out
              have HFx : Hid ((wr.alloc (.cells #[.int .i64 4, .int .i64 fa, .int .i64 fu] 112)).heap[wr.heap.size]? = some (.cells #[.int .i64 4, .int .i64 fa, .int .i64 fu] 112)) := Lib.hid (heap_alloc_new wr _)
              go_wp2_with (first | ((with_reducible refine (HA3.out _).mono ?_); rintro e w' ⟨rfl, rfl⟩))
              (with_reducible refine HCu.out.mono ?_); rintro e w5 ⟨rfl, hB5⟩
              have HW5 : Hid (Below V.heap.size V (w5.alloc (.cells #[.int .i64 a4.id, .int .i64 a4.kind, .int .i64 a4.ticks, .int .i64 a4.every, .int .i64 a4.stacks, .int .i64 a4.amount, .bool a4.harm] 54))) := Lib.hid ((HBx.out.trans (hB5.mono HBx.out.size)).alloc (HBx.out.trans (hB5.mono HBx.out.size)).size _)
              have hz := cellOf1 (hkeepW hB5 HFx.out); have lz := lt_blk1 (hkeepW hB5 HFx.out)
              clear hc lc hB5
              cases x4 with
              | false =>
                have HNo : Hid (¬ HasAu c fu) := Lib.hid (fun h => by have := H4.out.2 h; cases this)
                go_wp2
                go_ret
                exact ⟨ret_bool (ab_bad HX.out HFm.out (by rintro (⟨_, _, h⟩ | ⟨h, _⟩); exact HNo.out h; exact h rfl)).symm, HB.out.trans (HW5.out.mono HB.out.size)⟩
              | true =>
                have HYes : Hid (HasAu c fu) := Lib.hid (H4.out.1 rfl)
                by_cases j5 : fa = 0
                · subst j5
                  have HOk : Hid (EfOk c ⟨4, 0, fu⟩) := Lib.hid (.inl ⟨rfl, rfl, HYes.out⟩)
                  go_wp2
                  rw [← HEa.out]
                  go_roundg (a.eff.length - (k + 1))
                  case measure => omega
                  case rel => exact ⟨k + 1, by omega, rfl, by go_num, HW5, Lib.hid (mem_next HFk.out HOk.out HK.out)⟩
                · have j5' : (fa != 0) = true := by simpa using j5
                  have J5 := Lib.hid j5
                  clear j5
                  go_wp2
                  go_ret
                  exact ⟨ret_bool (ab_bad HX.out HFm.out (by rintro (⟨_, h, _⟩ | ⟨h, _⟩); exact J5.out h; exact h rfl)).symm, HB.out.trans (HW5.out.mono HB.out.size)⟩
            · have J4 := Lib.hid j4
              have j4' : (fk != 4) = true := by simpa using j4
              have j4e : (fk == 4) = false := by simpa using j4
              clear j4
              by_cases j5 : fu = 0
              · have HOk : Hid (EfOk c ⟨fk, fa, fu⟩) := Lib.hid (.inr ⟨J4.out, ⟨by show (1 : Int) ≤ fk; omega, by show fk ≤ 7; omega⟩, J3.out, j5⟩)
                have j5' : (fu != 0) = false := by simpa using j5
                clear j5
                go_wp2_with (first | ((with_reducible refine (HA3.out _).mono ?_); rintro e w' ⟨rfl, rfl⟩))
                rw [← HEa.out]
                go_roundg (a.eff.length - (k + 1))
                case measure => omega
                case rel => exact ⟨k + 1, by omega, rfl, by go_num, HBx, Lib.hid (mem_next HFk.out HOk.out HK.out)⟩
              · have j5' : (fu != 0) = true := by simpa using j5
                have J5 := Lib.hid j5
                clear j5
                go_wp2_with (first | ((with_reducible refine (HA3.out _).mono ?_); rintro e w' ⟨rfl, rfl⟩))
                go_ret
                exact ⟨ret_bool (ab_bad HX.out HFm.out (by rintro (⟨h, _⟩ | ⟨_, _, _, h⟩); exact J4.out h; exact J5.out h)).symm, HWx.out⟩
          · have HA3 := Lib.hid (amt_all fa 0 false (by simp [j3])); have J3 := Lib.hid j3; clear j3
            go_wp2_with (first | ((with_reducible refine (HA3.out _).mono ?_); rintro e w' ⟨rfl, rfl⟩))
            go_ret
            exact ⟨ret_bool (ab_bad HX.out HFm.out (by rintro (⟨_, h, _⟩ | ⟨_, _, h, _⟩); (have h' : fa = 0 := h; exact J3.out ⟨by omega, by omega⟩); exact J3.out h)).symm, HWx.out⟩
    · have hkl' : decide ((k : Int) < a.eff.length) = false := by simp; omega
      go_wp2
      go_ret
      have hall : x = true := HAll.out.2 (fun e he => HK.out e (by rw [show k = a.eff.length by omega, List.take_length]; exact he))
      exact ⟨ret_bool hall.symm, HB.out.trans (HW.out.mono HB.out.size)⟩
end Go.Proofs.Ytijobbdgiaiocaa.Con
