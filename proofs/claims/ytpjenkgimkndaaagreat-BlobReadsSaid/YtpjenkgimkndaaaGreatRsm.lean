/-
  Contracts of the document's SameAbility and SameFoe: alike just where all but addresses is one.
-/
import Derived.Test.YtpjenkgimkndaaaGreatEql
import Derived.Test.YtpjenkgimkndaaaGreatChk
namespace Go.Proofs.YtpjenkgimkndaaaGreat.Con
open Go.RowKit Go.Maps
abbrev oAs (x : Ab) (s : Bool) : Obj := .cells #[.int .i64 x.id, .int .i64 x.cast, .int .i64 x.cool, .int .i64 x.charges, .int .i64 x.range, .int .i64 x.cost, .bool s, .slice x.ea x.eff.length x.ec] 52
abbrev avs (x : Ab) (s : Bool) : Value := .agg #[.int .i64 x.id, .int .i64 x.cast, .int .i64 x.cool, .int .i64 x.charges, .int .i64 x.range, .int .i64 x.cost, .bool s, .slice x.ea x.eff.length x.ec]


set_option maxRecDepth 20000 in
set_option maxHeartbeats 8000000 in
theorem rsameAb {w : World} {B : Nat} (a b : Ab) (ha : RW ef w B a.ea a.eff) (hb : RW ef w B b.ea b.eff) (hB : B ≤ w.heap.size) (hl : (a.eff.length : Int) ≤ 100000) (x : Bool) (hx : x = true ↔ a.pl = b.pl) :
    Calls Tryz.prog 36 #[abv a, abv b] w fun e w' => e = .returned (.bool x) ∧ Below w.heap.size w w' := by
  obtain ⟨x1, k1⟩ := bex (a.eff = b.eff)
  have hX : Below w.heap.size w ((w.alloc (oAb a)).alloc (oAb b)) := by go_grown
  have HX := Lib.hid hx; have HA := Lib.hid ha; have HB := Lib.hid hb; have H1 := Lib.hid k1
  clear hx ha hb k1
  by_cases h0 : a.id = b.id
  · have K0 := Lib.hid h0; clear h0
    by_cases h1 : a.cast = b.cast
    · have K1 := Lib.hid h1; clear h1
      by_cases h2 : a.cool = b.cool
      · have K2 := Lib.hid h2; clear h2
        by_cases h3 : a.charges = b.charges
        · have K3 := Lib.hid h3; clear h3
          by_cases h4 : a.range = b.range
          · have K4 := Lib.hid h4; clear h4
            by_cases h5 : a.cost = b.cost
            · have K5 := Lib.hid h5; clear h5
              by_cases h6 : a.sight = b.sight
              · have K6 := Lib.hid h6; clear h6
                by_cases h7 : (a.eff.length : Int) = (b.eff.length : Int)
                · have K7 := Lib.hid h7; clear h7
                  have r0 : (a.id != b.id) = false := (by simpa using K0.out); have r1 : (a.cast != b.cast) = false := (by simpa using K1.out); have r2 : (a.cool != b.cool) = false := (by simpa using K2.out); have r3 : (a.charges != b.charges) = false := (by simpa using K3.out); have r4 : (a.range != b.range) = false := (by simpa using K4.out); have r5 : (a.cost != b.cost) = false := (by simpa using K5.out); have r6 : (a.sight != b.sight) = false := (by simpa using K6.out); have r7 : ((a.eff.length : Int) != (b.eff.length : Int)) = false := (by simpa using K7.out)
                  have hoa : oAb a = oAs a b.sight := by show Obj.cells _ _ = Obj.cells _ _; rw [K6.out]
                  have hva : abv a = avs a b.sight := by show Value.agg _ = Value.agg _; rw [K6.out]
                  rw [hva]
                  rw [hoa] at hX
                  clear hva hoa
                  have HAeff := Lib.hid (HA.out.below hX hB); have HBeff := Lib.hid (HB.out.below hX hB)
                  go_enter Tryz.func36, Tryz.ntmps36
                  go_wp2
                  have HVeff : Hid (((w.alloc (oAs a b.sight)).alloc (oAb b)).cell? ⟨w.heap.size, 7, none⟩ = some (.slice a.ea a.eff.length a.ec) ∧ ((w.alloc (oAs a b.sight)).alloc (oAb b)).cell? ⟨w.heap.size + 1, 7, none⟩ = some (.slice b.ea b.eff.length b.ec)) := Lib.hid ⟨by simp, by simp⟩
                  have HS : Hid (((w.alloc (oAs a b.sight)).alloc (oAb b)).heap.size = w.heap.size + 1 + 1) := Lib.hid (by simp)
                  have HXw := Lib.hid hX
                  clear hX
                  generalize (w.alloc (oAs a b.sight)).alloc (oAb b) = V at *
                  go_loopg [5] a.eff.length (fun m s5 wr => ∃ (k q : Nat), k ≤ a.eff.length ∧ m = a.eff.length - k ∧ s5 = .int .i64 (k : Int) ∧ Hid (wr = V.drewN q) ∧ Hid (a.eff.take k = b.eff.take k))
                  case atStart => exact ⟨0, 0, by omega, rfl, rfl, Lib.hid rfl, Lib.hid (by simp)⟩
                  case round =>
                    obtain ⟨k, q, hk, rfl, rfl, HW, HE⟩ := hrel
                    have hbw : Below V.heap.size V wr := by rw [HW.out]; exact below_drewN (Below.refl _ _) q
                    have u1 : wr.cell? ⟨w.heap.size, 7, none⟩ = some (.slice a.ea a.eff.length a.ec) := (hbw.cell (p := ⟨w.heap.size, 7, none⟩) (by rw [HS.out]; simp; omega)).trans HVeff.out.1
                    have u2 : wr.cell? ⟨w.heap.size + 1, 7, none⟩ = some (.slice b.ea b.eff.length b.ec) := (hbw.cell (p := ⟨w.heap.size + 1, 7, none⟩) (by rw [HS.out]; simp)).trans HVeff.out.2
                    by_cases hkl : k < a.eff.length
                    · have hkl' : (k : Int) < a.eff.length := by omega
                      have hkl2 : (k : Int) < b.eff.length := by have := K7.out; omega
                      obtain ⟨s, hs⟩ : ∃ s, a.eff[k]? = some s := ⟨_, List.getElem?_eq_getElem hkl⟩
                      obtain ⟨t, ht⟩ : ∃ t, b.eff[k]? = some t := ⟨_, List.getElem?_eq_getElem (by omega)⟩
                      obtain ⟨p, off, hA, hpl, c0, c1, c2⟩ := rowEf HAeff.out hs hbw (by rw [HS.out]; omega)
                      obtain ⟨p', off', hA', hpl', d0, d1, d2⟩ := rowEf HBeff.out ht hbw (by rw [HS.out]; omega)
                      rw [hA] at u1; rw [hA'] at u2
                      obtain ⟨e, he⟩ := bex (¬ s = t)
                      have hq : ∀ V : World, (binOp .neq 71 (.agg #[.int .i64 s.kind, .int .i64 s.amount, .int .i64 s.aura]) (.agg #[.int .i64 t.kind, .int .i64 t.amount, .int .i64 t.aura])).run Tryz.prog V = .ok (.bool e) V := neq_ef s t e he
                      have HSs := Lib.hid hs; have HT := Lib.hid ht; have HEE := Lib.hid he
                      clear hs ht he hbw hA hA'
                      cases e with
                      | true =>
                        have HF := Lib.hid (eq_not H1.out HSs.out HT.out (HEE.out.1 rfl))
                        clear HEE
                        go_wp2
                        go_quiet (fail)
                        go_wp2
                        go_ret
                        have hz := HF.out
                        exact ⟨of_iff HX.out (by rw [Ab.pl_iff, ← H1.out, hz]; simp), by rw [HW.out, World.drewN_drewN]; exact below_drewN HXw.out _⟩
                      | false =>
                        have hst : s = t := Classical.byContradiction (fun h => by have := HEE.out.2 h; cases this)
                        have HE2 := Lib.hid (eq_next HSs.out HT.out HE.out hst)
                        clear HEE hst
                        go_wp2
                        go_quiet (fail)
                        go_wp2
                        go_roundg (a.eff.length - (k + 1))
                        case measure => omega
                        case rel => exact ⟨k + 1, q + nq, by omega, rfl, by go_num, Lib.hid (by rw [HW.out, World.drewN_drewN]), HE2⟩
                    · have hkl' : decide ((k : Int) < a.eff.length) = false := by simp; omega
                      have HT := Lib.hid (eq_all H1.out (by have := K7.out; omega) (by omega) HE.out)
                      clear hbw
                      go_wp2
                      go_ret
                      exact ⟨of_iff HX.out (by rw [Ab.pl_iff, ← H1.out]; simp [HT.out, K0.out, K1.out, K2.out, K3.out, K4.out, K5.out, K6.out]), by rw [HW.out]; exact below_drewN HXw.out q⟩
                · have K7 := Lib.hid h7; clear h7
                  have r0 : (a.id != b.id) = false := (by simpa using K0.out); have r1 : (a.cast != b.cast) = false := (by simpa using K1.out); have r2 : (a.cool != b.cool) = false := (by simpa using K2.out); have r3 : (a.charges != b.charges) = false := (by simpa using K3.out); have r4 : (a.range != b.range) = false := (by simpa using K4.out); have r5 : (a.cost != b.cost) = false := (by simpa using K5.out); have r6 : (a.sight != b.sight) = false := (by simpa using K6.out)
                  have r7 : ((a.eff.length : Int) != (b.eff.length : Int)) = true := by simpa using K7.out
                  go_enter Tryz.func36, Tryz.ntmps36
                  go_wp2
                  go_ret
                  exact ⟨of_iff HX.out (by rw [Ab.pl_iff]; have hne : a.eff ≠ b.eff := (fun h => K7.out (by rw [h])); simp [hne]), by go_grown⟩
              · have K6 := Lib.hid h6; clear h6
                have r0 : (a.id != b.id) = false := (by simpa using K0.out); have r1 : (a.cast != b.cast) = false := (by simpa using K1.out); have r2 : (a.cool != b.cool) = false := (by simpa using K2.out); have r3 : (a.charges != b.charges) = false := (by simpa using K3.out); have r4 : (a.range != b.range) = false := (by simpa using K4.out); have r5 : (a.cost != b.cost) = false := (by simpa using K5.out)
                have r6 : (a.sight != b.sight) = true := by simpa using K6.out
                go_enter Tryz.func36, Tryz.ntmps36
                go_wp2
                go_ret
                exact ⟨of_iff HX.out (by rw [Ab.pl_iff]; simp [K6.out]), by go_grown⟩
            · have K5 := Lib.hid h5; clear h5
              have r0 : (a.id != b.id) = false := (by simpa using K0.out); have r1 : (a.cast != b.cast) = false := (by simpa using K1.out); have r2 : (a.cool != b.cool) = false := (by simpa using K2.out); have r3 : (a.charges != b.charges) = false := (by simpa using K3.out); have r4 : (a.range != b.range) = false := (by simpa using K4.out)
              have r5 : (a.cost != b.cost) = true := by simpa using K5.out
              go_enter Tryz.func36, Tryz.ntmps36
              go_wp2
              go_ret
              exact ⟨of_iff HX.out (by rw [Ab.pl_iff]; simp [K5.out]), by go_grown⟩
          · have K4 := Lib.hid h4; clear h4
            have r0 : (a.id != b.id) = false := (by simpa using K0.out); have r1 : (a.cast != b.cast) = false := (by simpa using K1.out); have r2 : (a.cool != b.cool) = false := (by simpa using K2.out); have r3 : (a.charges != b.charges) = false := (by simpa using K3.out)
            have r4 : (a.range != b.range) = true := by simpa using K4.out
            go_enter Tryz.func36, Tryz.ntmps36
            go_wp2
            go_ret
            exact ⟨of_iff HX.out (by rw [Ab.pl_iff]; simp [K4.out]), by go_grown⟩
        · have K3 := Lib.hid h3; clear h3
          have r0 : (a.id != b.id) = false := (by simpa using K0.out); have r1 : (a.cast != b.cast) = false := (by simpa using K1.out); have r2 : (a.cool != b.cool) = false := (by simpa using K2.out)
          have r3 : (a.charges != b.charges) = true := by simpa using K3.out
          go_enter Tryz.func36, Tryz.ntmps36
          go_wp2
          go_ret
          exact ⟨of_iff HX.out (by rw [Ab.pl_iff]; simp [K3.out]), by go_grown⟩
      · have K2 := Lib.hid h2; clear h2
        have r0 : (a.id != b.id) = false := (by simpa using K0.out); have r1 : (a.cast != b.cast) = false := (by simpa using K1.out)
        have r2 : (a.cool != b.cool) = true := by simpa using K2.out
        go_enter Tryz.func36, Tryz.ntmps36
        go_wp2
        go_ret
        exact ⟨of_iff HX.out (by rw [Ab.pl_iff]; simp [K2.out]), by go_grown⟩
    · have K1 := Lib.hid h1; clear h1
      have r0 : (a.id != b.id) = false := (by simpa using K0.out)
      have r1 : (a.cast != b.cast) = true := by simpa using K1.out
      go_enter Tryz.func36, Tryz.ntmps36
      go_wp2
      go_ret
      exact ⟨of_iff HX.out (by rw [Ab.pl_iff]; simp [K1.out]), by go_grown⟩
  · have K0 := Lib.hid h0; clear h0
    have r0 : (a.id != b.id) = true := by simpa using K0.out
    go_enter Tryz.func36, Tryz.ntmps36
    go_wp2
    go_ret
    exact ⟨of_iff HX.out (by rw [Ab.pl_iff]; simp [K0.out]), by go_grown⟩

set_option maxRecDepth 20000 in
set_option maxHeartbeats 8000000 in
theorem rsameFo {w : World} {B : Nat} (a b : Fo) (ha : RW ln w B a.sa a.script) (hb : RW ln w B b.sa b.script) (ga : RW pz w B a.ha a.hoard) (gb : RW pz w B b.ha b.hoard) (hB : B ≤ w.heap.size) (hl : (a.script.length : Int) ≤ 100000) (hl2 : (a.hoard.length : Int) ≤ 100000) (x : Bool) (hx : x = true ↔ a.pl = b.pl) :
    Calls Tryz.prog 37 #[fov a, fov b] w fun e w' => e = .returned (.bool x) ∧ Below w.heap.size w w' := by
  obtain ⟨x1, k1⟩ := bex (a.script = b.script)
  obtain ⟨x2, k2⟩ := bex (a.hoard = b.hoard)
  have hX : Below w.heap.size w ((w.alloc (oFo a)).alloc (oFo b)) := by go_grown
  have HX := Lib.hid hx; have HA := Lib.hid ha; have HB := Lib.hid hb; have H1 := Lib.hid k1; have GA := Lib.hid ga; have GB := Lib.hid gb; have H2 := Lib.hid k2
  clear hx ha hb k1 ga gb k2
  by_cases h0 : a.id = b.id
  · have K0 := Lib.hid h0; clear h0
    by_cases h1 : a.health = b.health
    · have K1 := Lib.hid h1; clear h1
      by_cases h2 : a.hit = b.hit
      · have K2 := Lib.hid h2; clear h2
        by_cases h3 : a.every = b.every
        · have K3 := Lib.hid h3; clear h3
          by_cases h4 : a.reach = b.reach
          · have K4 := Lib.hid h4; clear h4
            by_cases h5 : a.drops = b.drops
            · have K5 := Lib.hid h5; clear h5
              by_cases h6 : (a.script.length : Int) = (b.script.length : Int)
              · have K6 := Lib.hid h6; clear h6
                by_cases h7 : (a.hoard.length : Int) = (b.hoard.length : Int)
                · have K7 := Lib.hid h7; clear h7
                  have r0 : (a.id != b.id) = false := (by simpa using K0.out); have r1 : (a.health != b.health) = false := (by simpa using K1.out); have r2 : (a.hit != b.hit) = false := (by simpa using K2.out); have r3 : (a.every != b.every) = false := (by simpa using K3.out); have r4 : (a.reach != b.reach) = false := (by simpa using K4.out); have r5 : (a.drops != b.drops) = false := (by simpa using K5.out); have r6 : ((a.script.length : Int) != (b.script.length : Int)) = false := (by simpa using K6.out); have r7 : ((a.hoard.length : Int) != (b.hoard.length : Int)) = false := (by simpa using K7.out)
                  have HAscript := Lib.hid (HA.out.below hX hB); have HBscript := Lib.hid (HB.out.below hX hB); have HAhoard := Lib.hid (GA.out.below hX hB); have HBhoard := Lib.hid (GB.out.below hX hB)
                  go_enter Tryz.func37, Tryz.ntmps37
                  go_wp2
                  have HVscript : Hid (((w.alloc (oFo a)).alloc (oFo b)).cell? ⟨w.heap.size, 5, none⟩ = some (.slice a.sa a.script.length a.sc) ∧ ((w.alloc (oFo a)).alloc (oFo b)).cell? ⟨w.heap.size + 1, 5, none⟩ = some (.slice b.sa b.script.length b.sc)) := Lib.hid ⟨by simp, by simp⟩
                  have HVhoard : Hid (((w.alloc (oFo a)).alloc (oFo b)).cell? ⟨w.heap.size, 6, none⟩ = some (.slice a.ha a.hoard.length a.hc) ∧ ((w.alloc (oFo a)).alloc (oFo b)).cell? ⟨w.heap.size + 1, 6, none⟩ = some (.slice b.ha b.hoard.length b.hc)) := Lib.hid ⟨by simp, by simp⟩
                  have HS : Hid (((w.alloc (oFo a)).alloc (oFo b)).heap.size = w.heap.size + 1 + 1) := Lib.hid (by simp)
                  have HXw := Lib.hid hX
                  clear hX
                  generalize (w.alloc (oFo a)).alloc (oFo b) = V at *
                  go_loopg [5] a.script.length (fun m s5 wr => ∃ (k q : Nat), k ≤ a.script.length ∧ m = a.script.length - k ∧ s5 = .int .i64 (k : Int) ∧ Hid (wr = V.drewN q) ∧ Hid (a.script.take k = b.script.take k))
                  case atStart => exact ⟨0, 0, by omega, rfl, rfl, Lib.hid rfl, Lib.hid (by simp)⟩
                  case round =>
                    obtain ⟨k, q, hk, rfl, rfl, HW, HE⟩ := hrel
                    have hbw : Below V.heap.size V wr := by rw [HW.out]; exact below_drewN (Below.refl _ _) q
                    have u1 : wr.cell? ⟨w.heap.size, 5, none⟩ = some (.slice a.sa a.script.length a.sc) := (hbw.cell (p := ⟨w.heap.size, 5, none⟩) (by rw [HS.out]; simp; omega)).trans HVscript.out.1
                    have u2 : wr.cell? ⟨w.heap.size + 1, 5, none⟩ = some (.slice b.sa b.script.length b.sc) := (hbw.cell (p := ⟨w.heap.size + 1, 5, none⟩) (by rw [HS.out]; simp)).trans HVscript.out.2
                    by_cases hkl : k < a.script.length
                    · have hkl' : (k : Int) < a.script.length := by omega
                      have hkl2 : (k : Int) < b.script.length := by have := K6.out; omega
                      obtain ⟨s, hs⟩ : ∃ s, a.script[k]? = some s := ⟨_, List.getElem?_eq_getElem hkl⟩
                      obtain ⟨t, ht⟩ : ∃ t, b.script[k]? = some t := ⟨_, List.getElem?_eq_getElem (by omega)⟩
                      obtain ⟨p, off, hA, hpl, c0, c1, c2, c3, c4⟩ := rowLn HAscript.out hs hbw (by rw [HS.out]; omega)
                      obtain ⟨p', off', hA', hpl', d0, d1, d2, d3, d4⟩ := rowLn HBscript.out ht hbw (by rw [HS.out]; omega)
                      rw [hA] at u1; rw [hA'] at u2
                      obtain ⟨e, he⟩ := bex (¬ s = t)
                      have hq : ∀ V : World, (binOp .neq 73 (.agg #[.int .i64 s.phase, .int .i64 s.whn, .int .i64 s.arg, .int .i64 s.dos, .int .i64 s.value]) (.agg #[.int .i64 t.phase, .int .i64 t.whn, .int .i64 t.arg, .int .i64 t.dos, .int .i64 t.value])).run Tryz.prog V = .ok (.bool e) V := neq_ln s t e he
                      have HSs := Lib.hid hs; have HT := Lib.hid ht; have HEE := Lib.hid he
                      clear hs ht he hbw hA hA'
                      cases e with
                      | true =>
                        have HF := Lib.hid (eq_not H1.out HSs.out HT.out (HEE.out.1 rfl))
                        clear HEE
                        go_wp2
                        go_quiet (fail)
                        go_wp2
                        go_ret
                        have hz := HF.out
                        exact ⟨of_iff HX.out (by rw [Fo.pl_iff, ← H1.out, hz]; simp), by rw [HW.out, World.drewN_drewN]; exact below_drewN HXw.out _⟩
                      | false =>
                        have hst : s = t := Classical.byContradiction (fun h => by have := HEE.out.2 h; cases this)
                        have HE2 := Lib.hid (eq_next HSs.out HT.out HE.out hst)
                        clear HEE hst
                        go_wp2
                        go_quiet (fail)
                        go_wp2
                        go_roundg (a.script.length - (k + 1))
                        case measure => omega
                        case rel => exact ⟨k + 1, q + nq, by omega, rfl, by go_num, Lib.hid (by rw [HW.out, World.drewN_drewN]), HE2⟩
                    · have hkl' : decide ((k : Int) < a.script.length) = false := by simp; omega
                      have HT := Lib.hid (eq_all H1.out (by have := K6.out; omega) (by omega) HE.out)
                      clear hbw
                      go_wp2
                      clear u1 u2
                      have HT0 := HT; have HW0 := HW
                      clear HT HW HE hk hkl hkl'
                      obtain ⟨q0, hq0⟩ : ∃ q0, q0 = q := ⟨_, rfl⟩
                      subst hq0
                      go_loopg [6] a.hoard.length (fun m s5 wr => ∃ (k q : Nat), k ≤ a.hoard.length ∧ m = a.hoard.length - k ∧ s5 = .int .i64 (k : Int) ∧ Hid (wr = V.drewN q) ∧ Hid (a.hoard.take k = b.hoard.take k))
                      case atStart => exact ⟨0, q0, by omega, rfl, rfl, Lib.hid HW0.out, Lib.hid (by simp)⟩
                      case round =>
                        obtain ⟨k, q, hk, rfl, rfl, HW, HE⟩ := hrel
                        have hbw : Below V.heap.size V wr := by rw [HW.out]; exact below_drewN (Below.refl _ _) q
                        have u1 : wr.cell? ⟨w.heap.size, 6, none⟩ = some (.slice a.ha a.hoard.length a.hc) := (hbw.cell (p := ⟨w.heap.size, 6, none⟩) (by rw [HS.out]; simp; omega)).trans HVhoard.out.1
                        have u2 : wr.cell? ⟨w.heap.size + 1, 6, none⟩ = some (.slice b.ha b.hoard.length b.hc) := (hbw.cell (p := ⟨w.heap.size + 1, 6, none⟩) (by rw [HS.out]; simp)).trans HVhoard.out.2
                        by_cases hkl : k < a.hoard.length
                        · have hkl' : (k : Int) < a.hoard.length := by omega
                          have hkl2 : (k : Int) < b.hoard.length := by have := K7.out; omega
                          obtain ⟨s, hs⟩ : ∃ s, a.hoard[k]? = some s := ⟨_, List.getElem?_eq_getElem hkl⟩
                          obtain ⟨t, ht⟩ : ∃ t, b.hoard[k]? = some t := ⟨_, List.getElem?_eq_getElem (by omega)⟩
                          obtain ⟨p, off, hA, hpl, c0, c1⟩ := rowPz HAhoard.out hs hbw (by rw [HS.out]; omega)
                          obtain ⟨p', off', hA', hpl', d0, d1⟩ := rowPz HBhoard.out ht hbw (by rw [HS.out]; omega)
                          rw [hA] at u1; rw [hA'] at u2
                          obtain ⟨e, he⟩ := bex (¬ s = t)
                          have hq : ∀ V : World, (binOp .neq 75 (.agg #[.int .i64 s.item, .int .i64 s.weight]) (.agg #[.int .i64 t.item, .int .i64 t.weight])).run Tryz.prog V = .ok (.bool e) V := neq_pz s t e he
                          have HSs := Lib.hid hs; have HT := Lib.hid ht; have HEE := Lib.hid he
                          clear hs ht he hbw hA hA'
                          cases e with
                          | true =>
                            have HF := Lib.hid (eq_not H2.out HSs.out HT.out (HEE.out.1 rfl))
                            clear HEE
                            go_wp2
                            go_quiet (fail)
                            go_wp2
                            go_ret
                            have hz := HF.out
                            exact ⟨of_iff HX.out (by rw [Fo.pl_iff, ← H1.out, ← H2.out, hz]; simp), by rw [HW.out, World.drewN_drewN]; exact below_drewN HXw.out _⟩
                          | false =>
                            have hst : s = t := Classical.byContradiction (fun h => by have := HEE.out.2 h; cases this)
                            have HE2 := Lib.hid (eq_next HSs.out HT.out HE.out hst)
                            clear HEE hst
                            go_wp2
                            go_quiet (fail)
                            go_wp2
                            go_roundg (a.hoard.length - (k + 1))
                            case measure => omega
                            case rel => exact ⟨k + 1, q + nq, by omega, rfl, by go_num, Lib.hid (by rw [HW.out, World.drewN_drewN]), HE2⟩
                        · have hkl' : decide ((k : Int) < a.hoard.length) = false := by simp; omega
                          have HT := Lib.hid (eq_all H2.out (by have := K7.out; omega) (by omega) HE.out)
                          clear hbw
                          go_wp2
                          go_ret
                          exact ⟨of_iff HX.out (by rw [Fo.pl_iff, ← H1.out, ← H2.out]; simp [HT.out, HT0.out, K0.out, K1.out, K2.out, K3.out, K4.out, K5.out]), by rw [HW.out]; exact below_drewN HXw.out q⟩
                · have K7 := Lib.hid h7; clear h7
                  have r0 : (a.id != b.id) = false := (by simpa using K0.out); have r1 : (a.health != b.health) = false := (by simpa using K1.out); have r2 : (a.hit != b.hit) = false := (by simpa using K2.out); have r3 : (a.every != b.every) = false := (by simpa using K3.out); have r4 : (a.reach != b.reach) = false := (by simpa using K4.out); have r5 : (a.drops != b.drops) = false := (by simpa using K5.out); have r6 : ((a.script.length : Int) != (b.script.length : Int)) = false := (by simpa using K6.out)
                  have r7 : ((a.hoard.length : Int) != (b.hoard.length : Int)) = true := by simpa using K7.out
                  go_enter Tryz.func37, Tryz.ntmps37
                  go_wp2
                  go_ret
                  exact ⟨of_iff HX.out (by rw [Fo.pl_iff]; have hne : a.hoard ≠ b.hoard := (fun h => K7.out (by rw [h])); simp [hne]), by go_grown⟩
              · have K6 := Lib.hid h6; clear h6
                have r0 : (a.id != b.id) = false := (by simpa using K0.out); have r1 : (a.health != b.health) = false := (by simpa using K1.out); have r2 : (a.hit != b.hit) = false := (by simpa using K2.out); have r3 : (a.every != b.every) = false := (by simpa using K3.out); have r4 : (a.reach != b.reach) = false := (by simpa using K4.out); have r5 : (a.drops != b.drops) = false := (by simpa using K5.out)
                have r6 : ((a.script.length : Int) != (b.script.length : Int)) = true := by simpa using K6.out
                go_enter Tryz.func37, Tryz.ntmps37
                go_wp2
                go_ret
                exact ⟨of_iff HX.out (by rw [Fo.pl_iff]; have hne : a.script ≠ b.script := (fun h => K6.out (by rw [h])); simp [hne]), by go_grown⟩
            · have K5 := Lib.hid h5; clear h5
              have r0 : (a.id != b.id) = false := (by simpa using K0.out); have r1 : (a.health != b.health) = false := (by simpa using K1.out); have r2 : (a.hit != b.hit) = false := (by simpa using K2.out); have r3 : (a.every != b.every) = false := (by simpa using K3.out); have r4 : (a.reach != b.reach) = false := (by simpa using K4.out)
              have r5 : (a.drops != b.drops) = true := by simpa using K5.out
              go_enter Tryz.func37, Tryz.ntmps37
              go_wp2
              go_ret
              exact ⟨of_iff HX.out (by rw [Fo.pl_iff]; simp [K5.out]), by go_grown⟩
          · have K4 := Lib.hid h4; clear h4
            have r0 : (a.id != b.id) = false := (by simpa using K0.out); have r1 : (a.health != b.health) = false := (by simpa using K1.out); have r2 : (a.hit != b.hit) = false := (by simpa using K2.out); have r3 : (a.every != b.every) = false := (by simpa using K3.out)
            have r4 : (a.reach != b.reach) = true := by simpa using K4.out
            go_enter Tryz.func37, Tryz.ntmps37
            go_wp2
            go_ret
            exact ⟨of_iff HX.out (by rw [Fo.pl_iff]; simp [K4.out]), by go_grown⟩
        · have K3 := Lib.hid h3; clear h3
          have r0 : (a.id != b.id) = false := (by simpa using K0.out); have r1 : (a.health != b.health) = false := (by simpa using K1.out); have r2 : (a.hit != b.hit) = false := (by simpa using K2.out)
          have r3 : (a.every != b.every) = true := by simpa using K3.out
          go_enter Tryz.func37, Tryz.ntmps37
          go_wp2
          go_ret
          exact ⟨of_iff HX.out (by rw [Fo.pl_iff]; simp [K3.out]), by go_grown⟩
      · have K2 := Lib.hid h2; clear h2
        have r0 : (a.id != b.id) = false := (by simpa using K0.out); have r1 : (a.health != b.health) = false := (by simpa using K1.out)
        have r2 : (a.hit != b.hit) = true := by simpa using K2.out
        go_enter Tryz.func37, Tryz.ntmps37
        go_wp2
        go_ret
        exact ⟨of_iff HX.out (by rw [Fo.pl_iff]; simp [K2.out]), by go_grown⟩
    · have K1 := Lib.hid h1; clear h1
      have r0 : (a.id != b.id) = false := (by simpa using K0.out)
      have r1 : (a.health != b.health) = true := by simpa using K1.out
      go_enter Tryz.func37, Tryz.ntmps37
      go_wp2
      go_ret
      exact ⟨of_iff HX.out (by rw [Fo.pl_iff]; simp [K1.out]), by go_grown⟩
  · have K0 := Lib.hid h0; clear h0
    have r0 : (a.id != b.id) = true := by simpa using K0.out
    go_enter Tryz.func37, Tryz.ntmps37
    go_wp2
    go_ret
    exact ⟨of_iff HX.out (by rw [Fo.pl_iff]; simp [K0.out]), by go_grown⟩
end Go.Proofs.YtpjenkgimkndaaaGreat.Con
